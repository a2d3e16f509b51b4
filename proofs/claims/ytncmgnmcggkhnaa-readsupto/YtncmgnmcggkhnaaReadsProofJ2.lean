import Derived.Test.YtncmgnmcggkhnaaReadsProofJ1
namespace Go.Proofs.Ytncmgnmcggkhnaa
open Go.RowKit

def UptoP (method many order total k : Nat) (xs : List Int) (σ σ' : Option (List Bool)) : Prop :=
  (∃ l l' : List Bool, σ = some l ∧ σ' = some l' ∧ pParts method many order total l = (pParts method many (if k = 0 then order else 0) (total - k) l').map fun (ys, r) => (xs ++ ys, r)) ∨
  (σ' = none ∧ ∀ ys, Ends (pParts method many order total) σ ys none)

theorem UptoP.start (method many order total : Nat) (σ : Option (List Bool)) : UptoP method many order total 0 [] σ σ := by
  cases σ with
  | none => exact .inr ⟨rfl, fun _ => rfl⟩
  | some l =>
    refine .inl ⟨l, l, rfl, rfl, ?_⟩
    rw [Nat.sub_zero, if_pos rfl]
    cases pParts method many order total l <;> rfl

theorem UptoP.next {method many order total k : Nat} {xs ys : List Int} {σ σ' σ'' : Option (List Bool)} (h : UptoP method many order total k xs σ σ') (hk : k < total) (hl : σ' ≠ none)
    (hx : Ends (pPart method (many - (if k = 0 then order else 0))) σ' ys σ'') : UptoP method many order total (k + 1) (xs ++ ys) σ σ'' := by
  rcases h with ⟨l, l', rfl, rfl, hp⟩ | ⟨rfl, _⟩
  · obtain ⟨m, hm⟩ : ∃ m, total - k = m + 1 := ⟨total - k - 1, by omega⟩
    have hm' : total - (k + 1) = m := by omega
    rw [hm] at hp
    generalize (if k = 0 then order else 0) = less at hp hx
    have e : pParts method many less (m + 1) l' = (pPart method (many - less) l').bind fun (xs, r) => (pParts method many 0 m r).map fun (ys, r') => (xs ++ ys, r') := rfl
    rw [e] at hp
    rcases hx.cases with ⟨r, hf, rfl⟩ | ⟨hf, rfl⟩
    · rw [hf] at hp
      refine .inl ⟨l, r, rfl, rfl, ?_⟩
      rw [hp, hm', if_neg (by omega)]
      show ((pParts method many 0 m r).map _).map _ = _
      rw [Option.map_map]
      congr 1
      funext z
      obtain ⟨z1, z2⟩ := z
      simp
    · rw [hf] at hp
      refine .inr ⟨rfl, fun ys => Ends.fail (fun l0 e0 => ?_)⟩
      cases e0
      exact hp
  · exact absurd rfl hl

theorem UptoP.ends {method many order total : Nat} {xs : List Int} {σ σ' : Option (List Bool)} (h : UptoP method many order total total xs σ σ') : Ends (pParts method many order total) σ xs σ' := by
  rcases h with ⟨l, l', rfl, rfl, hp⟩ | ⟨rfl, h⟩
  · refine Ends.of ?_
    rw [hp, Nat.sub_self]
    show some (xs ++ [], l') = _
    simp
  · exact h xs

theorem UptoP.dead {method many order total k : Nat} {xs : List Int} {σ : Option (List Bool)} (h : UptoP method many order total k xs σ none) (ys : List Int) : Ends (pParts method many order total) σ ys none := by
  rcases h with ⟨l, l', rfl, h, _⟩ | ⟨_, h⟩
  · cases h
  · exact h ys

/-- how a part's numbers are read -/
def reads (method k m : Nat) : P Int := if k = 15 + 16 * method then pSigned m else pRice k

theorem part_plain {method cnt k m : Nat} {ys : List Int} {σ σ1 σ2 σ3 : Option (List Bool)} (h1 : Ends (pNum (4 + method)) σ k σ1) (hk : k = 15 + 16 * method)
    (h2 : Ends (pNum 5) σ1 m σ2) (h3 : Ends (pList (reads method k m) cnt) σ2 ys σ3) : Ends (pPart method cnt) σ ys σ3 := by
  unfold reads at h3
  rw [if_pos hk] at h3
  refine Ends.bind h1 (q := fun k r => if k = 15 + 16 * method then (pNum 5 r).bind fun (m, r') => pList (pSigned m) cnt r' else pList (pRice k) cnt r) ?_
  have e : (fun r => if k = 15 + 16 * method then (pNum 5 r).bind fun (m, r') => pList (pSigned m) cnt r' else pList (pRice k) cnt r) = fun r => (pNum 5 r).bind fun (m, r') => pList (pSigned m) cnt r' := by
    funext r; rw [if_pos hk]
  rw [e]
  exact Ends.bind h2 (q := fun m r' => pList (pSigned m) cnt r') h3

theorem part_rice {method cnt k m : Nat} {ys : List Int} {σ σ1 σ3 : Option (List Bool)} (h1 : Ends (pNum (4 + method)) σ k σ1) (hk : ¬ k = 15 + 16 * method)
    (h3 : Ends (pList (reads method k m) cnt) σ1 ys σ3) : Ends (pPart method cnt) σ ys σ3 := by
  unfold reads at h3
  rw [if_neg hk] at h3
  refine Ends.bind h1 (q := fun k r => if k = 15 + 16 * method then (pNum 5 r).bind fun (m, r') => pList (pSigned m) cnt r' else pList (pRice k) cnt r) ?_
  have e : (fun r => if k = 15 + 16 * method then (pNum 5 r).bind fun (m, r') => pList (pSigned m) cnt r' else pList (pRice k) cnt r) = fun r => pList (pRice k) cnt r := by
    funext r; rw [if_neg hk]
  rw [e]
  exact h3

theorem residue_yes {n order method p : Nat} {xs : List Int} {σ σ1 σ2 σ3 : Option (List Bool)} (h1 : Ends (pNum 2) σ method σ1) (h2 : Ends (pNum 4) σ1 p σ2)
    (hc : method ≤ 1 ∧ n % 2 ^ p = 0 ∧ order ≤ n / 2 ^ p) (h3 : Ends (pParts method (n / 2 ^ p) order (2 ^ p)) σ2 xs σ3) : Ends (pResidue n order) σ xs σ3 := by
  refine Ends.bind h1 (q := fun method r => (pNum 4 r).bind fun (p, r') => if method ≤ 1 ∧ n % 2 ^ p = 0 ∧ order ≤ n / 2 ^ p then pParts method (n / 2 ^ p) order (2 ^ p) r' else none) ?_
  refine Ends.bind h2 (q := fun p r' => if method ≤ 1 ∧ n % 2 ^ p = 0 ∧ order ≤ n / 2 ^ p then pParts method (n / 2 ^ p) order (2 ^ p) r' else none) ?_
  have e : (fun r' => if method ≤ 1 ∧ n % 2 ^ p = 0 ∧ order ≤ n / 2 ^ p then pParts method (n / 2 ^ p) order (2 ^ p) r' else none) = pParts method (n / 2 ^ p) order (2 ^ p) := by
    funext r; rw [if_pos hc]
  rw [e]
  exact h3

theorem residue_no {n order method p : Nat} {xs : List Int} {σ σ1 σ2 : Option (List Bool)} (h1 : Ends (pNum 2) σ method σ1) (h2 : Ends (pNum 4) σ1 p σ2)
    (hc : ¬ (method ≤ 1 ∧ n % 2 ^ p = 0 ∧ order ≤ n / 2 ^ p)) : Ends (pResidue n order) σ xs none := by
  refine Ends.bind h1 (q := fun method r => (pNum 4 r).bind fun (p, r') => if method ≤ 1 ∧ n % 2 ^ p = 0 ∧ order ≤ n / 2 ^ p then pParts method (n / 2 ^ p) order (2 ^ p) r' else none) ?_
  refine Ends.bind h2 (q := fun p r' => if method ≤ 1 ∧ n % 2 ^ p = 0 ∧ order ≤ n / 2 ^ p then pParts method (n / 2 ^ p) order (2 ^ p) r' else none) ?_
  exact Ends.fail (fun _ _ => if_neg hc)

theorem residue_dead {n order method p : Nat} {xs : List Int} {σ σ1 : Option (List Bool)} (h1 : Ends (pNum 2) σ method σ1) (h2 : Ends (pNum 4) σ1 p none) : Ends (pResidue n order) σ xs none := by
  refine Ends.bind h1 (q := fun method r => (pNum 4 r).bind fun (p, r') => if method ≤ 1 ∧ n % 2 ^ p = 0 ∧ order ≤ n / 2 ^ p then pParts method (n / 2 ^ p) order (2 ^ p) r' else none) ?_
  exact Ends.bind h2 (q := fun p r' => if method ≤ 1 ∧ n % 2 ^ p = 0 ∧ order ≤ n / 2 ^ p then pParts method (n / 2 ^ p) order (2 ^ p) r' else none) Ends.dead

/-! how many numbers there are -/

theorem pList_length (f : P Int) : ∀ (n : Nat) (l : List Bool) (xs : List Int) (r : List Bool), pList f n l = some (xs, r) → xs.length = n
  | 0, l, xs, r, h => by
    have h' : some (([] : List Int), l) = some (xs, r) := h
    injection h' with h'
    injection h' with h1 h2
    rw [← h1]; rfl
  | n + 1, l, xs, r, h => by
    have h' : ((f l).bind fun (x, r) => (pList f n r).map fun (xs, r') => (x :: xs, r')) = some (xs, r) := h
    cases hf : f l with
    | none => rw [hf] at h'; cases h'
    | some y =>
      obtain ⟨y, r1⟩ := y
      rw [hf] at h'
      have h2 : (pList f n r1).map (fun (xs, r') => (y :: xs, r')) = some (xs, r) := h'
      cases hp : pList f n r1 with
      | none => rw [hp] at h2; cases h2
      | some z =>
        obtain ⟨z, r2⟩ := z
        rw [hp] at h2
        injection h2 with h2
        injection h2 with h3 h4
        rw [← h3, List.length_cons, pList_length f n r1 z r2 hp]

theorem pPart_length (method many : Nat) (l : List Bool) (xs : List Int) (r : List Bool) (h : pPart method many l = some (xs, r)) : xs.length = many := by
  unfold pPart at h
  cases hk : pNum (4 + method) l with
  | none => rw [hk] at h; cases h
  | some k =>
    obtain ⟨k, r1⟩ := k
    rw [hk] at h
    simp only [Option.bind_some] at h
    split at h
    · cases hm : pNum 5 r1 with
      | none => rw [hm] at h; cases h
      | some m =>
        obtain ⟨m, r2⟩ := m
        rw [hm] at h
        exact pList_length _ _ _ _ _ h
    · exact pList_length _ _ _ _ _ h

theorem pParts_length (method many : Nat) : ∀ (c less : Nat) (l : List Bool) (xs : List Int) (r : List Bool), (c = 0 → less = 0) → less ≤ many → pParts method many less c l = some (xs, r) → xs.length + less = c * many
  | 0, less, l, xs, r, h0, _, h => by
    have h' : some (([] : List Int), l) = some (xs, r) := h
    injection h' with h'
    injection h' with h1 h2
    rw [← h1, h0 rfl]; simp
  | c + 1, less, l, xs, r, _, hle, h => by
    have h' : ((pPart method (many - less) l).bind fun (xs, r) => (pParts method many 0 c r).map fun (ys, r') => (xs ++ ys, r')) = some (xs, r) := h
    cases hf : pPart method (many - less) l with
    | none => rw [hf] at h'; cases h'
    | some y =>
      obtain ⟨y, r1⟩ := y
      rw [hf] at h'
      have h2 : (pParts method many 0 c r1).map (fun (ys, r') => (y ++ ys, r')) = some (xs, r) := h'
      cases hp : pParts method many 0 c r1 with
      | none => rw [hp] at h2; cases h2
      | some z =>
        obtain ⟨z, r2⟩ := z
        rw [hp] at h2
        injection h2 with h2
        injection h2 with h3 h4
        have e1 := pPart_length _ _ _ _ _ hf
        have e2 := pParts_length method many c 0 r1 z r2 (fun _ => rfl) (Nat.zero_le _) hp
        rw [← h3, List.length_append, Nat.succ_mul, e1]
        omega

theorem pResidue_length (n order : Nat) (l : List Bool) (xs : List Int) (r : List Bool) (h : pResidue n order l = some (xs, r)) : xs.length + order = n := by
  unfold pResidue at h
  cases hk : pNum 2 l with
  | none => rw [hk] at h; cases h
  | some k =>
    obtain ⟨k, r1⟩ := k
    rw [hk] at h
    simp only [Option.bind_some] at h
    cases hm : pNum 4 r1 with
    | none => rw [hm] at h; cases h
    | some m =>
      obtain ⟨m, r2⟩ := m
      rw [hm] at h
      simp only [Option.bind_some] at h
      split at h
      · rename_i hc
        have hp := Nat.two_pow_pos m
        have e := pParts_length k (n / 2 ^ m) (2 ^ m) order r2 xs r (fun h0 => by omega) hc.2.2 h
        rw [e, Nat.mul_comm]
        exact Nat.div_mul_cancel (Nat.dvd_of_mod_eq_zero hc.2.1)
      · cases h

def Mid (xs : List Int) : Prop := ∀ x ∈ xs, -70368744177664 ≤ x ∧ x ≤ 70368744177664

theorem Mid.nil : Mid [] := fun x hx => by cases hx

theorem Mid.snoc {xs : List Int} {x : Int} (h : Mid xs) (hx : -70368744177664 ≤ x ∧ x ≤ 70368744177664) : Mid (xs ++ [x]) := by
  intro y hy
  rcases List.mem_append.1 hy with hy | hy
  · exact h y hy
  · rw [List.mem_singleton.1 hy]; exact hx

end Go.Proofs.Ytncmgnmcggkhnaa

namespace Go.Proofs.Ytncmgnmcggkhnaa
open Go.RowKit

theorem pow_le15 (p : Nat) (h : p < 16) : 2 ^ p ≤ 32768 := Nat.pow_le_pow_right (n := 2) (j := 15) (by omega) (by omega)

theorem zs_len {zs xs ys : List Int} {j c : Nat} (h : zs = xs ++ ys) (hj : ys.length ≤ j) (hc : xs.length ≤ c) : zs.length ≤ c + j := by
  rw [h, List.length_append]; omega

theorem kk_le (method kk : Nat) (h : method ≤ 1) (hk : kk < 2 ^ (4 + method)) : kk ≤ 15 + 16 * method := by
  rcases (show method = 0 ∨ method = 1 by omega) with rfl | rfl
  · have : kk < 16 := hk
    omega
  · have : kk < 32 := hk
    omega

theorem rnumI (w : World) (b : Nat) (s : ByteArray) (a : Int) (n : Nat) (σ : Option (List Bool)) (hs : s.size ≤ 6000) (hn : n ≤ 48) (ha : a = n) (h : St 86 w b s σ) :
    Calls Try.prog 64 #[.pointer (some ⟨b, 0, none⟩), .int .i64 a] w fun e w' =>
      ∃ (v : Nat) (σ' : Option (List Bool)), e = .returned (.int .i64 v) ∧ v < 2 ^ n ∧ w.grownBy w' (some b) ∧ St 86 w' b s σ' ∧ Ends (pNum n) σ v σ' := by
  subst ha
  exact rnum w b s n σ hs hn h

set_option maxHeartbeats 2000000 in
set_option maxRecDepth 20000 in
theorem rresidue (w : World) (b : Nat) (s : ByteArray) (n order : Nat) (σ : Option (List Bool)) (hs : s.size ≤ 6000) (hn : n ≤ 256) (hn1 : 1 ≤ n) (ho : order ≤ n) (h : St 86 w b s σ) :
    Calls Try.prog 125 #[.pointer (some ⟨b, 0, none⟩), .int .i64 n, .int .i64 order] w (ListPost w b s σ (pResidue n order) Mid) := by
  obtain ⟨i0, hi, hz0, hz1, hz2⟩ := info_parts Try.info3
  have hblt := h.lt
  go_enter Try.func125, Try.ntmps125
  go_wp2_with fail
  refine (rnum _ _ _ 2 _ hs (by omega) h).mono ?_
  rintro e w1 ⟨method, σ1, rfl, hmeth, hg1, hst1, hends1⟩
  go_wp2_with fail
  refine (rnum _ _ _ 4 _ hs (by omega) hst1).mono ?_
  rintro e w2 ⟨p, σ2, rfl, hp, hg2, hst2, hends2⟩
  have hg := grown_trans hg1 hg2
  clear hg1 hg2 hst1
  have hp16 : p < 16 := hp
  have hm4 : method < 4 := hmeth
  clear hp hmeth
  go_wp2
  go_loop [8, 9] (fun t i => ∃ k q : Nat, k ≤ p ∧ i = .int .i64 k ∧ t = .int .i64 q ∧ q ≤ 32768 ∧ Hid (q = 2 ^ (p - k))) (fun _ i => (intOf i).toNat)
  case atStart => exact ⟨p, 1, Nat.le_refl _, rfl, rfl, by omega, (by simp : _ = _)⟩
  case round =>
    obtain ⟨k, q, hk, rfl, rfl, hq, hqe⟩ := hrel
    by_cases hk0 : 0 < k
    · have hq2 : q ≤ 16384 := by
        have e : q = 2 ^ (p - k) := hqe.out
        have : 2 ^ (p - k) ≤ 2 ^ 14 := Nat.pow_le_pow_right (by omega) (by omega)
        omega
      go_wp2
      go_round
      case rel => exact ⟨k - 1, 2 * q, by omega, by go_num, by go_num, by omega, (by rw [hqe.out, show p - (k - 1) = (p - k) + 1 by omega, Nat.pow_succ]; omega : _ = _)⟩
      case measure => simp [intOf]; omega
    · obtain rfl : k = 0 := by omega
      have hqp : 0 < q := by rw [hqe.out]; exact Nat.two_pow_pos _
      have HQ : Hid (q = 2 ^ p) := hqe
      clear hqe
      have hm := hst2.mark
      have hf := hst2.fz 2
      rcases σ2 with _ | l2
      · have hm' : w2.cell? ⟨b, 2, none⟩ = some (.bool true) := hm
        clear hm
        go_wp2
        go_ret
        exact ⟨_, [], none, rfl, Own.nil _ _, Mid.nil, grown_trans hg (grown_set _ _ _ _), hst2.kill hs, residue_dead hends1 hends2⟩
      · have hm' : w2.cell? ⟨b, 2, none⟩ = some (.bool false) := hm
        clear hm
        obtain ⟨m, hmdef⟩ : ∃ m, n / q = m := ⟨_, rfl⟩
        obtain ⟨md, hmddef⟩ : ∃ md, n % q = md := ⟨_, rfl⟩
        have hm256 : m ≤ 256 := by have := Nat.div_le_self n q; omega
        have hdiv : (n : Int) / (q : Int) = (m : Int) := by rw [← hmdef]; simp
        have hmod : (n : Int) % (q : Int) = (md : Int) := by rw [← hmddef]; simp
        have hd0 : (0 : Int) ≤ (n : Int) / (q : Int) := by omega
        have hd1 : (n : Int) / (q : Int) ≤ 256 := by omega
        have hq0 : ¬ q = 0 := by omega
        have HC : Hid ((method ≤ 1 ∧ md = 0 ∧ order ≤ m) ↔ (method ≤ 1 ∧ n % 2 ^ p = 0 ∧ order ≤ n / 2 ^ p)) := by
          show _ ↔ _
          rw [← HQ.out, hmdef, hmddef]
        have HM : Hid (n / 2 ^ p = m) := by
          show _ = _
          rw [← HQ.out, hmdef]
        clear hmdef hmddef
        by_cases hc : method ≤ 1 ∧ md = 0 ∧ order ≤ m
        · have HCC : Hid (method ≤ 1 ∧ n % 2 ^ p = 0 ∧ order ≤ n / 2 ^ p) := HC.out.1 hc
          obtain ⟨hc1, rfl, hc3⟩ := hc
          clear HC
          go_wp2
          go_loopw [10, 11] (fun o i wr => ∃ (k : Nat) (xs : List Int) (σ' : Option (List Bool)), k ≤ q ∧ i = .int .i64 k ∧ Own wr w.heap.size o xs ∧ xs.length ≤ k * 256 ∧ Mid xs ∧ w.grownBy wr (some b) ∧ St 86 wr b s σ' ∧ UptoP method m order q k xs (some l2) σ')
            (fun _ i _ => q - (intOf i).toNat)
          case atStart => exact ⟨0, [], some l2, Nat.zero_le _, rfl, Own.nil _ _, Nat.zero_le _, Mid.nil, hg, hst2, UptoP.start _ _ _ _ _⟩
          case round =>
            obtain ⟨k, xs, σ', hk, rfl, hown, hxl, hmid, hgr, hst, hup⟩ := hrel
            have hm := hst.mark
            by_cases hkq : k < q
            · rcases σ' with _ | l'
              · have hm' : wr.cell? ⟨b, 2, none⟩ = some (.bool true) := hm
                clear hm
                go_wp2
                go_ret
                exact ⟨_, xs, none, rfl, hown, hmid, hgr, hst, residue_yes hends1 hends2 HCC.out (by rw [HM.out, ← HQ.out]; exact hup.dead xs)⟩
              · have hm'' : wr.cell? ⟨b, 2, none⟩ = some (.bool false) := hm
                clear hm
                have hcases : ∃ cnt : Nat, cnt ≤ 256 ∧ Hid (cnt = m - (if k = 0 then order else 0)) ∧ ((k < 1 ∧ (m : Int) - (order : Int) = (cnt : Int)) ∨ (1 ≤ k ∧ cnt = m)) := by
                  rcases Nat.lt_or_ge k 1 with hk0 | hk0
                  · exact ⟨m - order, by omega, (by rw [if_pos (by omega)] : _ = _), .inl ⟨hk0, by omega⟩⟩
                  · exact ⟨m, by omega, (by rw [if_neg (by omega)]; rfl : _ = _), .inr ⟨hk0, rfl⟩⟩
                obtain ⟨cnt, hcnt, HCNT, ⟨hk0, hsub⟩ | ⟨hk0, rfl⟩⟩ := hcases
                all_goals
                  go_wp2_with fail
                  refine (rnumI _ _ _ (4 + (method : Int)) (4 + method) _ hs (by omega) (by omega) hst).mono ?_
                  rintro e w3 ⟨kk, σ3, rfl, hkk0, hg3, hst3, hends3⟩
                  have hkk := kk_le method kk hc1 hkk0
                  clear hkk0
                  have hown3 := hown.kept hg3 hblt
                  have hgr3 := grown_trans hgr hg3
                  clear hown hgr hst hm'' hg3
                  rcases Nat.lt_or_ge kk (15 + 16 * method) with hall | hall
                  · have hnb : ((kk : Int) == 15 + 16 * (method : Int)) = false := by simp; omega
                    go_wp2
                    go_loopw [10, 16] (fun o i wr => ∃ (j : Nat) (ys zs : List Int) (σ' : Option (List Bool)), j ≤ cnt ∧ i = .int .i64 j ∧ Own wr w.heap.size o zs ∧ Hid (zs = xs ++ ys ∧ ys.length ≤ j) ∧ zs.length ≤ 16777216 ∧ Mid zs ∧ w.grownBy wr (some b) ∧ St 86 wr b s σ' ∧ Upto (reads method kk 0) cnt j ys σ3 σ')
                      (fun _ i _ => cnt - (intOf i).toNat)
                    case atStart => exact ⟨0, [], xs, σ3, Nat.zero_le _, rfl, hown3, (⟨by rw [List.append_nil], Nat.le_refl _⟩ : _ ∧ _), by omega, hmid, hgr3, hst3, Upto.start _ _ _⟩
                    case round =>
                      obtain ⟨j, ys, zs, σ5, hj, rfl, hown5, HZ, hzl, hmid5, hgr5, hst5, hup5⟩ := hrel
                      have hm5 := hst5.mark
                      by_cases hjc : j < cnt
                      · rcases σ5 with _ | l5
                        · have hm5' : wr.cell? ⟨b, 2, none⟩ = some (.bool true) := hm5
                          have hupn := hup.next (ys := ys) hkq (by simp) (by rw [← HCNT.out]; exact part_rice hends3 (by omega) (hup5.dead ys))
                          rw [← HZ.out.1] at hupn
                          have hzl2 := zs_len HZ.out.1 HZ.out.2 hxl
                          clear hm5
                          go_wp2
                          go_roundw
                          case rel => first | exact ⟨k + 1, zs, none, by omega, by go_num, hown5, by omega, hmid5, hgr5, hst5, hupn⟩ | ((repeat apply Exists.intro); exact ⟨⟨k + 1, zs, none, by omega, by go_num, hown5, by omega, hmid5, hgr5, hst5, hupn⟩, rfl⟩)
                          case measure => simp [intOf]; omega
                        · have hm5' : wr.cell? ⟨b, 2, none⟩ = some (.bool false) := hm5
                          clear hm5
                          go_wp2_with fail
                          refine (rrice _ _ _ kk _ hs (by omega) hst5).mono ?_
                          rintro e w6 ⟨x, σ6, rfl, hxb1, hxb2, hg6, hst6, hends60⟩
                          have hxb : -70368744177664 ≤ x ∧ x ≤ 70368744177664 := ⟨hxb1, hxb2⟩
                          have hends6 : Ends (reads method kk 0) (some l5) x σ6 := by unfold reads; rw [if_neg (by omega)]; exact hends60
                          clear hends60
                          have hown6 := hown5.kept hg6 hblt
                          go_wp2_with (first
                            | (at_builtin; refine wpList_append_own _ rfl _ _ 30 rfl w.heap.size 3 i0 (.int .i64 0) 1 8 Try.underlying30 hi hz0 hz1 hz2 rfl (by decide) _ _ _ rfl (hown6.alloc _) ⟨w6.heap.size, 0, none⟩ 1 1 [.int .i64 x] rfl rfl ?c1 ?c2 ?c3 ?c4 ?c5 ?_))
                          case c1 => exact one_new _ _ _
                          case c2 => exact one_cell _
                          case c3 => unfold maxLen; omega
                          case c4 => omega
                          case c5 => have := hgr5.size; have := hg6.size; simp; omega
                          intro v' w7 hown' hgrow _
                          have hown7 := hown6.step hown'
                          have hgrow2 := grown_from_alloc hgrow (fun g hg' => (hown6.lt g hg').2)
                          have hg7 : w.grownBy w7 (some b) := grown_own (grown_trans hgr5 hg6) hgrow2 (fun g hg' => (hown6.lt g hg').1)
                          have hst7 : St 86 w7 b s σ6 := hst6.kept hgrow2 (fun e => by have := (hown6.lt b e.symm).1; omega)
                          clear hown' hgrow hgrow2 hown5 hown6 hst5 hst6
                          go_wp2
                          go_roundw
                          case rel => exact ⟨j + 1, ys ++ [x], zs ++ [x], σ6, by omega, by go_num, hown7, (⟨by rw [HZ.out.1, List.append_assoc], by have := HZ.out.2; rw [List.length_append, List.length_singleton]; omega⟩ : _ ∧ _), by have := zs_len HZ.out.1 HZ.out.2 hxl; rw [List.length_append, List.length_singleton]; omega, hmid5.snoc hxb, hg7, hst7, hup5.next hjc (by simp) hends6⟩
                          case measure => simp [intOf]; omega
                      · obtain rfl : j = cnt := by omega
                        have hupn := hup.next (ys := ys) hkq (by simp) (by rw [← HCNT.out]; exact part_rice hends3 (by omega) hup5.ends)
                        rw [← HZ.out.1] at hupn
                        have hzl2 := zs_len HZ.out.1 HZ.out.2 hxl
                        go_wp2
                        go_roundw
                        case rel => first | exact ⟨k + 1, zs, σ5, by omega, by go_num, hown5, by omega, hmid5, hgr5, hst5, hupn⟩ | ((repeat apply Exists.intro); exact ⟨⟨k + 1, zs, σ5, by omega, by go_num, hown5, by omega, hmid5, hgr5, hst5, hupn⟩, rfl⟩)
                        case measure => simp [intOf]; omega
                  · have hnb : ((kk : Int) == 15 + 16 * (method : Int)) = true := by simp; omega
                    go_wp2_with fail
                    refine (rnum _ _ _ 5 _ hs (by omega) hst3).mono ?_
                    rintro e w4 ⟨mm, σ4, rfl, hmm0, hg4, hst4, hends4⟩
                    have hmm : mm < 32 := hmm0
                    have hown4 := hown3.kept hg4 hblt
                    have hgr4 := grown_trans hgr3 hg4
                    clear hown3 hgr3 hst3 hg4 hmm0
                    go_wp2
                    go_loopw [10, 16] (fun o i wr => ∃ (j : Nat) (ys zs : List Int) (σ' : Option (List Bool)), j ≤ cnt ∧ i = .int .i64 j ∧ Own wr w.heap.size o zs ∧ Hid (zs = xs ++ ys ∧ ys.length ≤ j) ∧ zs.length ≤ 16777216 ∧ Mid zs ∧ w.grownBy wr (some b) ∧ St 86 wr b s σ' ∧ Upto (reads method kk mm) cnt j ys σ4 σ')
                      (fun _ i _ => cnt - (intOf i).toNat)
                    case atStart => exact ⟨0, [], xs, σ4, Nat.zero_le _, rfl, hown4, (⟨by rw [List.append_nil], Nat.le_refl _⟩ : _ ∧ _), by omega, hmid, hgr4, hst4, Upto.start _ _ _⟩
                    case round =>
                      obtain ⟨j, ys, zs, σ5, hj, rfl, hown5, HZ, hzl, hmid5, hgr5, hst5, hup5⟩ := hrel
                      have hm5 := hst5.mark
                      by_cases hjc : j < cnt
                      · rcases σ5 with _ | l5
                        · have hm5' : wr.cell? ⟨b, 2, none⟩ = some (.bool true) := hm5
                          have hupn := hup.next (ys := ys) hkq (by simp) (by rw [← HCNT.out]; exact part_plain hends3 (by omega) hends4 (hup5.dead ys))
                          rw [← HZ.out.1] at hupn
                          have hzl2 := zs_len HZ.out.1 HZ.out.2 hxl
                          clear hm5
                          go_wp2
                          go_roundw
                          case rel => first | exact ⟨k + 1, zs, none, by omega, by go_num, hown5, by omega, hmid5, hgr5, hst5, hupn⟩ | ((repeat apply Exists.intro); exact ⟨⟨k + 1, zs, none, by omega, by go_num, hown5, by omega, hmid5, hgr5, hst5, hupn⟩, rfl⟩)
                          case measure => simp [intOf]; omega
                        · have hm5' : wr.cell? ⟨b, 2, none⟩ = some (.bool false) := hm5
                          clear hm5
                          go_wp2_with fail
                          refine (rsigned _ _ _ mm _ hs (by omega) hst5).mono ?_
                          rintro e w6 ⟨v6, σ6, rfl, hv6, hg6, hst6, hends60⟩
                          have hsb := sign_bounds mm v6 (by omega) hv6
                          generalize sign mm v6 = x at hsb hends60 ⊢
                          have hxb : -70368744177664 ≤ x ∧ x ≤ 70368744177664 := by omega
                          have hends6 : Ends (reads method kk mm) (some l5) x σ6 := by unfold reads; rw [if_pos (by omega)]; exact hends60
                          clear hends60
                          have hown6 := hown5.kept hg6 hblt
                          go_wp2_with (first
                            | (at_builtin; refine wpList_append_own _ rfl _ _ 30 rfl w.heap.size 3 i0 (.int .i64 0) 1 8 Try.underlying30 hi hz0 hz1 hz2 rfl (by decide) _ _ _ rfl (hown6.alloc _) ⟨w6.heap.size, 0, none⟩ 1 1 [.int .i64 x] rfl rfl ?c1 ?c2 ?c3 ?c4 ?c5 ?_))
                          case c1 => exact one_new _ _ _
                          case c2 => exact one_cell _
                          case c3 => unfold maxLen; omega
                          case c4 => omega
                          case c5 => have := hgr5.size; have := hg6.size; simp; omega
                          intro v' w7 hown' hgrow _
                          have hown7 := hown6.step hown'
                          have hgrow2 := grown_from_alloc hgrow (fun g hg' => (hown6.lt g hg').2)
                          have hg7 : w.grownBy w7 (some b) := grown_own (grown_trans hgr5 hg6) hgrow2 (fun g hg' => (hown6.lt g hg').1)
                          have hst7 : St 86 w7 b s σ6 := hst6.kept hgrow2 (fun e => by have := (hown6.lt b e.symm).1; omega)
                          clear hown' hgrow hgrow2 hown5 hown6 hst5 hst6
                          go_wp2
                          go_roundw
                          case rel => exact ⟨j + 1, ys ++ [x], zs ++ [x], σ6, by omega, by go_num, hown7, (⟨by rw [HZ.out.1, List.append_assoc], by have := HZ.out.2; rw [List.length_append, List.length_singleton]; omega⟩ : _ ∧ _), by have := zs_len HZ.out.1 HZ.out.2 hxl; rw [List.length_append, List.length_singleton]; omega, hmid5.snoc hxb, hg7, hst7, hup5.next hjc (by simp) hends6⟩
                          case measure => simp [intOf]; omega
                      · obtain rfl : j = cnt := by omega
                        have hupn := hup.next (ys := ys) hkq (by simp) (by rw [← HCNT.out]; exact part_plain hends3 (by omega) hends4 hup5.ends)
                        rw [← HZ.out.1] at hupn
                        have hzl2 := zs_len HZ.out.1 HZ.out.2 hxl
                        go_wp2
                        go_roundw
                        case rel => first | exact ⟨k + 1, zs, σ5, by omega, by go_num, hown5, by omega, hmid5, hgr5, hst5, hupn⟩ | ((repeat apply Exists.intro); exact ⟨⟨k + 1, zs, σ5, by omega, by go_num, hown5, by omega, hmid5, hgr5, hst5, hupn⟩, rfl⟩)
                        case measure => simp [intOf]; omega
            · obtain rfl : k = q := by omega
              go_wp2
              go_ret
              exact ⟨_, xs, σ', rfl, hown, hmid, hgr, hst, residue_yes hends1 hends2 HCC.out (by rw [HM.out, ← HQ.out]; exact hup.ends)⟩
        · have fin : ListPost w b s σ (pResidue n order) Mid (.returned (.slice none 0 0)) (w2.setCell ⟨b, 2, none⟩ (.bool true)) :=
            ⟨_, [], none, rfl, Own.nil _ _, Mid.nil, grown_trans hg (grown_set _ _ _ _), hst2.kill hs, residue_no hends1 hends2 (fun h => hc (HC.out.2 h))⟩
          by_cases hc1 : method ≤ 1
          · by_cases hc2 : md = 0
            · subst hc2
              have hc3 : m < order := by omega
              go_wp2
              go_ret
              exact fin
            · go_wp2
              go_ret
              exact fin
          · go_wp2
            go_ret
            exact fin
end Go.Proofs.Ytncmgnmcggkhnaa

namespace Go.Proofs.Ytncmgnmcggkhnaa
open Go.RowKit

theorem tdiv2 (n : Int) (h : n < 0) : n.tdiv 2 = -((-n) / 2) := by
  have e := Int.neg_tdiv (-n) 2
  rw [Int.neg_neg, Int.tdiv_eq_ediv_of_nonneg (a := -n) (by omega)] at e
  exact e

theorem tmod2 (n : Int) (h : n < 0) : n.tmod 2 = -((-n) % 2) := by
  have e := Int.neg_tmod (-n) 2
  rw [Int.neg_neg, Int.tmod_eq_emod_of_nonneg (a := -n) (by omega)] at e
  exact e

set_option maxHeartbeats 400000 in
theorem rhalf (w : World) (n : Int) (h1 : -4611686018427387904 ≤ n) (h2 : n ≤ 4611686018427387904) :
    Calls Try.prog 126 #[.int .i64 n] w fun e w' => e = .returned (.int .i64 (n / 2)) ∧ w' = w := by
  by_cases h0 : n < 0
  · by_cases hp : n % 2 = 0
    · have ht : (n.tmod 2 != 0) = false := by
        rw [tmod2 n h0]; simp; omega
      have HP : Hid (n % 2 = 0) := hp
      clear hp
      go_enter Try.func126, Try.ntmps126
      go_wp2
      go_ret
      exact ⟨ret_int (by rw [tdiv2 n h0]; have := HP.out; omega), rfl⟩
    · have ht : (n.tmod 2 != 0) = true := by
        rw [tmod2 n h0]; simp; omega
      have HP : Hid (¬ n % 2 = 0) := hp
      clear hp
      go_enter Try.func126, Try.ntmps126
      go_wp2
      go_ret
      exact ⟨ret_int (by rw [tdiv2 n h0, IntWalk.wrap64_in _ ⟨by omega, by omega⟩]; have := HP.out; omega), rfl⟩
  · go_enter Try.func126, Try.ntmps126
    go_wp2
    go_ret
    exact ⟨rfl, rfl⟩

theorem fitsB_iff (bits : Nat) (x : Int) : fitsB bits x = true ↔ -(2 ^ (bits - 1) : Int) ≤ x ∧ x < 2 ^ (bits - 1) := by
  unfold fitsB
  rw [Bool.and_eq_true, decide_eq_true_eq, decide_eq_true_eq, show ((2 ^ (bits - 1) : Nat) : Int) = 2 ^ (bits - 1) by simp]

set_option maxHeartbeats 400000 in
theorem rfits (w : World) (x : Int) (bits : Nat) (hb : 1 ≤ bits) (hb2 : bits ≤ 32) :
    Calls Try.prog 53 #[.int .i64 x, .int .i64 bits] w fun e w' => e = .returned (.bool (fitsB bits x)) ∧ w' = w := by
  have hp := ipow (bits - 1) (by omega)
  by_cases h1 : -(2 ^ (bits - 1) : Int) ≤ x
  · by_cases h2 : x < 2 ^ (bits - 1)
    · have e : fitsB bits x = true := (fitsB_iff _ _).2 ⟨h1, h2⟩
      rw [e]
      go_enter Try.func53, Try.ntmps53
      go_wp2
      go_ret
      exact ⟨rfl, rfl⟩
    · have e : fitsB bits x = false := by
        cases hf : fitsB bits x with
        | false => rfl
        | true => exact absurd ((fitsB_iff _ _).1 hf).2 h2
      rw [e]
      go_enter Try.func53, Try.ntmps53
      go_wp2
      go_ret
      exact ⟨rfl, rfl⟩
  · have e : fitsB bits x = false := by
      cases hf : fitsB bits x with
      | false => rfl
      | true => exact absurd ((fitsB_iff _ _).1 hf).1 h1
    rw [e]
    go_enter Try.func53, Try.ntmps53
    go_wp2
    go_ret
    exact ⟨rfl, rfl⟩

theorem Own.alloc {w : World} {base : Nat} {v : Value} {xs : List Int} (h : Own w base v xs) (o : Obj) : Own (w.alloc o) base v xs := World.ownsRow.alloc h o

/-- a list that is written out -/
theorem own_lit (w : World) (base : Nat) (xs : List Int) (cs : Array Value) (n g : Nat) (hb : base ≤ w.heap.size) (hcs : cs = (xs.map (Value.int .i64)).toArray) (hn : xs.length = n) (hm : n ≤ maxLen) (hg : g = w.heap.size) :
    Own (w.alloc (.cells cs 3)) base (.slice (some ⟨g, 0, none⟩) n n) xs := by
  subst hg hn hcs
  unfold Own
  have := World.ownsRow_lit (base := base) (e := 3) (size := 1) w ((xs.map (Value.int .i64)).toArray) xs.length hb hm (by simp)
  simpa using this

theorem own_at0 (w : World) (o1 o2 o3 o4 o5 : Obj) (xs : List Int) (cs : Array Value) (n : Nat) (hcs : cs = (xs.map (Value.int .i64)).toArray) (hn : xs.length = n) (hm : n ≤ maxLen) :
    Own ((((((w.alloc (.cells cs 3)).alloc o1).alloc o2).alloc o3).alloc o4).alloc o5) w.heap.size (.slice (some ⟨w.heap.size, 0, none⟩) n n) xs :=
  (((((own_lit w w.heap.size xs cs n (w.heap.size) (Nat.le_refl _) hcs hn hm rfl).alloc _).alloc _).alloc _).alloc _).alloc _

theorem own_at1 (w : World) (o0 o2 o3 o4 o5 : Obj) (xs : List Int) (cs : Array Value) (n : Nat) (hcs : cs = (xs.map (Value.int .i64)).toArray) (hn : xs.length = n) (hm : n ≤ maxLen) :
    Own ((((((w.alloc o0).alloc (.cells cs 3)).alloc o2).alloc o3).alloc o4).alloc o5) w.heap.size (.slice (some ⟨w.heap.size + 1, 0, none⟩) n n) xs :=
  ((((own_lit (w.alloc o0) w.heap.size xs cs n (w.heap.size + 1) (by simp <;> omega) hcs hn hm (by simp)).alloc _).alloc _).alloc _).alloc _

theorem own_at2 (w : World) (o0 o1 o3 o4 o5 : Obj) (xs : List Int) (cs : Array Value) (n : Nat) (hcs : cs = (xs.map (Value.int .i64)).toArray) (hn : xs.length = n) (hm : n ≤ maxLen) :
    Own ((((((w.alloc o0).alloc o1).alloc (.cells cs 3)).alloc o3).alloc o4).alloc o5) w.heap.size (.slice (some ⟨w.heap.size + 1 + 1, 0, none⟩) n n) xs :=
  (((own_lit ((w.alloc o0).alloc o1) w.heap.size xs cs n (w.heap.size + 1 + 1) (by simp <;> omega) hcs hn hm (by simp)).alloc _).alloc _).alloc _

theorem own_at3 (w : World) (o0 o1 o2 o4 o5 : Obj) (xs : List Int) (cs : Array Value) (n : Nat) (hcs : cs = (xs.map (Value.int .i64)).toArray) (hn : xs.length = n) (hm : n ≤ maxLen) :
    Own ((((((w.alloc o0).alloc o1).alloc o2).alloc (.cells cs 3)).alloc o4).alloc o5) w.heap.size (.slice (some ⟨w.heap.size + 1 + 1 + 1, 0, none⟩) n n) xs :=
  ((own_lit (((w.alloc o0).alloc o1).alloc o2) w.heap.size xs cs n (w.heap.size + 1 + 1 + 1) (by simp <;> omega) hcs hn hm (by simp)).alloc _).alloc _

theorem own_at4 (w : World) (o0 o1 o2 o3 o5 : Obj) (xs : List Int) (cs : Array Value) (n : Nat) (hcs : cs = (xs.map (Value.int .i64)).toArray) (hn : xs.length = n) (hm : n ≤ maxLen) :
    Own ((((((w.alloc o0).alloc o1).alloc o2).alloc o3).alloc (.cells cs 3)).alloc o5) w.heap.size (.slice (some ⟨w.heap.size + 1 + 1 + 1 + 1, 0, none⟩) n n) xs :=
  (own_lit ((((w.alloc o0).alloc o1).alloc o2).alloc o3) w.heap.size xs cs n (w.heap.size + 1 + 1 + 1 + 1) (by simp <;> omega) hcs hn hm (by simp)).alloc _

theorem six_new (w : World) (o0 o1 o2 o3 o4 o5 : Obj) : w.grownBy ((((((w.alloc o0).alloc o1).alloc o2).alloc o3).alloc o4).alloc o5) none :=
  grown_alloc (grown_alloc (grown_alloc (grown_alloc (grown_alloc (grown_alloc (grown_refl _ _) _) _) _) _) _) _

set_option maxHeartbeats 400000 in
theorem rfixed0 (w : World) :
    Calls Try.prog 96 #[.int .i64 0] w fun e w' => ∃ g cap, e = .returned (.slice (some ⟨g, 0, none⟩) 0 cap) ∧ Own w' w.heap.size (.slice (some ⟨g, 0, none⟩) 0 cap) [] ∧ w.grownBy w' none := by
  go_enter Try.func96, Try.ntmps96
  go_wp2
  go_ret
  exact ⟨_, _, rfl, own_at0 w _ _ _ _ _ [] _ 0 rfl rfl (by decide), six_new _ _ _ _ _ _ _⟩

set_option maxHeartbeats 400000 in
theorem rfixed1 (w : World) :
    Calls Try.prog 96 #[.int .i64 1] w fun e w' => ∃ g cap, e = .returned (.slice (some ⟨g, 0, none⟩) 1 cap) ∧ Own w' w.heap.size (.slice (some ⟨g, 0, none⟩) 1 cap) [1] ∧ w.grownBy w' none := by
  go_enter Try.func96, Try.ntmps96
  go_wp2
  go_ret
  exact ⟨_, _, rfl, own_at1 w _ _ _ _ _ [1] _ 1 rfl rfl (by decide), six_new _ _ _ _ _ _ _⟩

set_option maxHeartbeats 400000 in
theorem rfixed2 (w : World) :
    Calls Try.prog 96 #[.int .i64 2] w fun e w' => ∃ g cap, e = .returned (.slice (some ⟨g, 0, none⟩) 2 cap) ∧ Own w' w.heap.size (.slice (some ⟨g, 0, none⟩) 2 cap) [2, -1] ∧ w.grownBy w' none := by
  go_enter Try.func96, Try.ntmps96
  go_wp2
  go_ret
  exact ⟨_, _, rfl, own_at2 w _ _ _ _ _ [2, -1] _ 2 rfl rfl (by decide), six_new _ _ _ _ _ _ _⟩

set_option maxHeartbeats 400000 in
theorem rfixed3 (w : World) :
    Calls Try.prog 96 #[.int .i64 3] w fun e w' => ∃ g cap, e = .returned (.slice (some ⟨g, 0, none⟩) 3 cap) ∧ Own w' w.heap.size (.slice (some ⟨g, 0, none⟩) 3 cap) [3, -3, 1] ∧ w.grownBy w' none := by
  go_enter Try.func96, Try.ntmps96
  go_wp2
  go_ret
  exact ⟨_, _, rfl, own_at3 w _ _ _ _ _ [3, -3, 1] _ 3 rfl rfl (by decide), six_new _ _ _ _ _ _ _⟩

set_option maxHeartbeats 400000 in
theorem rfixed4 (w : World) :
    Calls Try.prog 96 #[.int .i64 4] w fun e w' => ∃ g cap, e = .returned (.slice (some ⟨g, 0, none⟩) 4 cap) ∧ Own w' w.heap.size (.slice (some ⟨g, 0, none⟩) 4 cap) [4, -6, 4, -1] ∧ w.grownBy w' none := by
  go_enter Try.func96, Try.ntmps96
  go_wp2
  go_ret
  exact ⟨_, _, rfl, own_at4 w _ _ _ _ _ [4, -6, 4, -1] _ 4 rfl rfl (by decide), six_new _ _ _ _ _ _ _⟩

theorem rfixed (w : World) (o : Nat) (ho : o ≤ 4) (a : Int) (ha : a = o) :
    Calls Try.prog 96 #[.int .i64 a] w fun e w' => ∃ g cap, e = .returned (.slice (some ⟨g, 0, none⟩) o cap) ∧ Own w' w.heap.size (.slice (some ⟨g, 0, none⟩) o cap) (fixedFactors o) ∧ w.grownBy w' none := by
  subst ha
  rcases (show o = 0 ∨ o = 1 ∨ o = 2 ∨ o = 3 ∨ o = 4 by omega) with rfl | rfl | rfl | rfl | rfl
  · exact rfixed0 w
  · exact rfixed1 w
  · exact rfixed2 w
  · exact rfixed3 w
  · exact rfixed4 w

end Go.Proofs.Ytncmgnmcggkhnaa
