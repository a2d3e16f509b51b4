import Derived.Test.YtncmgnmcggkhnaaG10
namespace Go.Proofs.Ytncmgnmcggkhnaa
open Go.RowKit

/-- so many of a list have been read; what is read next goes behind them -/
def Goes (f : P Int) (n k : Nat) (xs : List Int) (σ σ' : Option (List Bool)) : Prop :=
  ∀ ys σ'', Ends (pList f (n - k)) σ' ys σ'' → Ends (pList f n) σ (xs ++ ys) σ''

theorem list_cons_ends {f : P Int} {m : Nat} {x : Int} {ys : List Int} {σ σ1 σ2 : Option (List Bool)} (h1 : Ends f σ x σ1) (h2 : Ends (pList f m) σ1 ys σ2) : Ends (pList f (m + 1)) σ (x :: ys) σ2 := by
  have h3 : Ends (fun r => (pList f m r).map fun (xs, r') => (x :: xs, r')) σ1 (x :: ys) σ2 := Ends.map (f := fun xs => x :: xs) h2
  exact Ends.bind (p := f) (q := fun (x : Int) r => (pList f m r).map fun (xs, r') => (x :: xs, r')) h1 h3

theorem Goes.start (f : P Int) (n : Nat) (σ : Option (List Bool)) : Goes f n 0 [] σ σ := fun _ _ h => h

theorem Goes.next {f : P Int} {n k : Nat} {xs : List Int} {x : Int} {σ σ' σ1 : Option (List Bool)} (h : Goes f n k xs σ σ') (hk : k < n) (hx : Ends f σ' x σ1) : Goes f n (k + 1) (xs ++ [x]) σ σ1 := by
  intro ys σ'' hy
  rw [List.append_assoc]
  refine h _ _ ?_
  rw [show n - k = (n - (k + 1)) + 1 by omega]
  exact list_cons_ends hx hy

theorem list_zero_ends (f : P Int) (σ : Option (List Bool)) : Ends (pList f 0) σ [] σ := by
  cases σ with
  | none => rfl
  | some l => exact ⟨rfl, rfl⟩

theorem Goes.ends {f : P Int} {n : Nat} {xs : List Int} {σ σ' : Option (List Bool)} (h : Goes f n n xs σ σ') : Ends (pList f n) σ xs σ' := by
  have := h [] σ' (by rw [Nat.sub_self]; exact list_zero_ends f σ')
  rwa [List.append_nil] at this

/-- the list, as far as it has been filled -/
def fill (n : Nat) (xs : List Int) : List Int := xs ++ List.replicate (n - xs.length) 0

theorem fill_set (n : Nat) (xs : List Int) (x : Int) (h : xs.length < n) : (fill n xs).set xs.length x = fill n (xs ++ [x]) := by
  unfold fill
  obtain ⟨m, hm⟩ : ∃ m, n - xs.length = m + 1 := ⟨n - xs.length - 1, by omega⟩
  rw [List.set_append_right _ _ (Nat.le_refl _), Nat.sub_self, hm, List.replicate_succ, List.set_cons_zero, List.length_append, List.length_singleton, List.append_assoc, show n - (xs.length + 1) = m by omega]
  rfl

theorem fill_full (n : Nat) (xs : List Int) (h : xs.length = n) : fill n xs = xs := by
  unfold fill
  rw [h, Nat.sub_self]
  simp

/-- a row that make made -/
theorem made_row {w' : World} {base g n : Nat} (h : w'.ownsRow base 3 1 (.slice (some ⟨g, 0, none⟩) n n) n (madeCells #[Value.int .i64 0] n).toList) : Row w' base g n n (fill n []) := by
  unfold Row fill
  have e : (madeCells #[Value.int .i64 0] n).toList = List.replicate n (Value.int .i64 0) := toList_madeCells_one _ _
  rw [e] at h
  simpa using h

def QList (w : World) (b : Nat) (s : ByteArray) (σ : Option (List Bool)) (n : Nat) (p : P (List Int)) (lim : List Int → Prop) (e : Ending) (w' : World) : Prop :=
  ∃ (g : Nat) (xs : List Int) (σ' : Option (List Bool)), e = .returned (.slice (some ⟨g, 0, none⟩) n n) ∧ Row w' w.heap.size g n n xs ∧ lim xs ∧ w.grownBy w' (some b) ∧ Sp w' b s σ' ∧ Ends p σ xs σ'

set_option maxHeartbeats 1000000 in
set_option maxRecDepth 20000 in
theorem qlist (w : World) (b : Nat) (s : ByteArray) (n wide : Nat) (σ : Option (List Bool)) (hs : s.size ≤ 6000) (hn : n ≤ 256) (hw : wide ≤ 32) (h : Sp w b s σ) :
    Calls Try.prog 131 #[.pointer (some ⟨b, 0, none⟩), .int .i64 n, .int .i64 wide] w (QList w b s σ n (pList (pSigned wide) n) (Signs wide)) := by
  obtain ⟨i0, hi, hz0, hz1, hz2⟩ := info_parts Try.info3
  have hblt := h.lt
  go_enter Try.func131, Try.ntmps131
  go_wp2_with (first
    | (at_make; refine wpList_make_full _ rfl _ _ 30 rfl w.heap.size 3 i0 (.int .i64 0) 1 Try.underlying30 hi hz0 hz1 _ _ _ _ n rfl rfl rfl rfl ?m1 ?m2 ?m3 ?_))
  case m1 => rw [hz2]; omega
  case m2 => unfold maxLen; omega
  case m3 => exact Nat.le_refl _
  intro w1 hmade hg1
  have hrow1 := made_row hmade
  have hsp1 := h.kept hg1 (by simp)
  obtain ⟨g, hg⟩ : ∃ g, w.heap.size = g := ⟨_, rfl⟩
  rw [hg] at hrow1
  rw [hg]
  have hgg1 : w.grownBy w1 (some b) := grown_own (grown_refl _ _) hg1 (fun q e => by cases e)
  have hbg : b < g := by omega
  clear hmade hi hz0 hz1 hz2 hg1 h
  go_wp2_with fail
  go_loopw [13] (fun i wr => ∃ (k : Nat) (xs : List Int) (σ' : Option (List Bool)), k ≤ n ∧ i = .int .i64 k ∧ xs.length = k ∧ Row wr g g n n (fill n xs) ∧ Signs wide xs ∧ w.grownBy wr (some b) ∧ Sp wr b s σ' ∧ Goes (pSigned wide) n k xs σ σ')
    (fun i _ => n - (intOf i).toNat)
  case atStart => exact ⟨0, [], σ, Nat.zero_le _, rfl, rfl, hrow1, Signs.nil _, hgg1, hsp1, Goes.start _ _ _⟩
  case round =>
    obtain ⟨k, xs, σ', hk, rfl, hxl, hrow, hsm, hgr, hsp, hgo⟩ := hrel
    have HXL : Hid (xs.length = k) := hxl
    clear hxl hrow1 hsp1 hgg1
    by_cases hlt : k < n
    · go_wp2_with fail
      refine (qsigned _ _ _ _ _ hs hw hsp).mono ?_
      rintro e w2 ⟨v, σ1, rfl, hv, -, hg2, hsp2, hends⟩
      have hrow2 := hrow.kept hg2 (fun e => by injection e with e; omega)
      have hsb := sign_bounds wide v hw hv
      have c1 := hrow2.cell k hlt
      have f1 := hrow2.fz k
      have hst := grown_set w2 g k (.int .i64 (sign wide v))
      have hrow3 := hrow2.stored k (sign wide v)
      rw [show (fill n xs).set k (sign wide v) = fill n (xs ++ [sign wide v]) by rw [← HXL.out]; exact fill_set n xs _ (by rw [HXL.out]; exact hlt)] at hrow3
      have hgg3 : w.grownBy (w2.setCell ⟨g, k, none⟩ (.int .i64 (sign wide v))) (some b) := grown_own (grown_trans hgr hg2) hst (fun q e => by injection e with e; omega)
      have hsp3 := hsp2.kept hst (fun e => by injection e with e; omega)
      have hgo3 := hgo.next hlt hends
      clear hst hrow2 hrow hsp hsp2 hgo hends hg2 hgr
      go_wp2
      go_roundw
      case rel => exact ⟨k + 1, xs ++ [sign wide v], σ1, by omega, by go_num, by rw [List.length_append, List.length_singleton, HXL.out], hrow3, hsm.snoc hv, hgg3, hsp3, hgo3⟩
      case measure => simp [intOf]; omega
    · obtain rfl : k = n := by omega
      rw [fill_full _ _ HXL.out] at hrow
      go_wp2
      go_ret
      exact ⟨g, xs, σ', rfl, by rw [hg]; exact hrow, hsm, hgr, hsp, hgo.ends⟩

set_option maxHeartbeats 400000 in
theorem qunfold (w : World) (u : Nat) (hu : u < 9223372036854775807) :
    Calls Try.prog 137 #[.int .i64 u] w fun e w' => e = .returned (.int .i64 (unfold1 u)) ∧ w' = w := by
  by_cases h : u % 2 = 0
  · have t : (((u : Int) % 2) == 0) = true := by simp; omega
    have hu1 : unfold1 u = (u : Int) / 2 := by unfold unfold1; rw [if_pos h]
    rw [hu1]
    clear h hu1
    go_enter Try.func137, Try.ntmps137
    go_wp2
    go_ret
    exact ⟨rfl, rfl⟩
  · have t : (((u : Int) % 2) == 0) = false := by simp; omega
    have hu1 : unfold1 u = -(((u : Int) + 1) / 2) := by unfold unfold1; rw [if_neg h]
    rw [hu1]
    have hdiv : (-((u : Int) + 1)).tdiv 2 = -(((u : Int) + 1) / 2) := by
      rw [Int.neg_tdiv, Int.tdiv_eq_ediv_of_nonneg (by omega)]
    clear hu1
    go_enter Try.func137, Try.ntmps137
    go_wp2
    go_ret
    exact ⟨by first | rfl | exact ret_int (by omega), rfl⟩

set_option maxHeartbeats 400000 in
theorem qkbits (w : World) (m : Nat) (hm : m < 4) :
    Calls Try.prog 115 #[.int .i64 m] w fun e w' => e = .returned (.int .i64 ((4 + m : Nat) : Int)) ∧ w' = w := by
  go_enter Try.func115, Try.ntmps115
  go_wp2
  go_ret
  exact ⟨by first | rfl | exact ret_int (by omega), rfl⟩
end Go.Proofs.Ytncmgnmcggkhnaa

namespace Go.Proofs.Ytncmgnmcggkhnaa
open Go.RowKit

def QPart (w : World) (b : Nat) (s : ByteArray) (σ : Option (List Bool)) (n : Nat) (p : P (List Int)) (lim : List Int → Prop) (e : Ending) (w' : World) : Prop :=
  ∃ (v : Value) (ok : Bool), e = .returned (.tuple #[v, .bool ok]) ∧ w.grownBy w' (some b) ∧
    ((ok = true ∧ ∃ (g : Nat) (xs : List Int) (σ' : Option (List Bool)), v = .slice (some ⟨g, 0, none⟩) n n ∧ Row w' w.heap.size g n n xs ∧ lim xs ∧ Sp w' b s σ' ∧ Ends p σ xs σ') ∨
     (ok = false ∧ ∀ xs, Ends p σ xs none))

theorem Signs.abs31 {m : Nat} {xs : List Int} (hm : m ≤ 31) (h : Signs m xs) : Abs 2147483648 xs := by
  intro x hx
  obtain ⟨v, hv, rfl⟩ := h x hx
  exact sign_bounds m v (by omega) hv

theorem unfold_abs (u : Nat) (h : u < 4294967296) : -2147483648 ≤ unfold1 u ∧ unfold1 u ≤ 2147483648 := by
  unfold unfold1
  split <;> omega

theorem Abs.snoc' {B : Int} {xs : List Int} {x : Int} (h : Abs B xs) (hx : -B ≤ x ∧ x ≤ B) : Abs B (xs ++ [x]) := by
  intro y hy
  rcases List.mem_append.1 hy with hy | hy
  · exact h y hy
  · rw [List.mem_singleton.1 hy]; exact hx

theorem Goes.fail {f : P Int} {n k : Nat} {xs : List Int} {σ σ' : Option (List Bool)} (h : Goes f n k xs σ σ') (hk : k < n) (hx : ∀ x, Ends f σ' x none) (ys : List Int) : Ends (pList f n) σ ys none := by
  have h1 : Ends (pList f n) σ (xs ++ 0 :: List.replicate (n - (k + 1)) 0) none := by
    refine h _ _ ?_
    rw [show n - k = (n - (k + 1)) + 1 by omega]
    exact list_cons_ends (hx 0) Ends.dead
  exact h1.dead_any ys

theorem rice_wrap (q k v : Nat) (hub : q * 2 ^ k + v < 70368744177664) : IntKind.i64.wrap (IntKind.i64.wrap ((q : Int) * 2 ^ k) + (v : Int)) = ((q * 2 ^ k + v : Nat) : Int) := by
  rw [show (q : Int) * 2 ^ k = ((q * 2 ^ k : Nat) : Int) by simp]
  generalize q * 2 ^ k = z at hub ⊢
  rw [IntKind.wrap_i64, IntKind.wrap_i64]
  omega

theorem kb_pow (kb method : Nat) (h : kb = 4 + method) (hm : method ≤ 1) : (2 : Int) ^ kb = 16 + 16 * method := by
  rcases (show method = 0 ∨ method = 1 by omega) with rfl | rfl
  · subst h; decide
  · subst h; decide

set_option maxHeartbeats 4000000 in
set_option maxRecDepth 20000 in
theorem qpart (w : World) (b : Nat) (s : ByteArray) (kb method n : Nat) (σ : Option (List Bool)) (hkb : kb = 4 + method) (hm : method ≤ 1) (hs : s.size ≤ 6000) (hn : n ≤ 256) (h : Sp w b s σ) :
    Calls Try.prog 136 #[.pointer (some ⟨b, 0, none⟩), .int .i64 kb, .int .i64 n] w (QPart w b s σ n (pPart method n) (Abs 2147483648)) := by
  have hpw := kb_pow kb method hkb hm
  have hpw1 : (0 : Int) ≤ 2 ^ kb := by omega
  have hpw2 : (2 : Int) ^ kb ≤ 32 := by omega
  have hkb2 : kb ≤ 5 := by omega
  have HPW : Hid ((2 : Int) ^ kb = 16 + 16 * method) := hpw
  have HKB : Hid (kb = 4 + method) := hkb
  clear hpw hkb
  obtain ⟨i0, hi, hz0, hz1, hz2⟩ := info_parts Try.info3
  have hblt := h.lt
  go_enter Try.func136, Try.ntmps136
  go_wp2_with fail
  refine (qnum _ _ _ kb _ hs (by omega) h).mono ?_
  rintro e w1 ⟨k, σ1, rfl, hk0, -, hg1, hsp1, hends1⟩
  have hk : k < 32 := Nat.lt_of_lt_of_le hk0 (by have : 2 ^ kb ≤ 2 ^ 5 := Nat.pow_le_pow_right (by omega) hkb2; exact this)
  have hk1 : k ≤ 15 + 16 * method := by
    have e1 : ((2 ^ kb : Nat) : Int) = 16 + 16 * method := by simpa using HPW.out
    omega
  rw [HKB.out] at hends1
  clear hk0 h
  by_cases hall : k = 15 + 16 * method
  · have tK : ((k : Int) == 2 ^ kb - 1) = true := by rw [HPW.out]; simp; omega
    have HALL : Hid (k = 15 + 16 * method) := hall
    clear hall hk1
    go_wp2_with fail
    refine (qnum _ _ _ 5 _ hs (by omega) hsp1).mono ?_
    rintro e w2 ⟨m, σ2, rfl, hm0, -, hg2, hsp2, hends2⟩
    have hm2 : m < 32 := hm0
    go_wp2_with fail
    refine (qlist _ _ _ n m _ hs hn (by omega) hsp2).mono ?_
    rintro e w3 ⟨g, xs, σ3, rfl, hrow, hsg, hg3, hsp3, hends3⟩
    have hfin : Ends (pPart method n) σ xs σ3 := part_plain hends1 HALL.out hends2 (m := m) (by unfold reads; rw [if_pos HALL.out]; exact hends3)
    have hgg : w.grownBy w3 (some b) := grown_trans (grown_trans hg1 hg2) hg3
    have hrow' := hrow.mono (Nat.le_trans hg1.size hg2.size)
    have hab := Signs.abs31 (by omega) hsg
    clear hends1 hends2 hends3 hg1 hg2 hg3 hsp1 hsp2 hrow
    go_wp2
    exact bodyPost_ret (v := .tuple #[.slice (some ⟨g, 0, none⟩) n n, .bool true]) (by simp [results, Try.results136, go_sem]) rfl ⟨_, true, rfl, hgg, .inl ⟨rfl, g, xs, σ3, rfl, hrow', hab, hsp3, hfin⟩⟩
  · have tK : ((k : Int) == 2 ^ kb - 1) = false := by rw [HPW.out]; simp; omega
    have HALL : Hid (¬ k = 15 + 16 * method) := hall
    have hk30 : k ≤ 30 := by omega
    clear hall hk1
    go_wp2_with (first
      | (at_make; refine wpList_make_full _ rfl _ _ 30 rfl w.heap.size 3 i0 (.int .i64 0) 1 Try.underlying30 hi hz0 hz1 _ _ _ _ n rfl rfl rfl rfl ?m1 ?m2 ?m3 ?_))
    case m1 => rw [hz2]; omega
    case m2 => unfold maxLen; omega
    case m3 => exact hg1.size
    intro w2 hmade hg2
    have hrow2 := made_row hmade
    have hsp2 := hsp1.kept hg2 (by simp)
    obtain ⟨g, hg⟩ : ∃ g, w1.heap.size = g := ⟨_, rfl⟩
    rw [hg] at hrow2
    rw [hg]
    have hgg2 : w.grownBy w2 (some b) := grown_own hg1 hg2 (fun q e => by cases e)
    have hbg : b < g := by have := hg1.size; omega
    have hwg : w.heap.size ≤ g := by have := hg1.size; omega
    clear hmade hi hz0 hz1 hz2 hg1 hg2 hsp1 hg
    go_wp2_with fail
    go_loopw [30] (fun i wr => ∃ (j : Nat) (xs : List Int) (σ' : Option (List Bool)), j ≤ n ∧ i = .int .i64 j ∧ xs.length = j ∧ Row wr w.heap.size g n n (fill n xs) ∧ Abs 2147483648 xs ∧ w.grownBy wr (some b) ∧ Sp wr b s σ' ∧ Goes (pRice k) n j xs σ1 σ')
      (fun i _ => n - (intOf i).toNat)
    case atStart => exact ⟨0, [], σ1, Nat.zero_le _, rfl, rfl, hrow2, (fun x hx => by cases hx), hgg2, hsp2, Goes.start _ _ _⟩
    case round =>
      obtain ⟨j, xs, σ', hj, rfl, hxl, hrow, habs, hgr, hsp, hgo⟩ := hrel
      have HXL : Hid (xs.length = j) := hxl
      clear hxl hrow2 hsp2 hgg2
      by_cases hlt : j < n
      · go_wp2_with fail
        refine (qzeros _ _ _ _ hs hsp).mono ?_
        rintro e w3 ⟨q, σ3, rfl, hq, -, hg3, hsp3, hends3⟩
        have hrow3 := hrow.kept hg3 (fun e => by injection e with e; omega)
        have hgr3 := grown_trans hgr hg3
        have hm0 : (0 : Int) ≤ (q : Int) * 2 ^ k := by rw [show (q : Int) * 2 ^ k = ((q * 2 ^ k : Nat) : Int) by simp]; omega
        have hm1 : (q : Int) * 2 ^ k ≤ 70368744177664 := by
          have := rice_bound q k 0 hq hk30 (Nat.two_pow_pos _)
          rw [show (q : Int) * 2 ^ k = ((q * 2 ^ k : Nat) : Int) by simp]; omega
        clear hrow hgr hg3 hsp
        go_upto_region 9 with fail
        go_region_with (go_at_call 89; refine (qnum _ _ _ _ _ hs (by omega) (hsp3.drewN 1)).mono ?_; rintro e w4 ⟨v, σ4, rfl, hv, -, hg4, hsp4, hends4⟩)
        have hub := rice_bound q k v hq hk30 hv
        have hu0 := rice_wrap q k v hub
        rw [hu0]
        have hgr4 : w.grownBy w4 (some b) := grown_trans (grown_drew hgr3) hg4
        have hrow4 := (hrow3.kept (grown_drew (grown_refl _ none)) (by simp)).kept hg4 (fun e => by injection e with e; omega)
        have HY : Hid (q * 2 ^ k + v < 2 ^ 32 → Ends (pRice k) σ' (unfold1 (q * 2 ^ k + v)) σ4) := rice_ends hends3 hends4
        have HN : Hid (∀ x, ¬ q * 2 ^ k + v < 2 ^ 32 → Ends (pRice k) σ' x none) := fun x => rice_fail hends3 hends4
        clear hu0 hends3 hends4 hg4 hsp3 hm0 hm1 hv hrow3 hgr3
        generalize q * 2 ^ k + v = u at hub HY HN ⊢
        generalize IntKind.i64.wrap ((q : Int) * 2 ^ k) = z
        by_cases hu : u < 4294967296
        · have hd : decide ((4294967296 : Int) ≤ (u : Int)) = false := decide_eq_false (by omega)
          have hx := unfold_abs u hu
          have hends := HY.out hu
          have hc1 := hrow4.cell j hlt
          have hf1 := hrow4.fz j
          have hst := grown_set w4 g j (.int .i64 (unfold1 u))
          have hrow5 := hrow4.stored j (unfold1 u)
          rw [show (fill n xs).set j (unfold1 u) = fill n (xs ++ [unfold1 u]) by rw [← HXL.out]; exact fill_set n xs _ (by rw [HXL.out]; exact hlt)] at hrow5
          have hgr5 : w.grownBy (w4.setCell ⟨g, j, none⟩ (.int .i64 (unfold1 u))) (some b) := grown_own hgr4 hst (fun q e => by injection e with e; omega)
          have hsp5 := hsp4.kept hst (fun e => by injection e with e; omega)
          have hgo5 := hgo.next hlt hends
          have habs5 := Abs.snoc' habs hx
          clear hu HY HN hends hgo hst hrow4 hgr4 hsp4 hx
          go_wp2_with fail
          refine (qunfold _ u (by omega)).mono ?_
          rintro e w5 ⟨rfl, rfl⟩
          go_wp2
          go_roundw
          case rel => exact ⟨j + 1, xs ++ [unfold1 u], σ4, by omega, by go_num, by rw [List.length_append, List.length_singleton, HXL.out], hrow5, habs5, hgr5, hsp5, hgo5⟩
          case measure => simp [intOf]; omega
        · have hd : decide ((4294967296 : Int) ≤ (u : Int)) = true := decide_eq_true (by omega)
          have hbad : ∀ ys, Ends (pPart method n) σ ys none := fun ys => part_rice hends1 HALL.out (m := 0) (by unfold reads; rw [if_neg HALL.out]; exact hgo.fail hlt (fun x => HN.out x hu) ys)
          clear hu HY HN hgo hends1
          go_wp2
          exact bodyPost_ret (v := .tuple #[.slice none 0 0, .bool false]) (by simp [results, Try.results136, go_sem]) rfl ⟨_, false, rfl, hgr4, .inr ⟨rfl, hbad⟩⟩
      · obtain rfl : j = n := by omega
        rw [fill_full _ _ HXL.out] at hrow
        have hfin : Ends (pPart method j) σ xs σ' := part_rice hends1 HALL.out (m := 0) (by unfold reads; rw [if_neg HALL.out]; exact hgo.ends)
        clear hgo hends1
        go_wp2
        exact bodyPost_ret (v := .tuple #[.slice (some ⟨g, 0, none⟩) j j, .bool true]) (by simp [results, Try.results136, go_sem]) rfl ⟨_, true, rfl, hgr, .inl ⟨rfl, g, xs, σ', rfl, hrow, habs, hsp, hfin⟩⟩
end Go.Proofs.Ytncmgnmcggkhnaa

namespace Go.Proofs.Ytncmgnmcggkhnaa
open Go.RowKit

def GoesP (method many order total k : Nat) (xs : List Int) (σ σ' : Option (List Bool)) : Prop :=
  ∀ ys σ'', Ends (pParts method many (if k = 0 then order else 0) (total - k)) σ' ys σ'' → Ends (pParts method many order total) σ (xs ++ ys) σ''

theorem parts_cons_ends {method many less m : Nat} {zs ys : List Int} {σ σ1 σ2 : Option (List Bool)} (h1 : Ends (pPart method (many - less)) σ zs σ1) (h2 : Ends (pParts method many 0 m) σ1 ys σ2) : Ends (pParts method many less (m + 1)) σ (zs ++ ys) σ2 := by
  have h3 : Ends (fun r => (pParts method many 0 m r).map fun (ys, r') => (zs ++ ys, r')) σ1 (zs ++ ys) σ2 := Ends.map (f := fun ys => zs ++ ys) h2
  exact Ends.bind (p := pPart method (many - less)) (q := fun (zs : List Int) r => (pParts method many 0 m r).map fun (ys, r') => (zs ++ ys, r')) h1 h3

theorem GoesP.start (method many order total : Nat) (σ : Option (List Bool)) : GoesP method many order total 0 [] σ σ := fun _ _ h => h

theorem GoesP.next {method many order total k : Nat} {xs zs : List Int} {σ σ' σ1 : Option (List Bool)} (h : GoesP method many order total k xs σ σ') (hk : k < total) (hx : Ends (pPart method (many - if k = 0 then order else 0)) σ' zs σ1) :
    GoesP method many order total (k + 1) (xs ++ zs) σ σ1 := by
  intro ys σ'' hy
  rw [List.append_assoc]
  refine h _ _ ?_
  rw [show total - k = (total - (k + 1)) + 1 by omega]
  rw [if_neg (by omega)] at hy
  exact parts_cons_ends hx hy

theorem parts_zero_ends (method many less : Nat) (σ : Option (List Bool)) : Ends (pParts method many less 0) σ [] σ := by
  cases σ with
  | none => rfl
  | some l => exact ⟨rfl, rfl⟩

theorem GoesP.ends {method many order total : Nat} {xs : List Int} {σ σ' : Option (List Bool)} (h : GoesP method many order total total xs σ σ') : Ends (pParts method many order total) σ xs σ' := by
  have := h [] σ' (by rw [Nat.sub_self]; exact parts_zero_ends _ _ _ σ')
  rwa [List.append_nil] at this

theorem GoesP.fail {method many order total k : Nat} {xs : List Int} {σ σ' : Option (List Bool)} (h : GoesP method many order total k xs σ σ') (hk : k < total) (hx : ∀ zs, Ends (pPart method (many - if k = 0 then order else 0)) σ' zs none) (ys : List Int) :
    Ends (pParts method many order total) σ ys none := by
  have h1 : Ends (pParts method many order total) σ (xs ++ ([] ++ [])) none := by
    refine h _ _ ?_
    rw [show total - k = (total - (k + 1)) + 1 by omega]
    exact parts_cons_ends (hx []) Ends.dead
  exact h1.dead_any ys

def QRes (w : World) (b : Nat) (s : ByteArray) (σ : Option (List Bool)) (n order : Nat) (e : Ending) (w' : World) : Prop :=
  ∃ (v : Value) (ok : Bool), e = .returned (.tuple #[v, .bool ok]) ∧ w.grownBy w' (some b) ∧
    ((ok = true ∧ ∃ (xs : List Int) (σ' : Option (List Bool)), Own w' w.heap.size v xs ∧ xs.length = n - order ∧ Abs 2147483648 xs ∧ Sp w' b s σ' ∧ Ends (pResidue n order) σ xs σ') ∨
     (ok = false ∧ v = .slice none 0 0 ∧ ∀ xs, Ends (pResidue n order) σ xs none))

theorem Abs.append {B : Int} {xs ys : List Int} (h : Abs B xs) (k : Abs B ys) : Abs B (xs ++ ys) := by
  intro x hx
  rcases List.mem_append.1 hx with hx | hx
  · exact h x hx
  · exact k x hx

set_option maxHeartbeats 4000000 in
set_option maxRecDepth 20000 in
theorem qresidue (w : World) (b : Nat) (s : ByteArray) (n order : Nat) (σ : Option (List Bool)) (hs : s.size ≤ 6000) (hn : n ≤ 256) (hn1 : 1 ≤ n) (ho : order ≤ n) (h : Sp w b s σ) :
    Calls Try.prog 135 #[.pointer (some ⟨b, 0, none⟩), .int .i64 order, .int .i64 n] w (QRes w b s σ n order) := by
  obtain ⟨i0, hi, hz0, hz1, hz2⟩ := info_parts Try.info3
  have hblt := h.lt
  go_enter Try.func135, Try.ntmps135
  go_wp2_with fail
  refine (qnum _ _ _ 2 _ hs (by omega) h).mono ?_
  rintro e w1 ⟨method, σ1, rfl, hmeth0, -, hg1, hsp1, hends1⟩
  have hmeth : method < 4 := hmeth0
  clear hmeth0
  go_wp2_with fail
  refine (qnum _ _ _ 4 _ hs (by omega) hsp1).mono ?_
  rintro e w2 ⟨p, σ2, rfl, hp0, -, hg2, hsp2, hends2⟩
  have hp : p < 16 := hp0
  have hgg2 := grown_trans hg1 hg2
  clear hp0 hg1 hg2 hsp1 h
  obtain ⟨NP, hNP⟩ : ∃ NP, 2 ^ p = NP := ⟨_, rfl⟩
  obtain ⟨size, hsize⟩ : ∃ size, n / 2 ^ p = size := ⟨_, rfl⟩
  have hNP1 : 1 ≤ NP := by rw [← hNP]; exact Nat.two_pow_pos p
  have hNP2 : NP ≤ 32768 := by rw [← hNP]; exact pow_le15 p hp
  have hpI : (2 : Int) ^ p = (NP : Int) := by rw [← hNP]; simp
  have hsz : (n : Int) / (NP : Int) = (size : Int) := by rw [← hsize, hNP]; simp
  have hsn : size * NP ≤ n := by rw [← hsize, hNP]; exact Nat.div_mul_le_self n NP
  have hs256 : size ≤ 256 := by
    have : size ≤ size * NP := Nat.le_mul_of_pos_right _ (by omega)
    omega
  have hdiv : (n % 2 ^ p = 0) ↔ size * NP = n := by
    have h1 := Nat.div_add_mod n (2 ^ p)
    rw [hNP, ← hsize, hNP] at *
    rw [Nat.mul_comm]
    omega
  have HC : Hid (method ≤ 1 ∧ n % 2 ^ p = 0 ∧ order ≤ n / 2 ^ p ↔ method ≤ 1 ∧ size * NP = n ∧ order ≤ size) := by
    show _ ↔ _
    rw [hdiv, hsize]
  have HS : Hid (n / 2 ^ p = size) := hsize
  have HP : Hid (2 ^ p = NP) := hNP
  clear hdiv hNP hsize
  have hb0 : (0 : Int) ≤ (size : Int) * (NP : Int) := by rw [← Int.natCast_mul]; omega
  have hb1 : (size : Int) * (NP : Int) ≤ 256 := by rw [← Int.natCast_mul]; omega
  by_cases hok : method ≤ 1 ∧ size * NP = n ∧ order ≤ size
  rotate_left
  · have hbad : ∀ xs, Ends (pResidue n order) σ xs none := fun xs => residue_no hends1 hends2 (fun hh => hok (HC.out.1 hh))
    have hpost : QRes w b s σ n order (.returned (.tuple #[.slice none 0 0, .bool false])) w2 := ⟨_, false, rfl, hgg2, .inr ⟨rfl, rfl, hbad⟩⟩
    clear hbad hends1 hends2
    by_cases q1 : method ≤ 1
    · have d1 : decide ((1 : Int) < (method : Int)) = false := decide_eq_false (by omega)
      by_cases q2 : size * NP = n
      · have d2 : ((size : Int) * (NP : Int) != (n : Int)) = false := by rw [← Int.natCast_mul]; simp; omega
        have d3 : decide (size < order) = true := decide_eq_true (by omega)
        clear q1 q2 hok
        go_wp2
        exact bodyPost_ret (v := .tuple #[.slice none 0 0, .bool false]) (by simp [results, Try.results135, go_sem]) rfl hpost
      · have d2 : ((size : Int) * (NP : Int) != (n : Int)) = true := by rw [← Int.natCast_mul]; simp; omega
        clear q1 q2 hok
        go_wp2
        exact bodyPost_ret (v := .tuple #[.slice none 0 0, .bool false]) (by simp [results, Try.results135, go_sem]) rfl hpost
    · have d1 : decide ((1 : Int) < (method : Int)) = true := decide_eq_true (by omega)
      clear q1 hok
      go_wp2
      exact bodyPost_ret (v := .tuple #[.slice none 0 0, .bool false]) (by simp [results, Try.results135, go_sem]) rfl hpost
  obtain ⟨q1, q2, q3⟩ := hok
  have d1 : decide ((1 : Int) < (method : Int)) = false := decide_eq_false (by omega)
  have d2 : ((size : Int) * (NP : Int) != (n : Int)) = false := by rw [← Int.natCast_mul]; simp; omega
  have d3 : decide (size < order) = false := decide_eq_false (by omega)
  have HYES : Hid (∀ xs σ3, Ends (pParts method size order NP) σ2 xs σ3 → Ends (pResidue n order) σ xs σ3) := by
    intro xs σ3 h3
    refine residue_yes hends1 hends2 (HC.out.2 ⟨q1, q2, q3⟩) ?_
    rw [HS.out, HP.out]
    exact h3
  have HQ2 : Hid (size * NP = n) := q2
  have hno : (n : Int) - (order : Int) = ((n - order : Nat) : Int) := by omega
  clear hends1 hends2 HC q2 hsn
  go_upto_region 6 with fail
  clear hb0 hb1 d1 d2 d3
  go_wp2_with (first
    | (at_make; refine wpList_make_own _ rfl _ _ 30 rfl w.heap.size 3 i0 (.int .i64 0) 1 Try.underlying30 hi hz0 hz1 _ _ _ (n - order) rfl rfl (by omega) ?m1 ?m2 ?m3 ?_))
  case m1 => rw [hz2]; omega
  case m2 => unfold maxLen; omega
  case m3 => exact hgg2.size
  intro w3 hmade hg3
  have hown3 : Own w3 w.heap.size (.slice (some ⟨w2.heap.size, 0, none⟩) 0 (n - order)) [] := hmade
  have hsp3 := hsp2.kept hg3 (by simp)
  have hgg3 : w.grownBy w3 (some b) := grown_own hgg2 hg3 (fun q e => by cases e)
  clear hmade hg3 hgg2 hsp2
  go_wp2_with fail
  go_loopg [11, 43] NP (fun gk v i wr => ∃ (k : Nat) (xs : List Int) (σ' : Option (List Bool)), gk + k = NP ∧ i = .int .i64 k ∧ Own wr w.heap.size v xs ∧ ((k = 0 ∧ xs = []) ∨ (1 ≤ k ∧ xs.length + order = size * k)) ∧ Abs 2147483648 xs ∧ w.grownBy wr (some b) ∧ Sp wr b s σ' ∧ GoesP method size order NP k xs σ2 σ')
  case atStart => exact ⟨0, [], σ2, rfl, rfl, hown3, .inl ⟨rfl, rfl⟩, (fun x hx => by cases hx), hgg3, hsp3, GoesP.start _ _ _ _ _⟩
  case round =>
    obtain ⟨k, xs, σ', hgk, rfl, hown, hxl, habs, hgr, hsp, hgo⟩ := hrel
    have HXL : Hid ((k = 0 ∧ xs = []) ∨ (1 ≤ k ∧ xs.length + order = size * k)) := hxl
    clear hxl hown3 hsp3 hgg3
    by_cases hlt : k < NP
    · obtain ⟨less, hless⟩ : ∃ less, (if k = 0 then order else 0) = less := ⟨_, rfl⟩
      have hless2 : less ≤ size := by rw [← hless]; split <;> omega
      have HLESS : Hid ((if k = 0 then order else 0) = less) := hless
      clear hless
      go_upto_if 48 with fail
      go_cut [13] (fun s13 wx => wx = wr ∧ s13 = .int .i64 ((size - less : Nat) : Int))
      case first =>
        by_cases hk0 : k = 0
        · have hl : less = order := by rw [← HLESS.out, if_pos hk0]
          have t0 : ((k : Int) == 0) = true := by simp; omega
          clear hk0
          go_wp2
          go_meet
          case rel => exact ⟨rfl, by rw [hl]; exact congrArg (Value.int .i64) (by omega)⟩
        · have hl : less = 0 := by rw [← HLESS.out, if_neg hk0]
          have t0 : ((k : Int) == 0) = false := by simp; omega
          clear hk0
          go_wp2
          go_meet
          case rel => exact ⟨rfl, by rw [hl]; rfl⟩
      case rest =>
        obtain ⟨hwc, hs13⟩ := hcut
        subst hwc
        subst hs13
        have hcnt : size - less ≤ 256 := by omega
        go_wp2_with fail
        refine (qkbits _ method (by omega)).mono ?_
        rintro e w4 ⟨rfl, rfl⟩
        go_wp2_with fail
        refine (qpart _ _ _ (4 + method) method (size - less) _ rfl q1 hs hcnt hsp).mono ?_
        rintro e w5 ⟨v5, ok5, rfl, hg5, hcase⟩
        have hgr5 := grown_trans hgr hg5
        have hown5 := hown.kept hg5 hblt
        rcases hcase with ⟨rfl, g5, ys, σ5, rfl, hrow5, hab5, hsp5, hends5⟩ | ⟨rfl, hbad⟩
        · obtain ⟨a11, c11, rfl⟩ := own_slice hown5
          have hyl := hrow5.len
          have hxb : xs.length ≤ 256 := by
            rcases HXL.out with ⟨_, e⟩ | ⟨_, e⟩
            · rw [e]; simp
            · have : size * k ≤ size * NP := Nat.mul_le_mul_left _ (by omega)
              have := HQ2.out
              omega
          have HNEWS : Hid (∀ j u, (ys.map (Value.int .i64))[j]? = some u → w5.cell? ((⟨g5, 0, none⟩ : Addr).add j) = some u) := row_news hrow5
          have HINT : Hid (∀ u ∈ ys.map (Value.int .i64), u.oneCell' = true) := by
            intro u hu
            obtain ⟨x, _, rfl⟩ := List.mem_map.1 hu
            rfl
          have HLN : Hid ((ys.map (Value.int .i64)).length = (size - less) * 1) := by show _ = _; rw [List.length_map, hyl]; omega
          have HOWN : Hid (Own w5 w.heap.size (.slice a11 xs.length c11) xs) := hown5
          clear hown hsp
          go_wp2_with (first
            | (at_builtin; refine wpList_append_own _ rfl _ _ 30 rfl w.heap.size 3 i0 (.int .i64 0) 1 8 Try.underlying30 hi hz0 hz1 hz2 rfl (by decide) (.slice a11 xs.length c11) xs.length (xs.map (Value.int .i64)) rfl HOWN.out ⟨g5, 0, none⟩ (size - less) (size - less) (ys.map (Value.int .i64)) rfl HLN.out HNEWS.out HINT.out ?c3 ?c4 ?c5 ?_))
          case c3 => unfold maxLen; omega
          case c4 => omega
          case c5 => have := hgr5.size; omega
          intro v' w6 hown' hgrow _
          have hown6 : Own w6 w.heap.size v' (xs ++ ys) := by
            unfold Own
            rw [List.map_append, List.length_append, hyl]
            exact hown'
          have hgr6 : w.grownBy w6 (some b) := grown_own hgr5 hgrow (fun q e => (HOWN.out.lt q e).1)
          have hsp6 := hsp5.kept hgrow (fun e => by have := (HOWN.out.lt b e.symm).1; omega)
          have hgo6 := hgo.next hlt (by rw [HLESS.out]; exact hends5)
          have hab6 := Abs.append habs hab5
          have hlen6 : (k + 1 = 0 ∧ xs ++ ys = []) ∨ (1 ≤ k + 1 ∧ (xs ++ ys).length + order = size * (k + 1)) := by
            refine .inr ⟨by omega, ?_⟩
            rw [List.length_append, hyl, Nat.mul_succ]
            have hle := HLESS.out
            rcases HXL.out with ⟨e1, e2⟩ | ⟨e1, e2⟩
            · rw [if_pos e1] at hle
              rw [e1, e2]
              simp
              omega
            · rw [if_neg (by omega)] at hle
              omega
          clear hown' hgrow HOWN hsp5 hgo hends5 hrow5 HNEWS hgr5
          go_wp2
          go_roundg (gk - 1)
          case measure => omega
          case rel => exact ⟨k + 1, xs ++ ys, σ5, by omega, by go_num, hown6, hlen6, hab6, hgr6, hsp6, hgo6⟩
        · have hbad2 : ∀ zs, Ends (pResidue n order) σ zs none := fun zs => HYES.out zs none (hgo.fail hlt (by rw [HLESS.out]; exact hbad) zs)
          clear hgo hbad
          go_wp2
          exact bodyPost_ret (v := .tuple #[.slice none 0 0, .bool false]) (by simp [results, Try.results135, go_sem]) rfl ⟨_, false, rfl, hgr5, .inr ⟨rfl, rfl, hbad2⟩⟩
    · have hkN : k = NP := by omega
      have hlen : xs.length = n - order := by
        rcases HXL.out with ⟨e, _⟩ | ⟨_, e⟩
        · omega
        · rw [hkN, HQ2.out] at e; omega
      have hfin := HYES.out xs σ' (hkN ▸ hgo).ends
      clear hgo HYES
      go_wp2
      exact bodyPost_ret (v := .tuple #[u11, .bool true]) (by simp [results, Try.results135, go_sem]) rfl ⟨_, true, rfl, hgr, .inl ⟨rfl, xs, σ', hown, hlen, habs, hsp, hfin⟩⟩
end Go.Proofs.Ytncmgnmcggkhnaa
