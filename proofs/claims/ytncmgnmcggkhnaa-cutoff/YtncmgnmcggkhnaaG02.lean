import Derived.Test.YtncmgnmcggkhnaaG01
namespace Go.Proofs.Ytncmgnmcggkhnaa
open Go.RowKit

theorem St.drew {t : TypeId} {w : World} {b : Nat} {s : ByteArray} {σ : Option (List Bool)} (h : St t w b s σ) : St t w.drew b s σ :=
  h.kept (grown_drew (grown_refl _ none)) (by simp)

theorem Ends.yes {α : Type} {σ : Option (List Bool)} {y : α} {c : Prop} [Decidable c] (h : c) : Ends (fun l => if c then some (y, l) else none) σ y σ := by
  unfold Ends
  cases σ with
  | none => rfl
  | some l => simp [h]

theorem Ends.no {α : Type} {σ : Option (List Bool)} {y x : α} {c : Prop} [Decidable c] (h : ¬ c) : Ends (fun l => if c then some (y, l) else none) σ x none :=
  Ends.fail (fun _ _ => if_neg h)

theorem rice_ends {σ σ1 σ2 : Option (List Bool)} {k q v : Nat} (h1 : Ends pNoughts σ q σ1) (h2 : Ends (pNum k) σ1 v σ2) (hlt : q * 2 ^ k + v < 2 ^ 32) :
    Ends (pRice k) σ (unfold1 (q * 2 ^ k + v)) σ2 :=
  Ends.bind h1 (q := fun q r => (pNum k r).bind fun (v, r') => if q * 2 ^ k + v < 2 ^ 32 then some (unfold1 (q * 2 ^ k + v), r') else none)
    (Ends.bind h2 (q := fun v r' => if q * 2 ^ k + v < 2 ^ 32 then some (unfold1 (q * 2 ^ k + v), r') else none) (Ends.yes hlt))

theorem rice_fail {σ σ1 σ2 : Option (List Bool)} {k q v : Nat} {x : Int} (h1 : Ends pNoughts σ q σ1) (h2 : Ends (pNum k) σ1 v σ2) (hlt : ¬ q * 2 ^ k + v < 2 ^ 32) :
    Ends (pRice k) σ x none :=
  Ends.bind h1 (q := fun q r => (pNum k r).bind fun (v, r') => if q * 2 ^ k + v < 2 ^ 32 then some (unfold1 (q * 2 ^ k + v), r') else none)
    (Ends.bind h2 (q := fun v r' => if q * 2 ^ k + v < 2 ^ 32 then some (unfold1 (q * 2 ^ k + v), r') else none) (Ends.no hlt))

theorem rice_bound (q k v : Nat) (hq : q ≤ 48000) (hk : k ≤ 30) (hv : v < 2 ^ k) : q * 2 ^ k + v < 70368744177664 := by
  have h : 2 ^ k ≤ 1073741824 := Nat.pow_le_pow_right (n := 2) (j := 30) (by omega) hk
  have : q * 2 ^ k ≤ 48000 * 1073741824 := Nat.mul_le_mul hq h
  omega

theorem unfold1_even (u : Nat) (h : u % 2 = 0) : unfold1 u = (u : Int) / 2 := by unfold unfold1; rw [if_pos h]
theorem unfold1_odd (u : Nat) (h : ¬ u % 2 = 0) : unfold1 u = -(((u : Int) + 1) / 2) := by unfold unfold1; rw [if_neg h]

theorem odd_half (u : Nat) (h : u < 70368744177664) : wrap64 (-((u : Int) + 1).tdiv 2) = -(((u : Int) + 1) / 2) := by
  rw [Int.tdiv_eq_ediv_of_nonneg (by omega), IntWalk.wrap64_in _ ⟨by omega, by omega⟩]

set_option maxHeartbeats 400000 in
set_option maxRecDepth 20000 in
theorem rrice (w : World) (b : Nat) (s : ByteArray) (k : Nat) (σ : Option (List Bool)) (hs : s.size ≤ 6000) (hk : k ≤ 30) (h : St 86 w b s σ) :
    Calls Try.prog 134 #[.pointer (some ⟨b, 0, none⟩), .int .i64 k] w fun e w' =>
      ∃ (x : Int) (σ' : Option (List Bool)), e = .returned (.int .i64 x) ∧ -70368744177664 ≤ x ∧ x ≤ 70368744177664 ∧ w.grownBy w' (some b) ∧ St 86 w' b s σ' ∧ Ends (pRice k) σ x σ' := by
  go_enter Try.func134, Try.ntmps134
  go_wp2_with fail
  refine (rnoughts _ _ _ _ hs h).mono ?_
  rintro e w1 ⟨q, σ1, rfl, hq, hg1, hst1, hends1⟩
  have hm0 : (0 : Int) ≤ (q : Int) * 2 ^ k := by rw [show (q : Int) * 2 ^ k = ((q * 2 ^ k : Nat) : Int) by simp]; omega
  have hm1 : (q : Int) * 2 ^ k ≤ 70368744177664 := by
    have := rice_bound q k 0 hq hk (Nat.two_pow_pos _)
    rw [show (q : Int) * 2 ^ k = ((q * 2 ^ k : Nat) : Int) by simp]; omega
  go_wp2
  go_region_with (go_at_call 64; refine (rnum _ _ _ _ _ hs (by omega) hst1.drew).mono ?_; rintro e w2 ⟨v, σ2, rfl, hv, hg2, hst2, hends2⟩)
  have hub := rice_bound q k v hq hk hv
  have hu0 : IntKind.i64.wrap (IntKind.i64.wrap ((q : Int) * 2 ^ k) + (v : Int)) = ((q * 2 ^ k + v : Nat) : Int) := by
    rw [show (q : Int) * 2 ^ k = ((q * 2 ^ k : Nat) : Int) by simp, IntKind.wrap_i64, IntKind.wrap_i64]
    omega
  rw [hu0]
  have hgg : w.grownBy w2 (some b) := grown_trans (grown_drew hg1) hg2
  have HY : Hid (q * 2 ^ k + v < 2 ^ 32 → Ends (pRice k) σ (unfold1 (q * 2 ^ k + v)) σ2) := rice_ends hends1 hends2
  have HN : Hid (∀ x, ¬ q * 2 ^ k + v < 2 ^ 32 → Ends (pRice k) σ x none) := fun x => rice_fail hends1 hends2
  clear hu0 hends1 hends2 hg1 hg2 hst1 hm0 hm1 hv
  generalize q * 2 ^ k + v = u at hub HY HN ⊢
  generalize IntKind.i64.wrap ((q : Int) * 2 ^ k) = z
  have hf := hst2.fz 2
  have hc := hst2.mark
  by_cases hlt : u < 4294967296
  · have hd : decide ((4294967296 : Int) ≤ (u : Int)) = false := decide_eq_false (by omega)
    have HL : Hid (u < 2 ^ 32) := hlt
    clear hlt
    by_cases hev : u % 2 = 0
    · have hev' : ((u : Int) % 2 == 0) = true := by simp; omega
      have HE : Hid (u % 2 = 0) := hev
      clear hev
      go_wp2
      go_ret
      exact ⟨_, σ2, rfl, by omega, by omega, hgg, hst2, by rw [← unfold1_even u HE.out]; exact HY.out HL.out⟩
    · have hev' : ((u : Int) % 2 == 0) = false := by simp; omega
      have HE : Hid (¬ u % 2 = 0) := hev
      clear hev
      go_wp2
      go_ret
      exact ⟨_, σ2, ret_int (odd_half u hub), by omega, by omega, hgg, hst2, by rw [← unfold1_odd u HE.out]; exact HY.out HL.out⟩
  · have hd : decide ((4294967296 : Int) ≤ (u : Int)) = true := decide_eq_true (by omega)
    have HL : Hid (¬ u < 2 ^ 32) := hlt
    clear hlt
    by_cases hev : u % 2 = 0
    · have hev' : ((u : Int) % 2 == 0) = true := by simp; omega
      have HE : Hid (u % 2 = 0) := hev
      clear hev
      go_wp2
      go_ret
      exact ⟨_, none, rfl, by omega, by omega, grown_trans hgg (grown_set _ _ _ _), hst2.kill hs, HN.out _ HL.out⟩
    · have hev' : ((u : Int) % 2 == 0) = false := by simp; omega
      have HE : Hid (¬ u % 2 = 0) := hev
      clear hev
      go_wp2
      go_ret
      exact ⟨_, none, ret_int (odd_half u hub), by omega, by omega, grown_trans hgg (grown_set _ _ _ _), hst2.kill hs, HN.out _ HL.out⟩
end Go.Proofs.Ytncmgnmcggkhnaa

namespace Go.Proofs.Ytncmgnmcggkhnaa
open Go.RowKit

/-- a list of ints in memory of the call's own -/
def Own (w : World) (base : Nat) (v : Value) (xs : List Int) : Prop := w.ownsRow base 3 1 v xs.length (xs.map (Value.int .i64))

theorem Try.info3 : (Try.prog.info? 3).map (fun i => (i.zero, i.size, i.bytes)) = some (some (.int .i64 0), 1, 8) := by kernel_rfl

theorem Own.nil (w : World) (base : Nat) : Own w base (.slice none 0 0) [] := World.ownsRow_nil _ _ _ _

theorem Own.lt {w : World} {base : Nat} {v : Value} {xs : List Int} (h : Own w base v xs) : ∀ k, v.ownBlock = some k → base ≤ k ∧ k < w.heap.size := World.ownsRow.lt h

theorem Own.kept {w w' : World} {base b : Nat} {v : Value} {xs : List Int} (h : Own w base v xs) (hg : w.grownBy w' (some b)) (hb : b < base) : Own w' base v xs := by
  refine World.ownsRow.kept h hg ?_
  cases hv : v.ownBlock with
  | none => exact .inl rfl
  | some k =>
    refine .inr (fun e => ?_)
    injection e with e
    have := (h.lt k hv).1
    omega

theorem Own.step {w w' : World} {base : Nat} {v v' : Value} {xs : List Int} {x : Int} (_h : Own w base v xs)
    (h' : w'.ownsRow base 3 1 v' (xs.length + 1) (xs.map (Value.int .i64) ++ [.int .i64 x])) : Own w' base v' (xs ++ [x]) := by
  unfold Own
  rw [List.length_append, List.length_singleton, List.map_append]
  exact h'

/-- a step that writes one block of the call's own -/
theorem grown_own {w wr w1 : World} {b : Nat} {row : Option Nat} (h : w.grownBy wr (some b)) (hg : wr.grownBy w1 row) (hr : ∀ g, row = some g → w.heap.size ≤ g) : w.grownBy w1 (some b) :=
  ⟨hg.os.trans h.os, hg.tape.trans h.tape, hg.output.trans h.output, Nat.le_trans h.size hg.size,
    fun i hi hib => (hg.block i (Nat.lt_of_lt_of_le hi h.size) (fun e => by have := hr i e.symm; omega)).trans (h.block i hi hib)⟩

theorem grown_from_alloc {w w' : World} {o : Obj} {row : Option Nat} (h : (w.alloc o).grownBy w' row) (_hr : ∀ g, row = some g → g < w.heap.size) : w.grownBy w' row :=
  grown_trans (grown_alloc (grown_refl w row) o) h

theorem one_new (w : World) (x : Int) (ty : TypeId) : ∀ j u, [Value.int .i64 x][j]? = some u → (w.alloc (.cells #[.int .i64 x] ty)).cell? ((⟨w.heap.size, 0, none⟩ : Addr).add j) = some u := by
  intro j u hj
  match j, hj with
  | 0, hj => simp at hj; subst hj; simp [Addr.add]

theorem one_cell (x : Int) : ∀ u ∈ [Value.int .i64 x], u.oneCell' = true := by
  intro u hu
  simp at hu
  subst hu
  rfl

theorem Ends.cases {α : Type} {p : P α} {l : List Bool} {x : α} {σ' : Option (List Bool)} (h : Ends p (some l) x σ') :
    (∃ r, p l = some (x, r) ∧ σ' = some r) ∨ (p l = none ∧ σ' = none) := by
  unfold Ends at h
  cases hp : p l with
  | none => simp [hp] at h; exact .inr ⟨rfl, h⟩
  | some yr =>
    obtain ⟨y, r⟩ := yr
    simp [hp] at h
    exact .inl ⟨r, by rw [h.1], h.2⟩

theorem Ends.of {α : Type} {p : P α} {l : List Bool} {x : α} {r : List Bool} (h : p l = some (x, r)) : Ends p (some l) x (some r) := by
  unfold Ends
  simp [h]

/-! lists that are read one by one -/

def Upto (f : P Int) (n k : Nat) (xs : List Int) (σ σ' : Option (List Bool)) : Prop :=
  (∃ l l' : List Bool, σ = some l ∧ σ' = some l' ∧ xs.length = k ∧ pList f n l = (pList f (n - k) l').map fun (ys, r) => (xs ++ ys, r)) ∨
  (σ' = none ∧ ∀ ys, Ends (pList f n) σ ys none)

theorem Upto.start (f : P Int) (n : Nat) (σ : Option (List Bool)) : Upto f n 0 [] σ σ := by
  cases σ with
  | none => exact .inr ⟨rfl, fun _ => rfl⟩
  | some l =>
    refine .inl ⟨l, l, rfl, rfl, rfl, ?_⟩
    rw [Nat.sub_zero]
    cases pList f n l <;> rfl

theorem Upto.live {f : P Int} {n k : Nat} {xs : List Int} {σ σ' : Option (List Bool)} (h : Upto f n k xs σ σ') (l' : List Bool) (e : σ' = some l') : xs.length = k := by
  rcases h with ⟨_, _, _, _, h, _⟩ | ⟨h, _⟩
  · exact h
  · rw [h] at e; cases e

theorem Upto.next {f : P Int} {n k : Nat} {xs : List Int} {σ σ' σ'' : Option (List Bool)} {x : Int} (h : Upto f n k xs σ σ') (hk : k < n) (hl : σ' ≠ none) (hx : Ends f σ' x σ'') :
    Upto f n (k + 1) (xs ++ [x]) σ σ'' := by
  rcases h with ⟨l, l', rfl, rfl, hlen, hp⟩ | ⟨rfl, _⟩
  · obtain ⟨m, hm⟩ : ∃ m, n - k = m + 1 := ⟨n - k - 1, by omega⟩
    have hm' : n - (k + 1) = m := by omega
    rw [hm] at hp
    have e : pList f (m + 1) l' = (f l').bind fun (x, r) => (pList f m r).map fun (xs, r') => (x :: xs, r') := rfl
    rw [e] at hp
    rcases hx.cases with ⟨r, hf, rfl⟩ | ⟨hf, rfl⟩
    · rw [hf] at hp
      refine .inl ⟨l, r, rfl, rfl, by rw [List.length_append, List.length_singleton, hlen], ?_⟩
      rw [hp, hm']
      show ((pList f m r).map _).map _ = _
      rw [Option.map_map]
      congr 1
      funext z
      obtain ⟨z1, z2⟩ := z
      simp
    · rw [hf] at hp
      refine .inr ⟨rfl, fun ys => Ends.fail (fun l0 e0 => ?_)⟩
      cases e0
      exact hp
  · exact absurd rfl hl

theorem Upto.ends {f : P Int} {n : Nat} {xs : List Int} {σ σ' : Option (List Bool)} (h : Upto f n n xs σ σ') : Ends (pList f n) σ xs σ' := by
  rcases h with ⟨l, l', rfl, rfl, hlen, hp⟩ | ⟨rfl, h⟩
  · refine Ends.of ?_
    rw [hp, Nat.sub_self]
    show some (xs ++ [], l') = _
    simp
  · exact h xs

theorem Upto.dead {f : P Int} {n k : Nat} {xs : List Int} {σ : Option (List Bool)} (h : Upto f n k xs σ none) (ys : List Int) : Ends (pList f n) σ ys none := by
  rcases h with ⟨l, l', rfl, h, _⟩ | ⟨_, h⟩
  · cases h
  · exact h ys

/-- all are numbers of so many signed bits -/
def Signs (wide : Nat) (xs : List Int) : Prop := ∀ x ∈ xs, ∃ v, v < 2 ^ wide ∧ x = sign wide v

theorem Signs.nil (wide : Nat) : Signs wide [] := fun x hx => by cases hx

theorem Signs.snoc {wide : Nat} {xs : List Int} {v : Nat} (h : Signs wide xs) (hv : v < 2 ^ wide) : Signs wide (xs ++ [sign wide v]) := by
  intro y hy
  rcases List.mem_append.1 hy with hy | hy
  · exact h y hy
  · exact ⟨v, hv, List.mem_singleton.1 hy⟩

/-- what a reading of a list leaves -/
def ListPost (w : World) (b : Nat) (s : ByteArray) (σ : Option (List Bool)) (p : P (List Int)) (lim : List Int → Prop) (e : Ending) (w' : World) : Prop :=
  ∃ (v : Value) (xs : List Int) (σ' : Option (List Bool)), e = .returned v ∧ Own w' w.heap.size v xs ∧ lim xs ∧ w.grownBy w' (some b) ∧ St 86 w' b s σ' ∧ Ends p σ xs σ'

set_option maxHeartbeats 1000000 in
set_option maxRecDepth 20000 in
theorem rplain (w : World) (b : Nat) (s : ByteArray) (n wide : Nat) (σ : Option (List Bool)) (hs : s.size ≤ 6000) (hn : n ≤ 256) (hw : wide ≤ 32) (h : St 86 w b s σ) :
    Calls Try.prog 94 #[.pointer (some ⟨b, 0, none⟩), .int .i64 n, .int .i64 wide] w (ListPost w b s σ (pList (pSigned wide) n) fun xs => xs.length ≤ n ∧ Signs wide xs) := by
  obtain ⟨i0, hi, hz0, hz1, hz2⟩ := info_parts Try.info3
  have hblt := h.lt
  go_enter Try.func94, Try.ntmps94
  go_wp2
  go_loopw [7, 8] (fun o i wr => ∃ (k : Nat) (xs : List Int) (σ' : Option (List Bool)), k ≤ n ∧ i = .int .i64 k ∧ Own wr w.heap.size o xs ∧ xs.length ≤ k ∧ Signs wide xs ∧ w.grownBy wr (some b) ∧ St 86 wr b s σ' ∧ Upto (pSigned wide) n k xs σ σ')
    (fun _ i _ => n - (intOf i).toNat)
  case atStart => exact ⟨0, [], σ, Nat.zero_le _, rfl, Own.nil _ _, Nat.le_refl _, Signs.nil _, grown_refl _ _, h, Upto.start _ _ _⟩
  case round =>
    obtain ⟨k, xs, σ', hk, rfl, hown, hxl, hsm, hg, hst, hup⟩ := hrel
    have hm := hst.mark
    by_cases hlt : k < n
    · rcases σ' with _ | l'
      · have hm' : wr.cell? ⟨b, 2, none⟩ = some (.bool true) := hm
        clear hm
        go_wp2
        go_ret
        exact ⟨_, xs, none, rfl, hown, ⟨by omega, hsm⟩, hg, hst, hup.dead xs⟩
      · have hm' : wr.cell? ⟨b, 2, none⟩ = some (.bool false) := hm
        clear hm
        go_wp2_with fail
        refine (rsigned _ _ _ _ _ hs hw hst).mono ?_
        rintro e w1 ⟨v, σ1, rfl, hv, hg1, hst1, hends⟩
        have hown1 := hown.kept hg1 hblt
        have hsb := sign_bounds wide v hw hv
        go_wp2_with (first
          | (at_builtin; refine wpList_append_own _ rfl _ _ 30 rfl w.heap.size 3 i0 (.int .i64 0) 1 8 Try.underlying30 hi hz0 hz1 hz2 rfl (by decide) _ _ _ rfl (hown1.alloc _) ⟨w1.heap.size, 0, none⟩ 1 1 [.int .i64 (sign wide v)] rfl rfl ?c1 ?c2 ?c3 ?c4 ?c5 ?_))
        case c1 => exact one_new _ _ _
        case c2 => exact one_cell _
        case c3 => unfold maxLen; omega
        case c4 => omega
        case c5 => have := hg.size; have := hg1.size; simp; omega
        intro v' w2 hown' hgrow _
        have hown2 := hown1.step hown'
        have hgrow2 : w1.grownBy w2 u7.ownBlock := grown_from_alloc hgrow (fun g hg' => (hown1.lt g hg').2)
        have hg2 : w.grownBy w2 (some b) := grown_own (grown_trans hg hg1) hgrow2 (fun g hg' => (hown1.lt g hg').1)
        have hst2 : St 86 w2 b s σ1 := hst1.kept hgrow2 (fun e => by have := (hown1.lt b e.symm).1; omega)
        clear hown' hgrow hgrow2 hown hown1 hst hst1
        go_wp2
        go_roundw
        case rel => exact ⟨k + 1, xs ++ [sign wide v], σ1, by omega, by go_num, hown2, by simp; omega, hsm.snoc hv, hg2, hst2, hup.next hlt (by simp) hends⟩
        case measure => simp [intOf]; omega
    · obtain rfl : k = n := by omega
      go_wp2
      go_ret
      exact ⟨_, xs, σ', rfl, hown, ⟨hxl, hsm⟩, hg, hst, hup.ends⟩
end Go.Proofs.Ytncmgnmcggkhnaa

namespace Go.Proofs.Ytncmgnmcggkhnaa
open Go.RowKit

def UptoP (method many order total k : Nat) (xs : List Int) (σ σ' : Option (List Bool)) : Prop :=
  (∃ l l' : List Bool, σ = some l ∧ σ' = some l' ∧ pParts method many order total l = (pParts method many (if k = 0 then order else 0) (total - k) l').map fun (ys, r) => (xs ++ ys, r)) ∨
  (σ' = none ∧ ∀ ys, Ends (pParts method many order total) σ ys none)

theorem UptoP.start (method many order total : Nat) (σ : Option (List Bool)) : UptoP method many order total 0 [] σ σ := by
  cases σ with
  | none => exact .inr ⟨rfl, fun _ => rfl⟩
  | some l =>
    refine .inl ⟨l, l, rfl, rfl, ?_⟩
    rw [Nat.sub_zero, if_pos rfl]
    cases pParts method many order total l <;> rfl

theorem UptoP.next {method many order total k : Nat} {xs ys : List Int} {σ σ' σ'' : Option (List Bool)} (h : UptoP method many order total k xs σ σ') (hk : k < total) (hl : σ' ≠ none)
    (hx : Ends (pPart method (many - (if k = 0 then order else 0))) σ' ys σ'') : UptoP method many order total (k + 1) (xs ++ ys) σ σ'' := by
  rcases h with ⟨l, l', rfl, rfl, hp⟩ | ⟨rfl, _⟩
  · obtain ⟨m, hm⟩ : ∃ m, total - k = m + 1 := ⟨total - k - 1, by omega⟩
    have hm' : total - (k + 1) = m := by omega
    rw [hm] at hp
    generalize (if k = 0 then order else 0) = less at hp hx
    have e : pParts method many less (m + 1) l' = (pPart method (many - less) l').bind fun (xs, r) => (pParts method many 0 m r).map fun (ys, r') => (xs ++ ys, r') := rfl
    rw [e] at hp
    rcases hx.cases with ⟨r, hf, rfl⟩ | ⟨hf, rfl⟩
    · rw [hf] at hp
      refine .inl ⟨l, r, rfl, rfl, ?_⟩
      rw [hp, hm', if_neg (by omega)]
      show ((pParts method many 0 m r).map _).map _ = _
      rw [Option.map_map]
      congr 1
      funext z
      obtain ⟨z1, z2⟩ := z
      simp
    · rw [hf] at hp
      refine .inr ⟨rfl, fun ys => Ends.fail (fun l0 e0 => ?_)⟩
      cases e0
      exact hp
  · exact absurd rfl hl

theorem UptoP.ends {method many order total : Nat} {xs : List Int} {σ σ' : Option (List Bool)} (h : UptoP method many order total total xs σ σ') : Ends (pParts method many order total) σ xs σ' := by
  rcases h with ⟨l, l', rfl, rfl, hp⟩ | ⟨rfl, h⟩
  · refine Ends.of ?_
    rw [hp, Nat.sub_self]
    show some (xs ++ [], l') = _
    simp
  · exact h xs

theorem UptoP.dead {method many order total k : Nat} {xs : List Int} {σ : Option (List Bool)} (h : UptoP method many order total k xs σ none) (ys : List Int) : Ends (pParts method many order total) σ ys none := by
  rcases h with ⟨l, l', rfl, h, _⟩ | ⟨_, h⟩
  · cases h
  · exact h ys

/-- how a part's numbers are read -/
def reads (method k m : Nat) : P Int := if k = 15 + 16 * method then pSigned m else pRice k

theorem part_plain {method cnt k m : Nat} {ys : List Int} {σ σ1 σ2 σ3 : Option (List Bool)} (h1 : Ends (pNum (4 + method)) σ k σ1) (hk : k = 15 + 16 * method)
    (h2 : Ends (pNum 5) σ1 m σ2) (h3 : Ends (pList (reads method k m) cnt) σ2 ys σ3) : Ends (pPart method cnt) σ ys σ3 := by
  unfold reads at h3
  rw [if_pos hk] at h3
  refine Ends.bind h1 (q := fun k r => if k = 15 + 16 * method then (pNum 5 r).bind fun (m, r') => pList (pSigned m) cnt r' else pList (pRice k) cnt r) ?_
  have e : (fun r => if k = 15 + 16 * method then (pNum 5 r).bind fun (m, r') => pList (pSigned m) cnt r' else pList (pRice k) cnt r) = fun r => (pNum 5 r).bind fun (m, r') => pList (pSigned m) cnt r' := by
    funext r; rw [if_pos hk]
  rw [e]
  exact Ends.bind h2 (q := fun m r' => pList (pSigned m) cnt r') h3

theorem part_rice {method cnt k m : Nat} {ys : List Int} {σ σ1 σ3 : Option (List Bool)} (h1 : Ends (pNum (4 + method)) σ k σ1) (hk : ¬ k = 15 + 16 * method)
    (h3 : Ends (pList (reads method k m) cnt) σ1 ys σ3) : Ends (pPart method cnt) σ ys σ3 := by
  unfold reads at h3
  rw [if_neg hk] at h3
  refine Ends.bind h1 (q := fun k r => if k = 15 + 16 * method then (pNum 5 r).bind fun (m, r') => pList (pSigned m) cnt r' else pList (pRice k) cnt r) ?_
  have e : (fun r => if k = 15 + 16 * method then (pNum 5 r).bind fun (m, r') => pList (pSigned m) cnt r' else pList (pRice k) cnt r) = fun r => pList (pRice k) cnt r := by
    funext r; rw [if_neg hk]
  rw [e]
  exact h3

theorem residue_yes {n order method p : Nat} {xs : List Int} {σ σ1 σ2 σ3 : Option (List Bool)} (h1 : Ends (pNum 2) σ method σ1) (h2 : Ends (pNum 4) σ1 p σ2)
    (hc : method ≤ 1 ∧ n % 2 ^ p = 0 ∧ order ≤ n / 2 ^ p) (h3 : Ends (pParts method (n / 2 ^ p) order (2 ^ p)) σ2 xs σ3) : Ends (pResidue n order) σ xs σ3 := by
  refine Ends.bind h1 (q := fun method r => (pNum 4 r).bind fun (p, r') => if method ≤ 1 ∧ n % 2 ^ p = 0 ∧ order ≤ n / 2 ^ p then pParts method (n / 2 ^ p) order (2 ^ p) r' else none) ?_
  refine Ends.bind h2 (q := fun p r' => if method ≤ 1 ∧ n % 2 ^ p = 0 ∧ order ≤ n / 2 ^ p then pParts method (n / 2 ^ p) order (2 ^ p) r' else none) ?_
  have e : (fun r' => if method ≤ 1 ∧ n % 2 ^ p = 0 ∧ order ≤ n / 2 ^ p then pParts method (n / 2 ^ p) order (2 ^ p) r' else none) = pParts method (n / 2 ^ p) order (2 ^ p) := by
    funext r; rw [if_pos hc]
  rw [e]
  exact h3

theorem residue_no {n order method p : Nat} {xs : List Int} {σ σ1 σ2 : Option (List Bool)} (h1 : Ends (pNum 2) σ method σ1) (h2 : Ends (pNum 4) σ1 p σ2)
    (hc : ¬ (method ≤ 1 ∧ n % 2 ^ p = 0 ∧ order ≤ n / 2 ^ p)) : Ends (pResidue n order) σ xs none := by
  refine Ends.bind h1 (q := fun method r => (pNum 4 r).bind fun (p, r') => if method ≤ 1 ∧ n % 2 ^ p = 0 ∧ order ≤ n / 2 ^ p then pParts method (n / 2 ^ p) order (2 ^ p) r' else none) ?_
  refine Ends.bind h2 (q := fun p r' => if method ≤ 1 ∧ n % 2 ^ p = 0 ∧ order ≤ n / 2 ^ p then pParts method (n / 2 ^ p) order (2 ^ p) r' else none) ?_
  exact Ends.fail (fun _ _ => if_neg hc)

theorem residue_dead {n order method p : Nat} {xs : List Int} {σ σ1 : Option (List Bool)} (h1 : Ends (pNum 2) σ method σ1) (h2 : Ends (pNum 4) σ1 p none) : Ends (pResidue n order) σ xs none := by
  refine Ends.bind h1 (q := fun method r => (pNum 4 r).bind fun (p, r') => if method ≤ 1 ∧ n % 2 ^ p = 0 ∧ order ≤ n / 2 ^ p then pParts method (n / 2 ^ p) order (2 ^ p) r' else none) ?_
  exact Ends.bind h2 (q := fun p r' => if method ≤ 1 ∧ n % 2 ^ p = 0 ∧ order ≤ n / 2 ^ p then pParts method (n / 2 ^ p) order (2 ^ p) r' else none) Ends.dead

/-! how many numbers there are -/

theorem pList_length (f : P Int) : ∀ (n : Nat) (l : List Bool) (xs : List Int) (r : List Bool), pList f n l = some (xs, r) → xs.length = n
  | 0, l, xs, r, h => by
    have h' : some (([] : List Int), l) = some (xs, r) := h
    injection h' with h'
    injection h' with h1 h2
    rw [← h1]; rfl
  | n + 1, l, xs, r, h => by
    have h' : ((f l).bind fun (x, r) => (pList f n r).map fun (xs, r') => (x :: xs, r')) = some (xs, r) := h
    cases hf : f l with
    | none => rw [hf] at h'; cases h'
    | some y =>
      obtain ⟨y, r1⟩ := y
      rw [hf] at h'
      have h2 : (pList f n r1).map (fun (xs, r') => (y :: xs, r')) = some (xs, r) := h'
      cases hp : pList f n r1 with
      | none => rw [hp] at h2; cases h2
      | some z =>
        obtain ⟨z, r2⟩ := z
        rw [hp] at h2
        injection h2 with h2
        injection h2 with h3 h4
        rw [← h3, List.length_cons, pList_length f n r1 z r2 hp]

theorem pPart_length (method many : Nat) (l : List Bool) (xs : List Int) (r : List Bool) (h : pPart method many l = some (xs, r)) : xs.length = many := by
  unfold pPart at h
  cases hk : pNum (4 + method) l with
  | none => rw [hk] at h; cases h
  | some k =>
    obtain ⟨k, r1⟩ := k
    rw [hk] at h
    simp only [Option.bind_some] at h
    split at h
    · cases hm : pNum 5 r1 with
      | none => rw [hm] at h; cases h
      | some m =>
        obtain ⟨m, r2⟩ := m
        rw [hm] at h
        exact pList_length _ _ _ _ _ h
    · exact pList_length _ _ _ _ _ h

theorem pParts_length (method many : Nat) : ∀ (c less : Nat) (l : List Bool) (xs : List Int) (r : List Bool), (c = 0 → less = 0) → less ≤ many → pParts method many less c l = some (xs, r) → xs.length + less = c * many
  | 0, less, l, xs, r, h0, _, h => by
    have h' : some (([] : List Int), l) = some (xs, r) := h
    injection h' with h'
    injection h' with h1 h2
    rw [← h1, h0 rfl]; simp
  | c + 1, less, l, xs, r, _, hle, h => by
    have h' : ((pPart method (many - less) l).bind fun (xs, r) => (pParts method many 0 c r).map fun (ys, r') => (xs ++ ys, r')) = some (xs, r) := h
    cases hf : pPart method (many - less) l with
    | none => rw [hf] at h'; cases h'
    | some y =>
      obtain ⟨y, r1⟩ := y
      rw [hf] at h'
      have h2 : (pParts method many 0 c r1).map (fun (ys, r') => (y ++ ys, r')) = some (xs, r) := h'
      cases hp : pParts method many 0 c r1 with
      | none => rw [hp] at h2; cases h2
      | some z =>
        obtain ⟨z, r2⟩ := z
        rw [hp] at h2
        injection h2 with h2
        injection h2 with h3 h4
        have e1 := pPart_length _ _ _ _ _ hf
        have e2 := pParts_length method many c 0 r1 z r2 (fun _ => rfl) (Nat.zero_le _) hp
        rw [← h3, List.length_append, Nat.succ_mul, e1]
        omega

theorem pResidue_length (n order : Nat) (l : List Bool) (xs : List Int) (r : List Bool) (h : pResidue n order l = some (xs, r)) : xs.length + order = n := by
  unfold pResidue at h
  cases hk : pNum 2 l with
  | none => rw [hk] at h; cases h
  | some k =>
    obtain ⟨k, r1⟩ := k
    rw [hk] at h
    simp only [Option.bind_some] at h
    cases hm : pNum 4 r1 with
    | none => rw [hm] at h; cases h
    | some m =>
      obtain ⟨m, r2⟩ := m
      rw [hm] at h
      simp only [Option.bind_some] at h
      split at h
      · rename_i hc
        have hp := Nat.two_pow_pos m
        have e := pParts_length k (n / 2 ^ m) (2 ^ m) order r2 xs r (fun h0 => by omega) hc.2.2 h
        rw [e, Nat.mul_comm]
        exact Nat.div_mul_cancel (Nat.dvd_of_mod_eq_zero hc.2.1)
      · cases h

def Mid (xs : List Int) : Prop := ∀ x ∈ xs, -70368744177664 ≤ x ∧ x ≤ 70368744177664

theorem Mid.nil : Mid [] := fun x hx => by cases hx

theorem Mid.snoc {xs : List Int} {x : Int} (h : Mid xs) (hx : -70368744177664 ≤ x ∧ x ≤ 70368744177664) : Mid (xs ++ [x]) := by
  intro y hy
  rcases List.mem_append.1 hy with hy | hy
  · exact h y hy
  · rw [List.mem_singleton.1 hy]; exact hx

end Go.Proofs.Ytncmgnmcggkhnaa

namespace Go.Proofs.Ytncmgnmcggkhnaa
open Go.RowKit

theorem pow_le15 (p : Nat) (h : p < 16) : 2 ^ p ≤ 32768 := Nat.pow_le_pow_right (n := 2) (j := 15) (by omega) (by omega)

theorem zs_len {zs xs ys : List Int} {j c : Nat} (h : zs = xs ++ ys) (hj : ys.length ≤ j) (hc : xs.length ≤ c) : zs.length ≤ c + j := by
  rw [h, List.length_append]; omega

theorem kk_le (method kk : Nat) (h : method ≤ 1) (hk : kk < 2 ^ (4 + method)) : kk ≤ 15 + 16 * method := by
  rcases (show method = 0 ∨ method = 1 by omega) with rfl | rfl
  · have : kk < 16 := hk
    omega
  · have : kk < 32 := hk
    omega

theorem rnumI (w : World) (b : Nat) (s : ByteArray) (a : Int) (n : Nat) (σ : Option (List Bool)) (hs : s.size ≤ 6000) (hn : n ≤ 48) (ha : a = n) (h : St 86 w b s σ) :
    Calls Try.prog 64 #[.pointer (some ⟨b, 0, none⟩), .int .i64 a] w fun e w' =>
      ∃ (v : Nat) (σ' : Option (List Bool)), e = .returned (.int .i64 v) ∧ v < 2 ^ n ∧ w.grownBy w' (some b) ∧ St 86 w' b s σ' ∧ Ends (pNum n) σ v σ' := by
  subst ha
  exact rnum w b s n σ hs hn h

set_option maxHeartbeats 2000000 in
set_option maxRecDepth 20000 in
theorem rresidue (w : World) (b : Nat) (s : ByteArray) (n order : Nat) (σ : Option (List Bool)) (hs : s.size ≤ 6000) (hn : n ≤ 256) (hn1 : 1 ≤ n) (ho : order ≤ n) (h : St 86 w b s σ) :
    Calls Try.prog 125 #[.pointer (some ⟨b, 0, none⟩), .int .i64 n, .int .i64 order] w (ListPost w b s σ (pResidue n order) Mid) := by
  obtain ⟨i0, hi, hz0, hz1, hz2⟩ := info_parts Try.info3
  have hblt := h.lt
  go_enter Try.func125, Try.ntmps125
  go_wp2_with fail
  refine (rnum _ _ _ 2 _ hs (by omega) h).mono ?_
  rintro e w1 ⟨method, σ1, rfl, hmeth, hg1, hst1, hends1⟩
  go_wp2_with fail
  refine (rnum _ _ _ 4 _ hs (by omega) hst1).mono ?_
  rintro e w2 ⟨p, σ2, rfl, hp, hg2, hst2, hends2⟩
  have hg := grown_trans hg1 hg2
  clear hg1 hg2 hst1
  have hp16 : p < 16 := hp
  have hm4 : method < 4 := hmeth
  clear hp hmeth
  go_wp2
  go_loop [8, 9] (fun t i => ∃ k q : Nat, k ≤ p ∧ i = .int .i64 k ∧ t = .int .i64 q ∧ q ≤ 32768 ∧ Hid (q = 2 ^ (p - k))) (fun _ i => (intOf i).toNat)
  case atStart => exact ⟨p, 1, Nat.le_refl _, rfl, rfl, by omega, (by simp : _ = _)⟩
  case round =>
    obtain ⟨k, q, hk, rfl, rfl, hq, hqe⟩ := hrel
    by_cases hk0 : 0 < k
    · have hq2 : q ≤ 16384 := by
        have e : q = 2 ^ (p - k) := hqe.out
        have : 2 ^ (p - k) ≤ 2 ^ 14 := Nat.pow_le_pow_right (by omega) (by omega)
        omega
      go_wp2
      go_round
      case rel => exact ⟨k - 1, 2 * q, by omega, by go_num, by go_num, by omega, (by rw [hqe.out, show p - (k - 1) = (p - k) + 1 by omega, Nat.pow_succ]; omega : _ = _)⟩
      case measure => simp [intOf]; omega
    · obtain rfl : k = 0 := by omega
      have hqp : 0 < q := by rw [hqe.out]; exact Nat.two_pow_pos _
      have HQ : Hid (q = 2 ^ p) := hqe
      clear hqe
      have hm := hst2.mark
      have hf := hst2.fz 2
      rcases σ2 with _ | l2
      · have hm' : w2.cell? ⟨b, 2, none⟩ = some (.bool true) := hm
        clear hm
        go_wp2
        go_ret
        exact ⟨_, [], none, rfl, Own.nil _ _, Mid.nil, grown_trans hg (grown_set _ _ _ _), hst2.kill hs, residue_dead hends1 hends2⟩
      · have hm' : w2.cell? ⟨b, 2, none⟩ = some (.bool false) := hm
        clear hm
        obtain ⟨m, hmdef⟩ : ∃ m, n / q = m := ⟨_, rfl⟩
        obtain ⟨md, hmddef⟩ : ∃ md, n % q = md := ⟨_, rfl⟩
        have hm256 : m ≤ 256 := by have := Nat.div_le_self n q; omega
        have hdiv : (n : Int) / (q : Int) = (m : Int) := by rw [← hmdef]; simp
        have hmod : (n : Int) % (q : Int) = (md : Int) := by rw [← hmddef]; simp
        have hd0 : (0 : Int) ≤ (n : Int) / (q : Int) := by omega
        have hd1 : (n : Int) / (q : Int) ≤ 256 := by omega
        have hq0 : ¬ q = 0 := by omega
        have HC : Hid ((method ≤ 1 ∧ md = 0 ∧ order ≤ m) ↔ (method ≤ 1 ∧ n % 2 ^ p = 0 ∧ order ≤ n / 2 ^ p)) := by
          show _ ↔ _
          rw [← HQ.out, hmdef, hmddef]
        have HM : Hid (n / 2 ^ p = m) := by
          show _ = _
          rw [← HQ.out, hmdef]
        clear hmdef hmddef
        by_cases hc : method ≤ 1 ∧ md = 0 ∧ order ≤ m
        · have HCC : Hid (method ≤ 1 ∧ n % 2 ^ p = 0 ∧ order ≤ n / 2 ^ p) := HC.out.1 hc
          obtain ⟨hc1, rfl, hc3⟩ := hc
          clear HC
          go_wp2
          go_loopw [10, 11] (fun o i wr => ∃ (k : Nat) (xs : List Int) (σ' : Option (List Bool)), k ≤ q ∧ i = .int .i64 k ∧ Own wr w.heap.size o xs ∧ xs.length ≤ k * 256 ∧ Mid xs ∧ w.grownBy wr (some b) ∧ St 86 wr b s σ' ∧ UptoP method m order q k xs (some l2) σ')
            (fun _ i _ => q - (intOf i).toNat)
          case atStart => exact ⟨0, [], some l2, Nat.zero_le _, rfl, Own.nil _ _, Nat.zero_le _, Mid.nil, hg, hst2, UptoP.start _ _ _ _ _⟩
          case round =>
            obtain ⟨k, xs, σ', hk, rfl, hown, hxl, hmid, hgr, hst, hup⟩ := hrel
            have hm := hst.mark
            by_cases hkq : k < q
            · rcases σ' with _ | l'
              · have hm' : wr.cell? ⟨b, 2, none⟩ = some (.bool true) := hm
                clear hm
                go_wp2
                go_ret
                exact ⟨_, xs, none, rfl, hown, hmid, hgr, hst, residue_yes hends1 hends2 HCC.out (by rw [HM.out, ← HQ.out]; exact hup.dead xs)⟩
              · have hm'' : wr.cell? ⟨b, 2, none⟩ = some (.bool false) := hm
                clear hm
                have hcases : ∃ cnt : Nat, cnt ≤ 256 ∧ Hid (cnt = m - (if k = 0 then order else 0)) ∧ ((k < 1 ∧ (m : Int) - (order : Int) = (cnt : Int)) ∨ (1 ≤ k ∧ cnt = m)) := by
                  rcases Nat.lt_or_ge k 1 with hk0 | hk0
                  · exact ⟨m - order, by omega, (by rw [if_pos (by omega)] : _ = _), .inl ⟨hk0, by omega⟩⟩
                  · exact ⟨m, by omega, (by rw [if_neg (by omega)]; rfl : _ = _), .inr ⟨hk0, rfl⟩⟩
                obtain ⟨cnt, hcnt, HCNT, ⟨hk0, hsub⟩ | ⟨hk0, rfl⟩⟩ := hcases
                all_goals
                  go_wp2_with fail
                  refine (rnumI _ _ _ (4 + (method : Int)) (4 + method) _ hs (by omega) (by omega) hst).mono ?_
                  rintro e w3 ⟨kk, σ3, rfl, hkk0, hg3, hst3, hends3⟩
                  have hkk := kk_le method kk hc1 hkk0
                  clear hkk0
                  have hown3 := hown.kept hg3 hblt
                  have hgr3 := grown_trans hgr hg3
                  clear hown hgr hst hm'' hg3
                  rcases Nat.lt_or_ge kk (15 + 16 * method) with hall | hall
                  · have hnb : ((kk : Int) == 15 + 16 * (method : Int)) = false := by simp; omega
                    go_wp2
                    go_loopw [10, 16] (fun o i wr => ∃ (j : Nat) (ys zs : List Int) (σ' : Option (List Bool)), j ≤ cnt ∧ i = .int .i64 j ∧ Own wr w.heap.size o zs ∧ Hid (zs = xs ++ ys ∧ ys.length ≤ j) ∧ zs.length ≤ 16777216 ∧ Mid zs ∧ w.grownBy wr (some b) ∧ St 86 wr b s σ' ∧ Upto (reads method kk 0) cnt j ys σ3 σ')
                      (fun _ i _ => cnt - (intOf i).toNat)
                    case atStart => exact ⟨0, [], xs, σ3, Nat.zero_le _, rfl, hown3, (⟨by rw [List.append_nil], Nat.le_refl _⟩ : _ ∧ _), by omega, hmid, hgr3, hst3, Upto.start _ _ _⟩
                    case round =>
                      obtain ⟨j, ys, zs, σ5, hj, rfl, hown5, HZ, hzl, hmid5, hgr5, hst5, hup5⟩ := hrel
                      have hm5 := hst5.mark
                      by_cases hjc : j < cnt
                      · rcases σ5 with _ | l5
                        · have hm5' : wr.cell? ⟨b, 2, none⟩ = some (.bool true) := hm5
                          have hupn := hup.next (ys := ys) hkq (by simp) (by rw [← HCNT.out]; exact part_rice hends3 (by omega) (hup5.dead ys))
                          rw [← HZ.out.1] at hupn
                          have hzl2 := zs_len HZ.out.1 HZ.out.2 hxl
                          clear hm5
                          go_wp2
                          go_roundw
                          case rel => first | exact ⟨k + 1, zs, none, by omega, by go_num, hown5, by omega, hmid5, hgr5, hst5, hupn⟩ | ((repeat apply Exists.intro); exact ⟨⟨k + 1, zs, none, by omega, by go_num, hown5, by omega, hmid5, hgr5, hst5, hupn⟩, rfl⟩)
                          case measure => simp [intOf]; omega
                        · have hm5' : wr.cell? ⟨b, 2, none⟩ = some (.bool false) := hm5
                          clear hm5
                          go_wp2_with fail
                          refine (rrice _ _ _ kk _ hs (by omega) hst5).mono ?_
                          rintro e w6 ⟨x, σ6, rfl, hxb1, hxb2, hg6, hst6, hends60⟩
                          have hxb : -70368744177664 ≤ x ∧ x ≤ 70368744177664 := ⟨hxb1, hxb2⟩
                          have hends6 : Ends (reads method kk 0) (some l5) x σ6 := by unfold reads; rw [if_neg (by omega)]; exact hends60
                          clear hends60
                          have hown6 := hown5.kept hg6 hblt
                          go_wp2_with (first
                            | (at_builtin; refine wpList_append_own _ rfl _ _ 30 rfl w.heap.size 3 i0 (.int .i64 0) 1 8 Try.underlying30 hi hz0 hz1 hz2 rfl (by decide) _ _ _ rfl (hown6.alloc _) ⟨w6.heap.size, 0, none⟩ 1 1 [.int .i64 x] rfl rfl ?c1 ?c2 ?c3 ?c4 ?c5 ?_))
                          case c1 => exact one_new _ _ _
                          case c2 => exact one_cell _
                          case c3 => unfold maxLen; omega
                          case c4 => omega
                          case c5 => have := hgr5.size; have := hg6.size; simp; omega
                          intro v' w7 hown' hgrow _
                          have hown7 := hown6.step hown'
                          have hgrow2 := grown_from_alloc hgrow (fun g hg' => (hown6.lt g hg').2)
                          have hg7 : w.grownBy w7 (some b) := grown_own (grown_trans hgr5 hg6) hgrow2 (fun g hg' => (hown6.lt g hg').1)
                          have hst7 : St 86 w7 b s σ6 := hst6.kept hgrow2 (fun e => by have := (hown6.lt b e.symm).1; omega)
                          clear hown' hgrow hgrow2 hown5 hown6 hst5 hst6
                          go_wp2
                          go_roundw
                          case rel => exact ⟨j + 1, ys ++ [x], zs ++ [x], σ6, by omega, by go_num, hown7, (⟨by rw [HZ.out.1, List.append_assoc], by have := HZ.out.2; rw [List.length_append, List.length_singleton]; omega⟩ : _ ∧ _), by have := zs_len HZ.out.1 HZ.out.2 hxl; rw [List.length_append, List.length_singleton]; omega, hmid5.snoc hxb, hg7, hst7, hup5.next hjc (by simp) hends6⟩
                          case measure => simp [intOf]; omega
                      · obtain rfl : j = cnt := by omega
                        have hupn := hup.next (ys := ys) hkq (by simp) (by rw [← HCNT.out]; exact part_rice hends3 (by omega) hup5.ends)
                        rw [← HZ.out.1] at hupn
                        have hzl2 := zs_len HZ.out.1 HZ.out.2 hxl
                        go_wp2
                        go_roundw
                        case rel => first | exact ⟨k + 1, zs, σ5, by omega, by go_num, hown5, by omega, hmid5, hgr5, hst5, hupn⟩ | ((repeat apply Exists.intro); exact ⟨⟨k + 1, zs, σ5, by omega, by go_num, hown5, by omega, hmid5, hgr5, hst5, hupn⟩, rfl⟩)
                        case measure => simp [intOf]; omega
                  · have hnb : ((kk : Int) == 15 + 16 * (method : Int)) = true := by simp; omega
                    go_wp2_with fail
                    refine (rnum _ _ _ 5 _ hs (by omega) hst3).mono ?_
                    rintro e w4 ⟨mm, σ4, rfl, hmm0, hg4, hst4, hends4⟩
                    have hmm : mm < 32 := hmm0
                    have hown4 := hown3.kept hg4 hblt
                    have hgr4 := grown_trans hgr3 hg4
                    clear hown3 hgr3 hst3 hg4 hmm0
                    go_wp2
                    go_loopw [10, 16] (fun o i wr => ∃ (j : Nat) (ys zs : List Int) (σ' : Option (List Bool)), j ≤ cnt ∧ i = .int .i64 j ∧ Own wr w.heap.size o zs ∧ Hid (zs = xs ++ ys ∧ ys.length ≤ j) ∧ zs.length ≤ 16777216 ∧ Mid zs ∧ w.grownBy wr (some b) ∧ St 86 wr b s σ' ∧ Upto (reads method kk mm) cnt j ys σ4 σ')
                      (fun _ i _ => cnt - (intOf i).toNat)
                    case atStart => exact ⟨0, [], xs, σ4, Nat.zero_le _, rfl, hown4, (⟨by rw [List.append_nil], Nat.le_refl _⟩ : _ ∧ _), by omega, hmid, hgr4, hst4, Upto.start _ _ _⟩
                    case round =>
                      obtain ⟨j, ys, zs, σ5, hj, rfl, hown5, HZ, hzl, hmid5, hgr5, hst5, hup5⟩ := hrel
                      have hm5 := hst5.mark
                      by_cases hjc : j < cnt
                      · rcases σ5 with _ | l5
                        · have hm5' : wr.cell? ⟨b, 2, none⟩ = some (.bool true) := hm5
                          have hupn := hup.next (ys := ys) hkq (by simp) (by rw [← HCNT.out]; exact part_plain hends3 (by omega) hends4 (hup5.dead ys))
                          rw [← HZ.out.1] at hupn
                          have hzl2 := zs_len HZ.out.1 HZ.out.2 hxl
                          clear hm5
                          go_wp2
                          go_roundw
                          case rel => first | exact ⟨k + 1, zs, none, by omega, by go_num, hown5, by omega, hmid5, hgr5, hst5, hupn⟩ | ((repeat apply Exists.intro); exact ⟨⟨k + 1, zs, none, by omega, by go_num, hown5, by omega, hmid5, hgr5, hst5, hupn⟩, rfl⟩)
                          case measure => simp [intOf]; omega
                        · have hm5' : wr.cell? ⟨b, 2, none⟩ = some (.bool false) := hm5
                          clear hm5
                          go_wp2_with fail
                          refine (rsigned _ _ _ mm _ hs (by omega) hst5).mono ?_
                          rintro e w6 ⟨v6, σ6, rfl, hv6, hg6, hst6, hends60⟩
                          have hsb := sign_bounds mm v6 (by omega) hv6
                          generalize sign mm v6 = x at hsb hends60 ⊢
                          have hxb : -70368744177664 ≤ x ∧ x ≤ 70368744177664 := by omega
                          have hends6 : Ends (reads method kk mm) (some l5) x σ6 := by unfold reads; rw [if_pos (by omega)]; exact hends60
                          clear hends60
                          have hown6 := hown5.kept hg6 hblt
                          go_wp2_with (first
                            | (at_builtin; refine wpList_append_own _ rfl _ _ 30 rfl w.heap.size 3 i0 (.int .i64 0) 1 8 Try.underlying30 hi hz0 hz1 hz2 rfl (by decide) _ _ _ rfl (hown6.alloc _) ⟨w6.heap.size, 0, none⟩ 1 1 [.int .i64 x] rfl rfl ?c1 ?c2 ?c3 ?c4 ?c5 ?_))
                          case c1 => exact one_new _ _ _
                          case c2 => exact one_cell _
                          case c3 => unfold maxLen; omega
                          case c4 => omega
                          case c5 => have := hgr5.size; have := hg6.size; simp; omega
                          intro v' w7 hown' hgrow _
                          have hown7 := hown6.step hown'
                          have hgrow2 := grown_from_alloc hgrow (fun g hg' => (hown6.lt g hg').2)
                          have hg7 : w.grownBy w7 (some b) := grown_own (grown_trans hgr5 hg6) hgrow2 (fun g hg' => (hown6.lt g hg').1)
                          have hst7 : St 86 w7 b s σ6 := hst6.kept hgrow2 (fun e => by have := (hown6.lt b e.symm).1; omega)
                          clear hown' hgrow hgrow2 hown5 hown6 hst5 hst6
                          go_wp2
                          go_roundw
                          case rel => exact ⟨j + 1, ys ++ [x], zs ++ [x], σ6, by omega, by go_num, hown7, (⟨by rw [HZ.out.1, List.append_assoc], by have := HZ.out.2; rw [List.length_append, List.length_singleton]; omega⟩ : _ ∧ _), by have := zs_len HZ.out.1 HZ.out.2 hxl; rw [List.length_append, List.length_singleton]; omega, hmid5.snoc hxb, hg7, hst7, hup5.next hjc (by simp) hends6⟩
                          case measure => simp [intOf]; omega
                      · obtain rfl : j = cnt := by omega
                        have hupn := hup.next (ys := ys) hkq (by simp) (by rw [← HCNT.out]; exact part_plain hends3 (by omega) hends4 hup5.ends)
                        rw [← HZ.out.1] at hupn
                        have hzl2 := zs_len HZ.out.1 HZ.out.2 hxl
                        go_wp2
                        go_roundw
                        case rel => first | exact ⟨k + 1, zs, σ5, by omega, by go_num, hown5, by omega, hmid5, hgr5, hst5, hupn⟩ | ((repeat apply Exists.intro); exact ⟨⟨k + 1, zs, σ5, by omega, by go_num, hown5, by omega, hmid5, hgr5, hst5, hupn⟩, rfl⟩)
                        case measure => simp [intOf]; omega
            · obtain rfl : k = q := by omega
              go_wp2
              go_ret
              exact ⟨_, xs, σ', rfl, hown, hmid, hgr, hst, residue_yes hends1 hends2 HCC.out (by rw [HM.out, ← HQ.out]; exact hup.ends)⟩
        · have fin : ListPost w b s σ (pResidue n order) Mid (.returned (.slice none 0 0)) (w2.setCell ⟨b, 2, none⟩ (.bool true)) :=
            ⟨_, [], none, rfl, Own.nil _ _, Mid.nil, grown_trans hg (grown_set _ _ _ _), hst2.kill hs, residue_no hends1 hends2 (fun h => hc (HC.out.2 h))⟩
          by_cases hc1 : method ≤ 1
          · by_cases hc2 : md = 0
            · subst hc2
              have hc3 : m < order := by omega
              go_wp2
              go_ret
              exact fin
            · go_wp2
              go_ret
              exact fin
          · go_wp2
            go_ret
            exact fin
end Go.Proofs.Ytncmgnmcggkhnaa
