import Derived.Test.YtncmgnmcggkhnaaGreatOthProofJ2
import Derived.Deep.AppendLies
namespace Go.Proofs.YtncmgnmcggkhnaaGreat
open Go.RowKit

theorem pow_le15 (p : Nat) (h : p < 16) : 2 ^ p ≤ 32768 := Nat.pow_le_pow_right (n := 2) (j := 15) (by omega) (by omega)

theorem zs_len {zs xs ys : List Int} {j c : Nat} (h : zs = xs ++ ys) (hj : ys.length ≤ j) (hc : xs.length ≤ c) : zs.length ≤ c + j := by
  rw [h, List.length_append]; omega

theorem kk_le (method kk : Nat) (h : method ≤ 1) (hk : kk < 2 ^ (4 + method)) : kk ≤ 15 + 16 * method := by
  rcases (show method = 0 ∨ method = 1 by omega) with rfl | rfl
  · have : kk < 16 := hk
    omega
  · have : kk < 32 := hk
    omega

end Go.Proofs.YtncmgnmcggkhnaaGreat

namespace Go.Proofs.YtncmgnmcggkhnaaGreat
open Go.RowKit

theorem tdiv2 (n : Int) (h : n < 0) : n.tdiv 2 = -((-n) / 2) := by
  have e := Int.neg_tdiv (-n) 2
  rw [Int.neg_neg, Int.tdiv_eq_ediv_of_nonneg (a := -n) (by omega)] at e
  exact e

theorem tmod2 (n : Int) (h : n < 0) : n.tmod 2 = -((-n) % 2) := by
  have e := Int.neg_tmod (-n) 2
  rw [Int.neg_neg, Int.tmod_eq_emod_of_nonneg (a := -n) (by omega)] at e
  exact e

theorem fitsB_iff (bits : Nat) (x : Int) : fitsB bits x = true ↔ -(2 ^ (bits - 1) : Int) ≤ x ∧ x < 2 ^ (bits - 1) := by
  unfold fitsB
  rw [Bool.and_eq_true, decide_eq_true_eq, decide_eq_true_eq, show ((2 ^ (bits - 1) : Nat) : Int) = 2 ^ (bits - 1) by simp]

theorem Own.alloc {w : World} {base : Nat} {v : Value} {xs : List Int} (h : Own w base v xs) (o : Obj) : Own (w.alloc o) base v xs := World.ownsRow.alloc h o

/-- a list that is written out -/
theorem own_lit (w : World) (base : Nat) (xs : List Int) (cs : Array Value) (n g : Nat) (hb : base ≤ w.heap.size) (hcs : cs = (xs.map (Value.int .i64)).toArray) (hn : xs.length = n) (hm : n ≤ maxLen) (hg : g = w.heap.size) :
    Own (w.alloc (.cells cs 3)) base (.slice (some ⟨g, 0, none⟩) n n) xs := by
  subst hg hn hcs
  unfold Own
  have := World.ownsRow_lit (base := base) (e := 3) (size := 1) w ((xs.map (Value.int .i64)).toArray) xs.length hb hm (by simp)
  simpa using this

theorem own_at0 (w : World) (o1 o2 o3 o4 o5 : Obj) (xs : List Int) (cs : Array Value) (n : Nat) (hcs : cs = (xs.map (Value.int .i64)).toArray) (hn : xs.length = n) (hm : n ≤ maxLen) :
    Own ((((((w.alloc (.cells cs 3)).alloc o1).alloc o2).alloc o3).alloc o4).alloc o5) w.heap.size (.slice (some ⟨w.heap.size, 0, none⟩) n n) xs :=
  (((((own_lit w w.heap.size xs cs n (w.heap.size) (Nat.le_refl _) hcs hn hm rfl).alloc _).alloc _).alloc _).alloc _).alloc _

theorem own_at1 (w : World) (o0 o2 o3 o4 o5 : Obj) (xs : List Int) (cs : Array Value) (n : Nat) (hcs : cs = (xs.map (Value.int .i64)).toArray) (hn : xs.length = n) (hm : n ≤ maxLen) :
    Own ((((((w.alloc o0).alloc (.cells cs 3)).alloc o2).alloc o3).alloc o4).alloc o5) w.heap.size (.slice (some ⟨w.heap.size + 1, 0, none⟩) n n) xs :=
  ((((own_lit (w.alloc o0) w.heap.size xs cs n (w.heap.size + 1) (by simp <;> omega) hcs hn hm (by simp)).alloc _).alloc _).alloc _).alloc _

theorem own_at2 (w : World) (o0 o1 o3 o4 o5 : Obj) (xs : List Int) (cs : Array Value) (n : Nat) (hcs : cs = (xs.map (Value.int .i64)).toArray) (hn : xs.length = n) (hm : n ≤ maxLen) :
    Own ((((((w.alloc o0).alloc o1).alloc (.cells cs 3)).alloc o3).alloc o4).alloc o5) w.heap.size (.slice (some ⟨w.heap.size + 1 + 1, 0, none⟩) n n) xs :=
  (((own_lit ((w.alloc o0).alloc o1) w.heap.size xs cs n (w.heap.size + 1 + 1) (by simp <;> omega) hcs hn hm (by simp)).alloc _).alloc _).alloc _

theorem own_at3 (w : World) (o0 o1 o2 o4 o5 : Obj) (xs : List Int) (cs : Array Value) (n : Nat) (hcs : cs = (xs.map (Value.int .i64)).toArray) (hn : xs.length = n) (hm : n ≤ maxLen) :
    Own ((((((w.alloc o0).alloc o1).alloc o2).alloc (.cells cs 3)).alloc o4).alloc o5) w.heap.size (.slice (some ⟨w.heap.size + 1 + 1 + 1, 0, none⟩) n n) xs :=
  ((own_lit (((w.alloc o0).alloc o1).alloc o2) w.heap.size xs cs n (w.heap.size + 1 + 1 + 1) (by simp <;> omega) hcs hn hm (by simp)).alloc _).alloc _

theorem own_at4 (w : World) (o0 o1 o2 o3 o5 : Obj) (xs : List Int) (cs : Array Value) (n : Nat) (hcs : cs = (xs.map (Value.int .i64)).toArray) (hn : xs.length = n) (hm : n ≤ maxLen) :
    Own ((((((w.alloc o0).alloc o1).alloc o2).alloc o3).alloc (.cells cs 3)).alloc o5) w.heap.size (.slice (some ⟨w.heap.size + 1 + 1 + 1 + 1, 0, none⟩) n n) xs :=
  (own_lit ((((w.alloc o0).alloc o1).alloc o2).alloc o3) w.heap.size xs cs n (w.heap.size + 1 + 1 + 1 + 1) (by simp <;> omega) hcs hn hm (by simp)).alloc _

theorem six_new (w : World) (o0 o1 o2 o3 o4 o5 : Obj) : w.grownBy ((((((w.alloc o0).alloc o1).alloc o2).alloc o3).alloc o4).alloc o5) none :=
  grown_alloc (grown_alloc (grown_alloc (grown_alloc (grown_alloc (grown_alloc (grown_refl _ _) _) _) _) _) _) _

end Go.Proofs.YtncmgnmcggkhnaaGreat

namespace Go.Proofs.YtncmgnmcggkhnaaGreat
open Go.RowKit

/-- below `base`, but for block `b`, all is as it was -/
structure Chg (base b : Nat) (w w' : World) : Prop where
  os : w'.os = w.os
  tape : w'.tape = w.tape
  output : w'.output = w.output
  size : w.heap.size ≤ w'.heap.size
  block : ∀ k, k < base → k ≠ b → w'.heap[k]? = w.heap[k]?

theorem Chg.refl (base b : Nat) (w : World) : Chg base b w w := ⟨rfl, rfl, rfl, Nat.le_refl _, fun _ _ _ => rfl⟩
theorem Chg.trans {base b : Nat} {w w' w'' : World} (h : Chg base b w w') (k : Chg base b w' w'') : Chg base b w w'' :=
  ⟨k.os.trans h.os, k.tape.trans h.tape, k.output.trans h.output, Nat.le_trans h.size k.size, fun i hi hb => (k.block i hi hb).trans (h.block i hi hb)⟩
theorem Chg.of {base b : Nat} {w w' : World} (h : w.grownBy w' (some b)) (hb : base ≤ w.heap.size) : Chg base b w w' :=
  ⟨h.os, h.tape, h.output, h.size, fun k hk hne => h.block k (by omega) (fun e => hne (by injection e))⟩
theorem Chg.own {base b : Nat} {w w' : World} {row : Option Nat} (h : w.grownBy w' row) (hb : base ≤ w.heap.size) (hr : ∀ g, row = some g → base ≤ g) : Chg base b w w' :=
  ⟨h.os, h.tape, h.output, h.size, fun k hk _ => h.block k (by omega) (fun e => by have := hr k e.symm; omega)⟩
theorem Chg.grown {b : Nat} {w w' : World} (h : Chg w.heap.size b w w') : w.grownBy w' (some b) :=
  ⟨h.os, h.tape, h.output, h.size, fun k hk hne => h.block k hk (fun e => hne (by rw [e]))⟩
theorem Chg.mono {base base' b : Nat} {w w' : World} (h : Chg base b w w') (hb : base' ≤ base) : Chg base' b w w' :=
  ⟨h.os, h.tape, h.output, h.size, fun k hk hne => h.block k (by omega) hne⟩

/-- a list of ints that lies at the head of block `g` -/
def Row (w : World) (base g n cap : Nat) (xs : List Int) : Prop := w.ownsRow base 3 1 (.slice (some ⟨g, 0, none⟩) n cap) n (xs.map (Value.int .i64))

theorem Row.lt {w : World} {base g n cap : Nat} {xs : List Int} (h : Row w base g n cap xs) : base ≤ g ∧ g < w.heap.size := World.ownsRow.lt h g rfl

theorem Row.len {w : World} {base g n cap : Nat} {xs : List Int} (h : Row w base g n cap xs) : xs.length = n := by
  have := h.1
  simpa using this

theorem Row.cell {w : World} {base g n cap : Nat} {xs : List Int} (h : Row w base g n cap xs) (j : Nat) (hj : j < n) : w.cell? ⟨g, j, none⟩ = some (.int .i64 (xs.getD j 0)) := by
  have e := World.ownsRow.cellAt h j (by omega)
  have hl := h.len
  rw [e, List.getElem?_map, List.getElem?_eq_getElem (by omega)]
  simp [List.getD, List.getElem?_eq_getElem (show j < xs.length by omega)]

theorem Row.fz {w : World} {base g n cap : Nat} {xs : List Int} (h : Row w base g n cap xs) (j : Nat) : w.frozen? ⟨g, j, none⟩ = false := World.ownsRow.frozenAt h j

theorem Row.kept {w w' : World} {base g n cap : Nat} {xs : List Int} {row : Option Nat} (h : Row w base g n cap xs) (hg : w.grownBy w' row) (hne : some g ≠ row) : Row w' base g n cap xs :=
  World.ownsRow.kept h hg (.inr hne)

theorem Own.row {w : World} {base : Nat} {v : Value} {xs : List Int} (h : Own w base v xs) : (v = .slice none 0 0 ∧ xs = []) ∨ ∃ g cap, v = .slice (some ⟨g, 0, none⟩) xs.length cap ∧ Row w base g xs.length cap xs := by
  rcases h.2 with ⟨h1, h2⟩ | ⟨g, cap, cur, hv, r⟩
  · exact .inl ⟨h1, List.eq_nil_of_length_eq_zero h2⟩
  · subst hv
    exact .inr ⟨g, cap, rfl, h⟩

theorem Row.own {w : World} {base g n cap : Nat} {xs : List Int} (h : Row w base g n cap xs) : Own w base (.slice (some ⟨g, 0, none⟩) n cap) xs := by
  unfold Own
  rw [h.len]
  exact h

/-! what is foretold -/

theorem dot_take_succ : ∀ (fs bs : List Int) (j : Nat) (h1 : j < fs.length) (h2 : j < bs.length), dot (fs.take (j + 1)) bs = dot (fs.take j) bs + fs[j] * bs[j]
  | f :: fs, a :: bs, 0, _, _ => by simp [dot]
  | f :: fs, a :: bs, j + 1, h1, h2 => by
    have h1' : j < fs.length := by simpa using h1
    have h2' : j < bs.length := by simpa using h2
    have e := dot_take_succ fs bs j h1' h2'
    show f * a + dot (fs.take (j + 1)) bs = f * a + dot (fs.take j) bs + fs[j] * bs[j]
    rw [e]; omega

theorem dot_take_zero (fs bs : List Int) : dot (fs.take 0) bs = 0 := by simp [dot]

theorem rev_get (xs : List Int) (j : Nat) (h : j < xs.length) : xs.reverse[j]'(by simpa using h) = xs.getD (xs.length - 1 - j) 0 := by
  rw [List.getElem_reverse]
  simp [List.getD, List.getElem?_eq_getElem (show xs.length - 1 - j < xs.length by omega)]

def Abs (B : Int) (xs : List Int) : Prop := ∀ x ∈ xs, -B ≤ x ∧ x ≤ B

theorem Abs.get {B : Int} {xs : List Int} (h : Abs B xs) (hB : 0 ≤ B) (j : Nat) : -B ≤ xs.getD j 0 ∧ xs.getD j 0 ≤ B := by
  by_cases hj : j < xs.length
  · simp only [List.getD, List.getElem?_eq_getElem hj, Option.getD_some]
    exact h _ (List.getElem_mem hj)
  · simp only [List.getD, List.getElem?_eq_none (show xs.length ≤ j by omega), Option.getD_none]
    omega

theorem mul_bound (f x : Int) (h1 : -32768 ≤ f ∧ f ≤ 32768) (h2 : -65536 ≤ x ∧ x ≤ 65536) : -2147483648 ≤ f * x ∧ f * x ≤ 2147483648 := by
  have ha : f.natAbs ≤ 32768 := by omega
  have hb : x.natAbs ≤ 65536 := by omega
  have hm : (f * x).natAbs ≤ 32768 * 65536 := by
    rw [Int.natAbs_mul]
    exact Nat.mul_le_mul ha hb
  omega

theorem predict_step (wide : Nat) (factors : List Int) (shift : Nat) (xs res : List Int) (k : Nat) (hk : k < res.length) (x : Int) (hx : x = dot factors xs.reverse / 2 ^ shift + res.getD k 0) :
    predict wide factors shift xs.reverse (res.drop k) = if fitsB wide x then predict wide factors shift (xs ++ [x]).reverse (res.drop (k + 1)) else none := by
  rw [List.drop_eq_getElem_cons hk]
  have e : res.getD k 0 = res[k] := by simp [List.getD, List.getElem?_eq_getElem hk]
  rw [e] at hx
  subst hx
  rw [List.reverse_append]
  rfl

theorem predict_end (wide : Nat) (factors : List Int) (shift : Nat) (xs : List Int) : predict wide factors shift xs.reverse [] = some xs := by
  show some xs.reverse.reverse = some xs
  rw [List.reverse_reverse]

theorem fits_abs (wide : Nat) (hw : wide ≤ 17) (x : Int) (h : fitsB wide x = true) : -65536 ≤ x ∧ x ≤ 65536 := by
  have h1 := (fitsB_iff _ _).1 h
  have h2 : (2 : Int) ^ (wide - 1) ≤ 65536 := by
    rw [show (2 : Int) ^ (wide - 1) = ((2 ^ (wide - 1) : Nat) : Int) by simp]
    have : 2 ^ (wide - 1) ≤ 2 ^ 16 := Nat.pow_le_pow_right (by omega) (by omega)
    omega
  omega

theorem sign_fits (wide v : Nat) (hw : 1 ≤ wide) (hv : v < 2 ^ wide) : fitsB wide (sign wide v) = true := by
  rw [fitsB_iff]
  obtain ⟨m, rfl⟩ : ∃ m, wide = m + 1 := ⟨wide - 1, by omega⟩
  have e : (2 : Int) ^ (m + 1) = 2 ^ m * 2 := by rw [Int.pow_succ]
  have e2 : ((2 ^ m : Nat) : Int) = (2 : Int) ^ m := by simp
  have e3 : 2 ^ (m + 1) = 2 ^ m * 2 := Nat.pow_succ 2 m
  show -(2 ^ m : Int) ≤ _ ∧ _ < (2 : Int) ^ m
  rcases Nat.lt_or_ge v (2 ^ m) with h | h
  · rw [sign_pos _ _ h]; omega
  · rw [sign_neg _ _ (by omega) h, e]; omega

theorem Signs.abs {wide : Nat} {xs : List Int} (h : Signs wide xs) (h1 : 1 ≤ wide) (hw : wide ≤ 17) : Abs 65536 xs := by
  intro x hx
  obtain ⟨v, hv, rfl⟩ := h x hx
  exact fits_abs wide hw _ (sign_fits wide v h1 hv)

theorem Signs.abs15 {wide : Nat} {xs : List Int} (h : Signs wide xs) (h1 : 1 ≤ wide) (hw : wide ≤ 16) : Abs 32768 xs := by
  intro x hx
  obtain ⟨v, hv, rfl⟩ := h x hx
  have h1 := (fitsB_iff _ _).1 (sign_fits wide v h1 hv)
  have h2 : (2 : Int) ^ (wide - 1) ≤ 32768 := by
    rw [show (2 : Int) ^ (wide - 1) = ((2 ^ (wide - 1) : Nat) : Int) by simp]
    have : 2 ^ (wide - 1) ≤ 2 ^ 15 := Nat.pow_le_pow_right (by omega) (by omega)
    omega
  omega

theorem foretold_ends {n wide shift : Nat} {first factors res xs : List Int} {σ σ1 : Option (List Bool)} (h1 : Ends (pResidue n first.length) σ res σ1)
    (h2 : predict wide factors shift first.reverse res = some xs) : Ends (pForetold n wide first factors shift) σ xs σ1 := by
  refine Ends.bind h1 (q := fun res r => (predict wide factors shift first.reverse res).map fun xs => (xs, r)) ?_
  unfold Ends
  cases σ1 with
  | none => rfl
  | some l => simp [h2]

theorem foretold_fail {n wide shift : Nat} {first factors res xs : List Int} {σ σ1 : Option (List Bool)} (h1 : Ends (pResidue n first.length) σ res σ1)
    (h2 : predict wide factors shift first.reverse res = none) : Ends (pForetold n wide first factors shift) σ xs none := by
  refine Ends.bind h1 (q := fun res r => (predict wide factors shift first.reverse res).map fun xs => (xs, r)) ?_
  exact Ends.fail (fun l _ => by rw [h2]; rfl)

theorem foretold_dead {n wide shift : Nat} {first factors res xs : List Int} {σ : Option (List Bool)} (h1 : Ends (pResidue n first.length) σ res none) :
    Ends (pForetold n wide first factors shift) σ xs none :=
  Ends.bind h1 (q := fun res r => (predict wide factors shift first.reverse res).map fun xs => (xs, r)) Ends.dead

theorem residue_len {n order : Nat} {res : List Int} {σ : Option (List Bool)} {l : List Bool} (h : Ends (pResidue n order) σ res (some l)) : res.length + order = n := by
  cases σ with
  | none => cases h
  | some l0 =>
    rcases h.cases with ⟨r, hp, _⟩ | ⟨_, h⟩
    · exact pResidue_length _ _ _ _ _ hp
    · cases h

end Go.Proofs.YtncmgnmcggkhnaaGreat

namespace Go.Proofs.YtncmgnmcggkhnaaGreat
open Go.RowKit

theorem own_slice {w : World} {base : Nat} {v : Value} {xs : List Int} (h : Own w base v xs) : ∃ a c, v = .slice a xs.length c := by
  rcases h.row with ⟨rfl, rfl⟩ | ⟨g, cap, rfl, _⟩
  · exact ⟨none, 0, rfl⟩
  · exact ⟨_, cap, rfl⟩

theorem World.ownsRow_drewN {w : World} {base : Nat} {e : TypeId} {size : Nat} {v : Value} {n : Nat} {xs : List Value} (h : w.ownsRow base e size v n xs) (d : Nat) : (w.drewN d).ownsRow base e size v n xs := h

theorem halve (T : Int) (k : Nat) : T / 2 ^ k / 2 = T / 2 ^ (k + 1) := by
  rw [Int.ediv_ediv_of_nonneg (Int.le_of_lt (by exact Int.pow_pos (by omega))), Int.pow_succ]

theorem div_bound (T : Int) (k : Nat) (h1 : -34359738368 ≤ T) (h2 : T ≤ 34359738368) : -34359738368 ≤ T / 2 ^ k ∧ T / 2 ^ k ≤ 34359738368 := by
  have hp : (0 : Int) < 2 ^ k := Int.pow_pos (by omega)
  constructor
  · rw [Int.le_ediv_iff_mul_le hp]
    have : (-34359738368 : Int) * 2 ^ k ≤ -34359738368 * 1 := by
      apply Int.mul_le_mul_of_nonpos_left <;> omega
    omega
  · have h3 : T < 34359738369 * 2 ^ k := by
      have : (34359738369 : Int) * 1 ≤ 34359738369 * 2 ^ k := Int.mul_le_mul_of_nonneg_left (by omega) (by omega)
      omega
    have := Int.ediv_lt_of_lt_mul hp h3
    omega

end Go.Proofs.YtncmgnmcggkhnaaGreat

namespace Go.Proofs.YtncmgnmcggkhnaaGreat
open Go.RowKit

theorem Own.mono {w : World} {base base' : Nat} {v : Value} {xs : List Int} (h : Own w base v xs) (hb : base' ≤ base) : Own w base' v xs := by
  refine ⟨h.1, ?_⟩
  rcases h.2 with h2 | ⟨g, cap, cur, hv, hg, r⟩
  · exact .inl h2
  · exact .inr ⟨g, cap, cur, hv, by omega, r⟩

theorem Row.mono {w : World} {base base' g n cap : Nat} {xs : List Int} (h : Row w base g n cap xs) (hb : base' ≤ base) : Row w base' g n cap xs := by
  have := Own.mono h.own hb
  unfold Own at this
  rw [h.len] at this
  exact this

theorem fixed_len (o : Nat) (h : o ≤ 4) : (fixedFactors o).length = o := by
  rcases (show o = 0 ∨ o = 1 ∨ o = 2 ∨ o = 3 ∨ o = 4 by omega) with rfl | rfl | rfl | rfl | rfl <;> rfl

theorem fixed_abs (o : Nat) (h : o ≤ 4) : Abs 32768 (fixedFactors o) := by
  rcases (show o = 0 ∨ o = 1 ∨ o = 2 ∨ o = 3 ∨ o = 4 by omega) with rfl | rfl | rfl | rfl | rfl <;> intro x hx <;> simp [fixedFactors] at hx <;> omega

theorem list_len {f : P Int} {n : Nat} {xs : List Int} {σ : Option (List Bool)} {l : List Bool} (h : Ends (pList f n) σ xs (some l)) : xs.length = n := by
  cases σ with
  | none => cases h
  | some l0 =>
    rcases h.cases with ⟨r, hp, _⟩ | ⟨_, h⟩
    · exact pList_length _ _ _ _ _ hp
    · cases h

theorem fixed_ends {n wide order : Nat} {first xs : List Int} {σ σ1 σ2 : Option (List Bool)} (ho : order ≤ n) (h1 : Ends (pList (pSigned wide) order) σ first σ1)
    (h2 : Ends (pForetold n wide first (fixedFactors order) 0) σ1 xs σ2) : Ends (pFixed n wide order) σ xs σ2 := by
  have e : pFixed n wide order = fun l => (pList (pSigned wide) order l).bind fun (first, r) => pForetold n wide first (fixedFactors order) 0 r := by
    funext l
    unfold pFixed
    rw [if_pos ho]
  rw [e]
  exact Ends.bind h1 (q := fun first r => pForetold n wide first (fixedFactors order) 0 r) h2

theorem fixed_fail {n wide order : Nat} {xs : List Int} {σ : Option (List Bool)} (ho : ¬ order ≤ n) : Ends (pFixed n wide order) σ xs none :=
  Ends.fail (fun l _ => by unfold pFixed; rw [if_neg ho])

theorem linear_ends {n wide order fb : Nat} {shift : Int} {first factors xs : List Int} {σ σ1 σ2 σ3 σ4 σ5 : Option (List Bool)} (ho : order ≤ n) (h1 : Ends (pList (pSigned wide) order) σ first σ1)
    (h2 : Ends (pNum 4) σ1 fb σ2) (h3 : Ends (pSigned 5) σ2 shift σ3) (hc : ¬ (fb = 15 ∨ shift < 0)) (h4 : Ends (pList (pSigned (fb + 1)) order) σ3 factors σ4)
    (h5 : Ends (pForetold n wide first factors shift.toNat) σ4 xs σ5) : Ends (pLinear n wide order) σ xs σ5 := by
  have e : pLinear n wide order = fun l => (pList (pSigned wide) order l).bind fun (first, r) => (pNum 4 r).bind fun (fb, r1) => (pSigned 5 r1).bind fun (shift, r2) =>
      if fb = 15 ∨ shift < 0 then none else (pList (pSigned (fb + 1)) order r2).bind fun (factors, r3) => pForetold n wide first factors shift.toNat r3 := by
    funext l
    unfold pLinear
    rw [if_pos ho]
  rw [e]
  refine Ends.bind h1 (q := fun first r => (pNum 4 r).bind fun (fb, r1) => (pSigned 5 r1).bind fun (shift, r2) =>
      if fb = 15 ∨ shift < 0 then none else (pList (pSigned (fb + 1)) order r2).bind fun (factors, r3) => pForetold n wide first factors shift.toNat r3) ?_
  refine Ends.bind h2 (q := fun fb r1 => (pSigned 5 r1).bind fun (shift, r2) =>
      if fb = 15 ∨ shift < 0 then none else (pList (pSigned (fb + 1)) order r2).bind fun (factors, r3) => pForetold n wide first factors shift.toNat r3) ?_
  refine Ends.bind h3 (q := fun (shift : Int) r2 =>
      if fb = 15 ∨ shift < 0 then none else (pList (pSigned (fb + 1)) order r2).bind fun (factors, r3) => pForetold n wide first factors shift.toNat r3) ?_
  have e2 : (fun r2 => if fb = 15 ∨ shift < 0 then none else (pList (pSigned (fb + 1)) order r2).bind fun (factors, r3) => pForetold n wide first factors shift.toNat r3)
      = fun r2 => (pList (pSigned (fb + 1)) order r2).bind fun (factors, r3) => pForetold n wide first factors shift.toNat r3 := by
    funext r2; rw [if_neg hc]
  rw [e2]
  exact Ends.bind h4 (q := fun factors r3 => pForetold n wide first factors shift.toNat r3) h5

theorem linear_no {n wide order fb : Nat} {shift : Int} {first xs : List Int} {σ σ1 σ2 σ3 : Option (List Bool)} (ho : order ≤ n) (h1 : Ends (pList (pSigned wide) order) σ first σ1)
    (h2 : Ends (pNum 4) σ1 fb σ2) (h3 : Ends (pSigned 5) σ2 shift σ3) (hc : fb = 15 ∨ shift < 0) : Ends (pLinear n wide order) σ xs none := by
  have e : pLinear n wide order = fun l => (pList (pSigned wide) order l).bind fun (first, r) => (pNum 4 r).bind fun (fb, r1) => (pSigned 5 r1).bind fun (shift, r2) =>
      if fb = 15 ∨ shift < 0 then none else (pList (pSigned (fb + 1)) order r2).bind fun (factors, r3) => pForetold n wide first factors shift.toNat r3 := by
    funext l
    unfold pLinear
    rw [if_pos ho]
  rw [e]
  refine Ends.bind h1 (q := fun first r => (pNum 4 r).bind fun (fb, r1) => (pSigned 5 r1).bind fun (shift, r2) =>
      if fb = 15 ∨ shift < 0 then none else (pList (pSigned (fb + 1)) order r2).bind fun (factors, r3) => pForetold n wide first factors shift.toNat r3) ?_
  refine Ends.bind h2 (q := fun fb r1 => (pSigned 5 r1).bind fun (shift, r2) =>
      if fb = 15 ∨ shift < 0 then none else (pList (pSigned (fb + 1)) order r2).bind fun (factors, r3) => pForetold n wide first factors shift.toNat r3) ?_
  refine Ends.bind h3 (q := fun (shift : Int) r2 =>
      if fb = 15 ∨ shift < 0 then none else (pList (pSigned (fb + 1)) order r2).bind fun (factors, r3) => pForetold n wide first factors shift.toNat r3) ?_
  exact Ends.fail (fun l _ => if_pos hc)

theorem linear_fail {n wide order : Nat} {xs : List Int} {σ : Option (List Bool)} (ho : ¬ order ≤ n) : Ends (pLinear n wide order) σ xs none :=
  Ends.fail (fun l _ => by unfold pLinear; rw [if_neg ho])

end Go.Proofs.YtncmgnmcggkhnaaGreat
