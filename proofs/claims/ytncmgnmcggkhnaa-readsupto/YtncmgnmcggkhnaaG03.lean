import Derived.Test.YtncmgnmcggkhnaaG02
import Derived.Deep.AppendLies
namespace Go.Proofs.Ytncmgnmcggkhnaa
open Go.RowKit

theorem tdiv2 (n : Int) (h : n < 0) : n.tdiv 2 = -((-n) / 2) := by
  have e := Int.neg_tdiv (-n) 2
  rw [Int.neg_neg, Int.tdiv_eq_ediv_of_nonneg (a := -n) (by omega)] at e
  exact e

theorem tmod2 (n : Int) (h : n < 0) : n.tmod 2 = -((-n) % 2) := by
  have e := Int.neg_tmod (-n) 2
  rw [Int.neg_neg, Int.tmod_eq_emod_of_nonneg (a := -n) (by omega)] at e
  exact e

set_option maxHeartbeats 400000 in
theorem rhalf (w : World) (n : Int) (h1 : -4611686018427387904 ≤ n) (h2 : n ≤ 4611686018427387904) :
    Calls Try.prog 126 #[.int .i64 n] w fun e w' => e = .returned (.int .i64 (n / 2)) ∧ w' = w := by
  by_cases h0 : n < 0
  · by_cases hp : n % 2 = 0
    · have ht : (n.tmod 2 != 0) = false := by
        rw [tmod2 n h0]; simp; omega
      have HP : Hid (n % 2 = 0) := hp
      clear hp
      go_enter Try.func126, Try.ntmps126
      go_wp2
      go_ret
      exact ⟨ret_int (by rw [tdiv2 n h0]; have := HP.out; omega), rfl⟩
    · have ht : (n.tmod 2 != 0) = true := by
        rw [tmod2 n h0]; simp; omega
      have HP : Hid (¬ n % 2 = 0) := hp
      clear hp
      go_enter Try.func126, Try.ntmps126
      go_wp2
      go_ret
      exact ⟨ret_int (by rw [tdiv2 n h0, IntWalk.wrap64_in _ ⟨by omega, by omega⟩]; have := HP.out; omega), rfl⟩
  · go_enter Try.func126, Try.ntmps126
    go_wp2
    go_ret
    exact ⟨rfl, rfl⟩

theorem fitsB_iff (bits : Nat) (x : Int) : fitsB bits x = true ↔ -(2 ^ (bits - 1) : Int) ≤ x ∧ x < 2 ^ (bits - 1) := by
  unfold fitsB
  rw [Bool.and_eq_true, decide_eq_true_eq, decide_eq_true_eq, show ((2 ^ (bits - 1) : Nat) : Int) = 2 ^ (bits - 1) by simp]

set_option maxHeartbeats 400000 in
theorem rfits (w : World) (x : Int) (bits : Nat) (hb : 1 ≤ bits) (hb2 : bits ≤ 32) :
    Calls Try.prog 53 #[.int .i64 x, .int .i64 bits] w fun e w' => e = .returned (.bool (fitsB bits x)) ∧ w' = w := by
  have hp := ipow (bits - 1) (by omega)
  by_cases h1 : -(2 ^ (bits - 1) : Int) ≤ x
  · by_cases h2 : x < 2 ^ (bits - 1)
    · have e : fitsB bits x = true := (fitsB_iff _ _).2 ⟨h1, h2⟩
      rw [e]
      go_enter Try.func53, Try.ntmps53
      go_wp2
      go_ret
      exact ⟨rfl, rfl⟩
    · have e : fitsB bits x = false := by
        cases hf : fitsB bits x with
        | false => rfl
        | true => exact absurd ((fitsB_iff _ _).1 hf).2 h2
      rw [e]
      go_enter Try.func53, Try.ntmps53
      go_wp2
      go_ret
      exact ⟨rfl, rfl⟩
  · have e : fitsB bits x = false := by
      cases hf : fitsB bits x with
      | false => rfl
      | true => exact absurd ((fitsB_iff _ _).1 hf).1 h1
    rw [e]
    go_enter Try.func53, Try.ntmps53
    go_wp2
    go_ret
    exact ⟨rfl, rfl⟩

theorem Own.alloc {w : World} {base : Nat} {v : Value} {xs : List Int} (h : Own w base v xs) (o : Obj) : Own (w.alloc o) base v xs := World.ownsRow.alloc h o

/-- a list that is written out -/
theorem own_lit (w : World) (base : Nat) (xs : List Int) (cs : Array Value) (n g : Nat) (hb : base ≤ w.heap.size) (hcs : cs = (xs.map (Value.int .i64)).toArray) (hn : xs.length = n) (hm : n ≤ maxLen) (hg : g = w.heap.size) :
    Own (w.alloc (.cells cs 3)) base (.slice (some ⟨g, 0, none⟩) n n) xs := by
  subst hg hn hcs
  unfold Own
  have := World.ownsRow_lit (base := base) (e := 3) (size := 1) w ((xs.map (Value.int .i64)).toArray) xs.length hb hm (by simp)
  simpa using this

theorem own_at0 (w : World) (o1 o2 o3 o4 o5 : Obj) (xs : List Int) (cs : Array Value) (n : Nat) (hcs : cs = (xs.map (Value.int .i64)).toArray) (hn : xs.length = n) (hm : n ≤ maxLen) :
    Own ((((((w.alloc (.cells cs 3)).alloc o1).alloc o2).alloc o3).alloc o4).alloc o5) w.heap.size (.slice (some ⟨w.heap.size, 0, none⟩) n n) xs :=
  (((((own_lit w w.heap.size xs cs n (w.heap.size) (Nat.le_refl _) hcs hn hm rfl).alloc _).alloc _).alloc _).alloc _).alloc _

theorem own_at1 (w : World) (o0 o2 o3 o4 o5 : Obj) (xs : List Int) (cs : Array Value) (n : Nat) (hcs : cs = (xs.map (Value.int .i64)).toArray) (hn : xs.length = n) (hm : n ≤ maxLen) :
    Own ((((((w.alloc o0).alloc (.cells cs 3)).alloc o2).alloc o3).alloc o4).alloc o5) w.heap.size (.slice (some ⟨w.heap.size + 1, 0, none⟩) n n) xs :=
  ((((own_lit (w.alloc o0) w.heap.size xs cs n (w.heap.size + 1) (by simp <;> omega) hcs hn hm (by simp)).alloc _).alloc _).alloc _).alloc _

theorem own_at2 (w : World) (o0 o1 o3 o4 o5 : Obj) (xs : List Int) (cs : Array Value) (n : Nat) (hcs : cs = (xs.map (Value.int .i64)).toArray) (hn : xs.length = n) (hm : n ≤ maxLen) :
    Own ((((((w.alloc o0).alloc o1).alloc (.cells cs 3)).alloc o3).alloc o4).alloc o5) w.heap.size (.slice (some ⟨w.heap.size + 1 + 1, 0, none⟩) n n) xs :=
  (((own_lit ((w.alloc o0).alloc o1) w.heap.size xs cs n (w.heap.size + 1 + 1) (by simp <;> omega) hcs hn hm (by simp)).alloc _).alloc _).alloc _

theorem own_at3 (w : World) (o0 o1 o2 o4 o5 : Obj) (xs : List Int) (cs : Array Value) (n : Nat) (hcs : cs = (xs.map (Value.int .i64)).toArray) (hn : xs.length = n) (hm : n ≤ maxLen) :
    Own ((((((w.alloc o0).alloc o1).alloc o2).alloc (.cells cs 3)).alloc o4).alloc o5) w.heap.size (.slice (some ⟨w.heap.size + 1 + 1 + 1, 0, none⟩) n n) xs :=
  ((own_lit (((w.alloc o0).alloc o1).alloc o2) w.heap.size xs cs n (w.heap.size + 1 + 1 + 1) (by simp <;> omega) hcs hn hm (by simp)).alloc _).alloc _

theorem own_at4 (w : World) (o0 o1 o2 o3 o5 : Obj) (xs : List Int) (cs : Array Value) (n : Nat) (hcs : cs = (xs.map (Value.int .i64)).toArray) (hn : xs.length = n) (hm : n ≤ maxLen) :
    Own ((((((w.alloc o0).alloc o1).alloc o2).alloc o3).alloc (.cells cs 3)).alloc o5) w.heap.size (.slice (some ⟨w.heap.size + 1 + 1 + 1 + 1, 0, none⟩) n n) xs :=
  (own_lit ((((w.alloc o0).alloc o1).alloc o2).alloc o3) w.heap.size xs cs n (w.heap.size + 1 + 1 + 1 + 1) (by simp <;> omega) hcs hn hm (by simp)).alloc _

theorem six_new (w : World) (o0 o1 o2 o3 o4 o5 : Obj) : w.grownBy ((((((w.alloc o0).alloc o1).alloc o2).alloc o3).alloc o4).alloc o5) none :=
  grown_alloc (grown_alloc (grown_alloc (grown_alloc (grown_alloc (grown_alloc (grown_refl _ _) _) _) _) _) _) _

set_option maxHeartbeats 400000 in
theorem rfixed0 (w : World) :
    Calls Try.prog 96 #[.int .i64 0] w fun e w' => ∃ g cap, e = .returned (.slice (some ⟨g, 0, none⟩) 0 cap) ∧ Own w' w.heap.size (.slice (some ⟨g, 0, none⟩) 0 cap) [] ∧ w.grownBy w' none := by
  go_enter Try.func96, Try.ntmps96
  go_wp2
  go_ret
  exact ⟨_, _, rfl, own_at0 w _ _ _ _ _ [] _ 0 rfl rfl (by decide), six_new _ _ _ _ _ _ _⟩

set_option maxHeartbeats 400000 in
theorem rfixed1 (w : World) :
    Calls Try.prog 96 #[.int .i64 1] w fun e w' => ∃ g cap, e = .returned (.slice (some ⟨g, 0, none⟩) 1 cap) ∧ Own w' w.heap.size (.slice (some ⟨g, 0, none⟩) 1 cap) [1] ∧ w.grownBy w' none := by
  go_enter Try.func96, Try.ntmps96
  go_wp2
  go_ret
  exact ⟨_, _, rfl, own_at1 w _ _ _ _ _ [1] _ 1 rfl rfl (by decide), six_new _ _ _ _ _ _ _⟩

set_option maxHeartbeats 400000 in
theorem rfixed2 (w : World) :
    Calls Try.prog 96 #[.int .i64 2] w fun e w' => ∃ g cap, e = .returned (.slice (some ⟨g, 0, none⟩) 2 cap) ∧ Own w' w.heap.size (.slice (some ⟨g, 0, none⟩) 2 cap) [2, -1] ∧ w.grownBy w' none := by
  go_enter Try.func96, Try.ntmps96
  go_wp2
  go_ret
  exact ⟨_, _, rfl, own_at2 w _ _ _ _ _ [2, -1] _ 2 rfl rfl (by decide), six_new _ _ _ _ _ _ _⟩

set_option maxHeartbeats 400000 in
theorem rfixed3 (w : World) :
    Calls Try.prog 96 #[.int .i64 3] w fun e w' => ∃ g cap, e = .returned (.slice (some ⟨g, 0, none⟩) 3 cap) ∧ Own w' w.heap.size (.slice (some ⟨g, 0, none⟩) 3 cap) [3, -3, 1] ∧ w.grownBy w' none := by
  go_enter Try.func96, Try.ntmps96
  go_wp2
  go_ret
  exact ⟨_, _, rfl, own_at3 w _ _ _ _ _ [3, -3, 1] _ 3 rfl rfl (by decide), six_new _ _ _ _ _ _ _⟩

set_option maxHeartbeats 400000 in
theorem rfixed4 (w : World) :
    Calls Try.prog 96 #[.int .i64 4] w fun e w' => ∃ g cap, e = .returned (.slice (some ⟨g, 0, none⟩) 4 cap) ∧ Own w' w.heap.size (.slice (some ⟨g, 0, none⟩) 4 cap) [4, -6, 4, -1] ∧ w.grownBy w' none := by
  go_enter Try.func96, Try.ntmps96
  go_wp2
  go_ret
  exact ⟨_, _, rfl, own_at4 w _ _ _ _ _ [4, -6, 4, -1] _ 4 rfl rfl (by decide), six_new _ _ _ _ _ _ _⟩

theorem rfixed (w : World) (o : Nat) (ho : o ≤ 4) (a : Int) (ha : a = o) :
    Calls Try.prog 96 #[.int .i64 a] w fun e w' => ∃ g cap, e = .returned (.slice (some ⟨g, 0, none⟩) o cap) ∧ Own w' w.heap.size (.slice (some ⟨g, 0, none⟩) o cap) (fixedFactors o) ∧ w.grownBy w' none := by
  subst ha
  rcases (show o = 0 ∨ o = 1 ∨ o = 2 ∨ o = 3 ∨ o = 4 by omega) with rfl | rfl | rfl | rfl | rfl
  · exact rfixed0 w
  · exact rfixed1 w
  · exact rfixed2 w
  · exact rfixed3 w
  · exact rfixed4 w

end Go.Proofs.Ytncmgnmcggkhnaa

namespace Go.Proofs.Ytncmgnmcggkhnaa
open Go.RowKit

/-- below `base`, but for block `b`, all is as it was -/
structure Chg (base b : Nat) (w w' : World) : Prop where
  os : w'.os = w.os
  tape : w'.tape = w.tape
  output : w'.output = w.output
  size : w.heap.size ≤ w'.heap.size
  block : ∀ k, k < base → k ≠ b → w'.heap[k]? = w.heap[k]?

theorem Chg.refl (base b : Nat) (w : World) : Chg base b w w := ⟨rfl, rfl, rfl, Nat.le_refl _, fun _ _ _ => rfl⟩
theorem Chg.trans {base b : Nat} {w w' w'' : World} (h : Chg base b w w') (k : Chg base b w' w'') : Chg base b w w'' :=
  ⟨k.os.trans h.os, k.tape.trans h.tape, k.output.trans h.output, Nat.le_trans h.size k.size, fun i hi hb => (k.block i hi hb).trans (h.block i hi hb)⟩
theorem Chg.of {base b : Nat} {w w' : World} (h : w.grownBy w' (some b)) (hb : base ≤ w.heap.size) : Chg base b w w' :=
  ⟨h.os, h.tape, h.output, h.size, fun k hk hne => h.block k (by omega) (fun e => hne (by injection e))⟩
theorem Chg.own {base b : Nat} {w w' : World} {row : Option Nat} (h : w.grownBy w' row) (hb : base ≤ w.heap.size) (hr : ∀ g, row = some g → base ≤ g) : Chg base b w w' :=
  ⟨h.os, h.tape, h.output, h.size, fun k hk _ => h.block k (by omega) (fun e => by have := hr k e.symm; omega)⟩
theorem Chg.grown {b : Nat} {w w' : World} (h : Chg w.heap.size b w w') : w.grownBy w' (some b) :=
  ⟨h.os, h.tape, h.output, h.size, fun k hk hne => h.block k hk (fun e => hne (by rw [e]))⟩
theorem Chg.mono {base base' b : Nat} {w w' : World} (h : Chg base b w w') (hb : base' ≤ base) : Chg base' b w w' :=
  ⟨h.os, h.tape, h.output, h.size, fun k hk hne => h.block k (by omega) hne⟩

/-- a list of ints that lies at the head of block `g` -/
def Row (w : World) (base g n cap : Nat) (xs : List Int) : Prop := w.ownsRow base 3 1 (.slice (some ⟨g, 0, none⟩) n cap) n (xs.map (Value.int .i64))

theorem Row.lt {w : World} {base g n cap : Nat} {xs : List Int} (h : Row w base g n cap xs) : base ≤ g ∧ g < w.heap.size := World.ownsRow.lt h g rfl

theorem Row.len {w : World} {base g n cap : Nat} {xs : List Int} (h : Row w base g n cap xs) : xs.length = n := by
  have := h.1
  simpa using this

theorem Row.cell {w : World} {base g n cap : Nat} {xs : List Int} (h : Row w base g n cap xs) (j : Nat) (hj : j < n) : w.cell? ⟨g, j, none⟩ = some (.int .i64 (xs.getD j 0)) := by
  have e := World.ownsRow.cellAt h j (by omega)
  have hl := h.len
  rw [e, List.getElem?_map, List.getElem?_eq_getElem (by omega)]
  simp [List.getD, List.getElem?_eq_getElem (show j < xs.length by omega)]

theorem Row.fz {w : World} {base g n cap : Nat} {xs : List Int} (h : Row w base g n cap xs) (j : Nat) : w.frozen? ⟨g, j, none⟩ = false := World.ownsRow.frozenAt h j

theorem Row.kept {w w' : World} {base g n cap : Nat} {xs : List Int} {row : Option Nat} (h : Row w base g n cap xs) (hg : w.grownBy w' row) (hne : some g ≠ row) : Row w' base g n cap xs :=
  World.ownsRow.kept h hg (.inr hne)

theorem Own.row {w : World} {base : Nat} {v : Value} {xs : List Int} (h : Own w base v xs) : (v = .slice none 0 0 ∧ xs = []) ∨ ∃ g cap, v = .slice (some ⟨g, 0, none⟩) xs.length cap ∧ Row w base g xs.length cap xs := by
  rcases h.2 with ⟨h1, h2⟩ | ⟨g, cap, cur, hv, r⟩
  · exact .inl ⟨h1, List.eq_nil_of_length_eq_zero h2⟩
  · subst hv
    exact .inr ⟨g, cap, rfl, h⟩

theorem Row.own {w : World} {base g n cap : Nat} {xs : List Int} (h : Row w base g n cap xs) : Own w base (.slice (some ⟨g, 0, none⟩) n cap) xs := by
  unfold Own
  rw [h.len]
  exact h

/-! what is foretold -/

theorem dot_take_succ : ∀ (fs bs : List Int) (j : Nat) (h1 : j < fs.length) (h2 : j < bs.length), dot (fs.take (j + 1)) bs = dot (fs.take j) bs + fs[j] * bs[j]
  | f :: fs, a :: bs, 0, _, _ => by simp [dot]
  | f :: fs, a :: bs, j + 1, h1, h2 => by
    have h1' : j < fs.length := by simpa using h1
    have h2' : j < bs.length := by simpa using h2
    have e := dot_take_succ fs bs j h1' h2'
    show f * a + dot (fs.take (j + 1)) bs = f * a + dot (fs.take j) bs + fs[j] * bs[j]
    rw [e]; omega

theorem dot_take_zero (fs bs : List Int) : dot (fs.take 0) bs = 0 := by simp [dot]

theorem rev_get (xs : List Int) (j : Nat) (h : j < xs.length) : xs.reverse[j]'(by simpa using h) = xs.getD (xs.length - 1 - j) 0 := by
  rw [List.getElem_reverse]
  simp [List.getD, List.getElem?_eq_getElem (show xs.length - 1 - j < xs.length by omega)]

def Abs (B : Int) (xs : List Int) : Prop := ∀ x ∈ xs, -B ≤ x ∧ x ≤ B

theorem Abs.get {B : Int} {xs : List Int} (h : Abs B xs) (hB : 0 ≤ B) (j : Nat) : -B ≤ xs.getD j 0 ∧ xs.getD j 0 ≤ B := by
  by_cases hj : j < xs.length
  · simp only [List.getD, List.getElem?_eq_getElem hj, Option.getD_some]
    exact h _ (List.getElem_mem hj)
  · simp only [List.getD, List.getElem?_eq_none (show xs.length ≤ j by omega), Option.getD_none]
    omega

theorem mul_bound (f x : Int) (h1 : -32768 ≤ f ∧ f ≤ 32768) (h2 : -65536 ≤ x ∧ x ≤ 65536) : -2147483648 ≤ f * x ∧ f * x ≤ 2147483648 := by
  have ha : f.natAbs ≤ 32768 := by omega
  have hb : x.natAbs ≤ 65536 := by omega
  have hm : (f * x).natAbs ≤ 32768 * 65536 := by
    rw [Int.natAbs_mul]
    exact Nat.mul_le_mul ha hb
  omega

theorem predict_step (wide : Nat) (factors : List Int) (shift : Nat) (xs res : List Int) (k : Nat) (hk : k < res.length) (x : Int) (hx : x = dot factors xs.reverse / 2 ^ shift + res.getD k 0) :
    predict wide factors shift xs.reverse (res.drop k) = if fitsB wide x then predict wide factors shift (xs ++ [x]).reverse (res.drop (k + 1)) else none := by
  rw [List.drop_eq_getElem_cons hk]
  have e : res.getD k 0 = res[k] := by simp [List.getD, List.getElem?_eq_getElem hk]
  rw [e] at hx
  subst hx
  rw [List.reverse_append]
  rfl

theorem predict_end (wide : Nat) (factors : List Int) (shift : Nat) (xs : List Int) : predict wide factors shift xs.reverse [] = some xs := by
  show some xs.reverse.reverse = some xs
  rw [List.reverse_reverse]

theorem fits_abs (wide : Nat) (hw : wide ≤ 17) (x : Int) (h : fitsB wide x = true) : -65536 ≤ x ∧ x ≤ 65536 := by
  have h1 := (fitsB_iff _ _).1 h
  have h2 : (2 : Int) ^ (wide - 1) ≤ 65536 := by
    rw [show (2 : Int) ^ (wide - 1) = ((2 ^ (wide - 1) : Nat) : Int) by simp]
    have : 2 ^ (wide - 1) ≤ 2 ^ 16 := Nat.pow_le_pow_right (by omega) (by omega)
    omega
  omega

theorem sign_fits (wide v : Nat) (hw : 1 ≤ wide) (hv : v < 2 ^ wide) : fitsB wide (sign wide v) = true := by
  rw [fitsB_iff]
  obtain ⟨m, rfl⟩ : ∃ m, wide = m + 1 := ⟨wide - 1, by omega⟩
  have e : (2 : Int) ^ (m + 1) = 2 ^ m * 2 := by rw [Int.pow_succ]
  have e2 : ((2 ^ m : Nat) : Int) = (2 : Int) ^ m := by simp
  have e3 : 2 ^ (m + 1) = 2 ^ m * 2 := Nat.pow_succ 2 m
  show -(2 ^ m : Int) ≤ _ ∧ _ < (2 : Int) ^ m
  rcases Nat.lt_or_ge v (2 ^ m) with h | h
  · rw [sign_pos _ _ h]; omega
  · rw [sign_neg _ _ (by omega) h, e]; omega

theorem Signs.abs {wide : Nat} {xs : List Int} (h : Signs wide xs) (h1 : 1 ≤ wide) (hw : wide ≤ 17) : Abs 65536 xs := by
  intro x hx
  obtain ⟨v, hv, rfl⟩ := h x hx
  exact fits_abs wide hw _ (sign_fits wide v h1 hv)

theorem Signs.abs15 {wide : Nat} {xs : List Int} (h : Signs wide xs) (h1 : 1 ≤ wide) (hw : wide ≤ 16) : Abs 32768 xs := by
  intro x hx
  obtain ⟨v, hv, rfl⟩ := h x hx
  have h1 := (fitsB_iff _ _).1 (sign_fits wide v h1 hv)
  have h2 : (2 : Int) ^ (wide - 1) ≤ 32768 := by
    rw [show (2 : Int) ^ (wide - 1) = ((2 ^ (wide - 1) : Nat) : Int) by simp]
    have : 2 ^ (wide - 1) ≤ 2 ^ 15 := Nat.pow_le_pow_right (by omega) (by omega)
    omega
  omega

theorem foretold_ends {n wide shift : Nat} {first factors res xs : List Int} {σ σ1 : Option (List Bool)} (h1 : Ends (pResidue n first.length) σ res σ1)
    (h2 : predict wide factors shift first.reverse res = some xs) : Ends (pForetold n wide first factors shift) σ xs σ1 := by
  refine Ends.bind h1 (q := fun res r => (predict wide factors shift first.reverse res).map fun xs => (xs, r)) ?_
  unfold Ends
  cases σ1 with
  | none => rfl
  | some l => simp [h2]

theorem foretold_fail {n wide shift : Nat} {first factors res xs : List Int} {σ σ1 : Option (List Bool)} (h1 : Ends (pResidue n first.length) σ res σ1)
    (h2 : predict wide factors shift first.reverse res = none) : Ends (pForetold n wide first factors shift) σ xs none := by
  refine Ends.bind h1 (q := fun res r => (predict wide factors shift first.reverse res).map fun xs => (xs, r)) ?_
  exact Ends.fail (fun l _ => by rw [h2]; rfl)

theorem foretold_dead {n wide shift : Nat} {first factors res xs : List Int} {σ : Option (List Bool)} (h1 : Ends (pResidue n first.length) σ res none) :
    Ends (pForetold n wide first factors shift) σ xs none :=
  Ends.bind h1 (q := fun res r => (predict wide factors shift first.reverse res).map fun xs => (xs, r)) Ends.dead

theorem residue_len {n order : Nat} {res : List Int} {σ : Option (List Bool)} {l : List Bool} (h : Ends (pResidue n order) σ res (some l)) : res.length + order = n := by
  cases σ with
  | none => cases h
  | some l0 =>
    rcases h.cases with ⟨r, hp, _⟩ | ⟨_, h⟩
    · exact pResidue_length _ _ _ _ _ hp
    · cases h

end Go.Proofs.Ytncmgnmcggkhnaa

namespace Go.Proofs.Ytncmgnmcggkhnaa
open Go.RowKit

/-- what is left behind a list that is gone on with -/
def GoPost (w : World) (base b : Nat) (s : ByteArray) (σ : Option (List Bool)) (p : P (List Int)) (lim : List Int → Prop) (e : Ending) (w' : World) : Prop :=
  ∃ (v : Value) (xs : List Int) (σ' : Option (List Bool)), e = .returned v ∧ Own w' base v xs ∧ lim xs ∧ Chg base b w w' ∧ St 86 w' b s σ' ∧ Ends p σ xs σ'

theorem rresidueI (w : World) (b : Nat) (s : ByteArray) (a : Int) (n order : Nat) (ha : a = order) (σ : Option (List Bool)) (hs : s.size ≤ 6000) (hn : n ≤ 256) (hn1 : 1 ≤ n) (ho : order ≤ n) (h : St 86 w b s σ) :
    Calls Try.prog 125 #[.pointer (some ⟨b, 0, none⟩), .int .i64 n, .int .i64 a] w (ListPost w b s σ (pResidue n order) Mid) := by
  subst ha
  exact rresidue w b s n order σ hs hn hn1 ho h

theorem own_slice {w : World} {base : Nat} {v : Value} {xs : List Int} (h : Own w base v xs) : ∃ a c, v = .slice a xs.length c := by
  rcases h.row with ⟨rfl, rfl⟩ | ⟨g, cap, rfl, _⟩
  · exact ⟨none, 0, rfl⟩
  · exact ⟨_, cap, rfl⟩

theorem St.far {w w' : World} {base b : Nat} {s : ByteArray} {σ : Option (List Bool)} {v : Value} {xs : List Int} (h : St 86 w b s σ) (ho : Own w base v xs) (hg : w.grownBy w' v.ownBlock) (hb : b < base) : St 86 w' b s σ :=
  h.kept hg (fun e => by have := (ho.lt b e.symm).1; omega)

theorem World.ownsRow_drewN {w : World} {base : Nat} {e : TypeId} {size : Nat} {v : Value} {n : Nat} {xs : List Value} (h : w.ownsRow base e size v n xs) (d : Nat) : (w.drewN d).ownsRow base e size v n xs := h

theorem halve (T : Int) (k : Nat) : T / 2 ^ k / 2 = T / 2 ^ (k + 1) := by
  rw [Int.ediv_ediv_of_nonneg (Int.le_of_lt (by exact Int.pow_pos (by omega))), Int.pow_succ]

theorem div_bound (T : Int) (k : Nat) (h1 : -34359738368 ≤ T) (h2 : T ≤ 34359738368) : -34359738368 ≤ T / 2 ^ k ∧ T / 2 ^ k ≤ 34359738368 := by
  have hp : (0 : Int) < 2 ^ k := Int.pow_pos (by omega)
  constructor
  · rw [Int.le_ediv_iff_mul_le hp]
    have : (-34359738368 : Int) * 2 ^ k ≤ -34359738368 * 1 := by
      apply Int.mul_le_mul_of_nonpos_left <;> omega
    omega
  · have h3 : T < 34359738369 * 2 ^ k := by
      have : (34359738369 : Int) * 1 ≤ 34359738369 * 2 ^ k := Int.mul_le_mul_of_nonneg_left (by omega) (by omega)
      omega
    have := Int.ediv_lt_of_lt_mul hp h3
    omega

set_option maxHeartbeats 2000000 in
set_option maxRecDepth 20000 in
theorem rgo1 (w : World) (b : Nat) (s : ByteArray) (base : Nat) (lv : Value) (first factors : List Int) (fg fcap n wide shift : Nat) (σ : Option (List Bool))
    (hs : s.size ≤ 6000) (hn : n ≤ 256) (hn1 : 1 ≤ n) (hw1 : 1 ≤ wide) (hw : wide ≤ 17) (hsh : shift ≤ 15) (hlen : factors.length = first.length) (ho : first.length ≤ n) (ho8 : first.length ≤ 8)
    (habs : Abs 65536 first) (hfab : Abs 32768 factors) (hb : b < base) (hbase : base ≤ w.heap.size)
    (hl : Own w base lv first) (hf : Row w base fg first.length fcap factors) (hne : lv.ownBlock ≠ some fg) (h : St 86 w b s σ) :
    Calls Try.prog 114 #[.pointer (some ⟨b, 0, none⟩), lv, .int .i64 n, .int .i64 wide, .slice (some ⟨fg, 0, none⟩) first.length fcap, .int .i64 shift] w
      (GoPost w base b s σ (pForetold n wide first factors shift) fun xs => Abs 65536 xs) := by
  obtain ⟨i0, hi, hz0, hz1, hz2⟩ := info_parts Try.info3
  obtain ⟨la, lc, rfl⟩ := own_slice hl
  obtain ⟨o, hoo⟩ : ∃ o, first.length = o := ⟨_, rfl⟩
  rw [hoo] at hf hl hne ho ho8 ⊢
  have HO : Hid (first.length = o) := hoo
  have HF : Hid (factors.length = o) := hlen.trans hoo
  clear hoo hlen
  go_enter Try.func114, Try.ntmps114
  go_wp2_with fail
  refine (rresidueI _ _ _ _ n o rfl _ hs hn hn1 ho h).mono ?_
  rintro e w1 ⟨rv, res, σ1, rfl, hres, hmid, hg1, hst1, hends1⟩
  have hm := hst1.mark
  have hf1 : Row w1 base fg o fcap factors := hf.kept hg1 (fun e => by injection e with e; have := hf.lt; omega)
  have hl1 := hl.kept hg1 hb
  rcases σ1 with _ | l1
  · have hm' : w1.cell? ⟨b, 2, none⟩ = some (.bool true) := hm
    clear hm
    go_wp2
    go_ret
    exact ⟨_, [], none, rfl, Own.nil _ _, (fun x hx => by cases hx), Chg.of hg1 hbase, hst1, foretold_dead (by rw [HO.out]; exact hends1)⟩
  · have hm' : w1.cell? ⟨b, 2, none⟩ = some (.bool false) := hm
    clear hm
    have hrl := residue_len hends1
    obtain ⟨rl, hrll⟩ : ∃ rl, res.length = rl := ⟨_, rfl⟩
    rw [hrll] at hrl
    have HRL : Hid (res.length = rl) := hrll
    have hends : Ends (pResidue n first.length) σ res (some l1) := by rw [HO.out]; exact hends1
    clear hends1
    rcases hres.row with ⟨rfl, rfl⟩ | ⟨rg, rcap, rfl, hrow⟩
    · have hrl0 : rl = 0 := hrll.symm
      obtain rfl : o = n := by omega
      clear hrll
      go_wp2
      go_loop [1, 14] (fun v i => v = .slice la o lc ∧ i = .int .i64 o) (fun _ _ => 0)
      case atStart => exact ⟨rfl, rfl⟩
      case round =>
        obtain ⟨rfl, rfl⟩ := hrel
        go_wp2
        go_ret
        exact ⟨_, first, some l1, rfl, hl1, habs, Chg.of hg1 hbase, hst1, foretold_ends hends (predict_end _ _ _ _)⟩
    · rw [hrll] at hrow ⊢
      clear hrll hres
      have hrglt := hrow.lt
      go_wp2
      go_loopw [1, 14] (fun v i wr => ∃ (m : Nat) (xs : List Int), i = .int .i64 m ∧ o ≤ m ∧ m ≤ n ∧ Own wr base v xs ∧ Hid (xs.length = m) ∧ Abs 65536 xs ∧ Row wr base fg o fcap factors ∧ Row wr w.heap.size rg rl rcap res ∧
          v.ownBlock ≠ some fg ∧ v.ownBlock ≠ some rg ∧ Chg base b w wr ∧ St 86 wr b s (some l1) ∧ Hid (predict wide factors shift first.reverse res = predict wide factors shift xs.reverse (res.drop (m - o))))
        (fun _ i _ => n - (intOf i).toNat)
      case atStart =>
        refine ⟨o, first, rfl, Nat.le_refl _, ho, hl1, HO, habs, hf1, hrow, hne, ?_, Chg.of hg1 hbase, hst1, ?_⟩
        · intro e
          have := (hl.lt rg e).2
          omega
        · show _ = _
          rw [Nat.sub_self, List.drop_zero]
      case round =>
        obtain ⟨m, xs, rfl, hom, hmn, hown, HXL, hxab, hfr, hrr, hnf, hnr, hchg, hst, HP⟩ := hrel
        by_cases hlt : m < n
        · obtain ⟨wo, rfl⟩ : ∃ wo : World, wo = wr := ⟨_, rfl⟩
          go_wp2
          go_loopw [15, 16] (fun t i wq => ∃ (j : Nat) (T : Int), i = .int .i64 j ∧ j ≤ o ∧ t = .int .i64 T ∧ -((j : Int) * 2147483648) ≤ T ∧ T ≤ (j : Int) * 2147483648 ∧ Hid (T = dot (factors.take j) xs.reverse) ∧ (∃ d, wq = wo.drewN d))
            (fun _ i _ => o - (intOf i).toNat)
          case atStart => exact ⟨0, 0, rfl, Nat.zero_le _, rfl, by omega, by omega, (by rw [dot_take_zero] : _ = _), 0, rfl⟩
          case round =>
            obtain ⟨j, T, rfl, hjo, rfl, hT1, hT2, HT, d, rfl⟩ := hrel
            by_cases hj : j < o
            · rcases hown.row with ⟨_, hx0⟩ | ⟨g, cap, hv, hrow1⟩
              · exfalso
                have := HXL.out
                rw [hx0] at this
                simp at this
                omega
              · subst hv
                have hxl : xs.length = m := HXL.out
                rw [hxl] at hrow1 ⊢
                have hcf := hfr.cell j hj
                have hcx := hrow1.cell (m - 1 - j) (by omega)
                have hfb := hfab.get (by omega) j
                have hxb := hxab.get (by omega) (m - 1 - j)
                have HFX : Hid (dot (factors.take (j + 1)) xs.reverse = T + factors.getD j 0 * xs.getD (m - 1 - j) 0) := by
                  show _ = _
                  have e1 : j < factors.length := by have := HF.out; omega
                  have e2 : j < xs.reverse.length := by rw [List.length_reverse]; omega
                  rw [dot_take_succ factors xs.reverse j e1 e2, ← HT.out, rev_get xs j (by omega), hxl]
                  simp [List.getD, List.getElem?_eq_getElem e1]
                generalize factors.getD j 0 = f at hcf hfb HFX
                generalize xs.getD (m - 1 - j) 0 = x at hcx hxb HFX
                have hfx := mul_bound f x hfb hxb
                have hq1 : (j : Int) < (o : Int) := by omega
                have hq2 : (0 : Int) ≤ (m : Int) - 1 - (j : Int) := by omega
                have hq3 : (m : Int) - 1 - (j : Int) < (m : Int) := by omega
                clear hxl
                go_wp2
                go_quiet (fail)
                go_wp2
                go_roundw
                case rel => exact ⟨j + 1, T + f * x, by go_num, by omega, rfl, by omega, by omega, HFX.out.symm, d + nq, rfl⟩
                case measure => simp [intOf]; omega
            · obtain rfl : j = o := by omega
              have HT2 : Hid (T = dot factors xs.reverse) := by
                show _ = _
                rw [HT.out, List.take_of_length_le (by have := HF.out; omega)]
              have hTb : -34359738368 ≤ T ∧ T ≤ 34359738368 := by omega
              clear HT hT1 hT2
              go_wp2
              go_loop [15, 17] (fun t i => ∃ (k : Nat) (y : Int), i = .int .i64 k ∧ k ≤ shift ∧ t = .int .i64 y ∧ -34359738368 ≤ y ∧ y ≤ 34359738368 ∧ Hid (y = T / 2 ^ k))
                (fun _ i => shift - (intOf i).toNat)
              case atStart => exact ⟨0, T, rfl, Nat.zero_le _, rfl, hTb.1, hTb.2, (by simp : _ = _)⟩
              case round =>
                obtain ⟨k, y, rfl, hk, rfl, hy1, hy2, HY⟩ := hrel
                by_cases hks : k < shift
                · go_wp2_with (go_at_call 126; refine (rhalf _ _ (by omega) (by omega)).mono ?_; rintro e w' ⟨rfl, rfl⟩)
                  go_round
                  case rel => exact ⟨k + 1, y / 2, by go_num, by omega, rfl, by omega, by omega, (by rw [HY.out, halve] : _ = _)⟩
                  case measure => simp [intOf]; omega
                · obtain rfl : k = shift := by omega
                  obtain ⟨rr, hrr0⟩ : ∃ rr, res.getD (m - j) 0 = rr := ⟨_, rfl⟩
                  have hcr := hrr.cell (m - j) (by omega)
                  rw [hrr0] at hcr
                  have hrb : -70368744177664 ≤ rr ∧ rr ≤ 70368744177664 := by
                    rw [← hrr0]
                    exact Abs.get (B := 70368744177664) hmid (by omega) _
                  have HX : Hid (predict wide factors k xs.reverse (res.drop (m - j)) = if fitsB wide (y + rr) then predict wide factors k (xs ++ [y + rr]).reverse (res.drop (m - j + 1)) else none) :=
                    predict_step wide factors k xs res (m - j) (by have := HRL.out; omega) _ (by rw [HY.out, HT2.out, hrr0])
                  clear hrr0
                  have hq1 : (0 : Int) ≤ (m : Int) - (j : Int) := by omega
                  have hq2 : (m : Int) - (j : Int) < (rl : Int) := by omega
                  go_wp2_with fail
                  refine (rfits _ _ wide hw1 (by omega)).mono ?_
                  rintro e w' ⟨rfl, rfl⟩
                  have hfz2 := (hst.drewN d).fz 2
                  have hcm := (hst.drewN d).mark
                  rcases hfit : fitsB wide (y + rr) with _ | _
                  · go_wp2
                    go_ret
                    exact ⟨_, [], none, rfl, Own.nil _ _, (fun x hx => by cases hx), hchg.trans (Chg.of (grown_trans (grown_drewN (grown_refl _ _) _) (grown_set _ _ _ _)) (by have := hchg.size; omega)), (hst.drewN d).kill hs,
                      foretold_fail hends (by rw [HP.out, HX.out, hfit]; rfl)⟩
                  · go_wp2_with (first
                      | (at_builtin; refine wpList_append_lies _ rfl _ _ 30 rfl base 3 i0 (.int .i64 0) 1 8 Try.underlying30 hi hz0 hz1 hz2 rfl (by decide) _ _ _ rfl (World.ownsRow.alloc (World.ownsRow_drewN hown d) _) ⟨wo.heap.size, 0, none⟩ 1 1 [.int .i64 (y + rr)] rfl rfl ?c1 ?c2 ?c6 ?c3 ?c4 ?c5 _ rfl ?_))
                    case c1 => exact one_new _ _ _
                    case c2 => exact one_cell _
                    case c6 => omega
                    case c3 => have := HXL.out; unfold maxLen; omega
                    case c4 => have := HXL.out; omega
                    case c5 => have := hchg.size; simp; omega
                    intro g' cap' w7 hown' hgrow hat hglt
                    have hgrow2 : wo.grownBy w7 u1.ownBlock := grown_trans (grown_alloc (grown_drewN (grown_refl wo _) d) _) hgrow
                    have hown7 : Own w7 base (.slice (some ⟨g', 0, none⟩) (xs.length + 1) cap') (xs ++ [y + rr]) := Own.step hown hown'
                    have hfr7 := hfr.kept hgrow2 (fun e => hnf e.symm)
                    have hrr7 := hrr.kept hgrow2 (fun e => hnr e.symm)
                    have hst7 := hst.kept hgrow2 (fun e => by have := (hown.lt b e.symm).1; omega)
                    have hchg7 : Chg base b w w7 := hchg.trans (Chg.own hgrow2 (by have := hchg.size; omega) (fun q hq => (hown.lt q hq).1))
                    have hnf7 : (Value.slice (some ⟨g', 0, none⟩) (xs.length + 1) cap').ownBlock ≠ some fg := by
                      intro e
                      have e' : g' = fg := by simpa [Value.ownBlock] using e
                      rcases hat with hat | hat
                      · exact hnf (by rw [hat, e'])
                      · have := hfr.lt; omega
                    have hnr7 : (Value.slice (some ⟨g', 0, none⟩) (xs.length + 1) cap').ownBlock ≠ some rg := by
                      intro e
                      have e' : g' = rg := by simpa [Value.ownBlock] using e
                      rcases hat with hat | hat
                      · exact hnr (by rw [hat, e'])
                      · have := hrr.lt; omega
                    have hab7 : Abs 65536 (xs ++ [y + rr]) := by
                      intro z hz
                      rcases List.mem_append.1 hz with hz | hz
                      · exact hxab z hz
                      · rw [List.mem_singleton.1 hz]; exact fits_abs wide hw _ hfit
                    have HP7 : Hid (predict wide factors k first.reverse res = predict wide factors k (xs ++ [y + rr]).reverse (res.drop (m + 1 - j))) := by
                      show _ = _
                      rw [HP.out, HX.out, hfit, show m - j + 1 = m + 1 - j by omega]
                      rfl
                    have HXL7 : Hid ((xs ++ [y + rr]).length = m + 1) := by
                      show _ = _
                      rw [List.length_append, List.length_singleton, HXL.out]
                    clear hown' hgrow hgrow2 hown hfr hrr hst hchg hat hnf hnr HX hcr hfz2 hcm
                    go_wp2
                    go_roundw
                    case rel => exact ⟨m + 1, xs ++ [y + rr], by go_num, by omega, by omega, hown7, HXL7, hab7, hfr7, hrr7, hnf7, hnr7, hchg7, hst7, HP7⟩
                    case measure => simp [intOf]; omega
        · obtain rfl : m = n := by omega
          go_wp2
          go_ret
          refine ⟨_, xs, some l1, rfl, hown, hxab, hchg, hst, foretold_ends hends ?_⟩
          rw [HP.out, List.drop_of_length_le (by have := HRL.out; omega)]
          exact predict_end _ _ _ _
end Go.Proofs.Ytncmgnmcggkhnaa
