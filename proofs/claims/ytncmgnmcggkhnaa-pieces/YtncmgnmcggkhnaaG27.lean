import Derived.Test.YtncmgnmcggkhnaaG12
import Derived.Deep.LoopGhost
import Derived.Test.YtncmgnmcggkhnaaG26
import Derived.Deep.RegionLaw
import Derived.Deep.AppendLies
namespace Go.Proofs.Ytncmgnmcggkhnaa
open Go.RowKit

def maxOf (xs : List Int) : Int := xs.tail.foldl max (xs.headD 0)
def minOf (xs : List Int) : Int := xs.tail.foldl min (xs.headD 0)

theorem maxOf_take (xs : List Int) (k : Nat) (h1 : 1 ≤ k) (h : k < xs.length) : maxOf (xs.take (k + 1)) = max (maxOf (xs.take k)) (xs.getD k 0) := by
  cases xs with
  | nil => simp at h
  | cons a l =>
    obtain ⟨j, rfl⟩ : ∃ j, k = j + 1 := ⟨k - 1, by omega⟩
    have hj : j < l.length := by simpa using h
    unfold maxOf
    rw [List.take_succ_cons, List.take_succ_cons, List.tail_cons, List.tail_cons, List.take_succ_eq_append_getElem hj, List.foldl_append]
    simp [List.getD, hj]
theorem minOf_take (xs : List Int) (k : Nat) (h1 : 1 ≤ k) (h : k < xs.length) : minOf (xs.take (k + 1)) = min (minOf (xs.take k)) (xs.getD k 0) := by
  cases xs with
  | nil => simp at h
  | cons a l =>
    obtain ⟨j, rfl⟩ : ∃ j, k = j + 1 := ⟨k - 1, by omega⟩
    have hj : j < l.length := by simpa using h
    unfold minOf
    rw [List.take_succ_cons, List.take_succ_cons, List.tail_cons, List.tail_cons, List.take_succ_eq_append_getElem hj, List.foldl_append]
    simp [List.getD, hj]

theorem foldl_max_ge : ∀ (l : List Int) (a : Int), a ≤ l.foldl max a ∧ ∀ x ∈ l, x ≤ l.foldl max a
  | [], a => ⟨Int.le_refl _, fun x hx => by simp at hx⟩
  | y :: l, a => by
    obtain ⟨h1, h2⟩ := foldl_max_ge l (max a y)
    rw [List.foldl_cons]
    refine ⟨by omega, fun x hx => ?_⟩
    rcases List.mem_cons.1 hx with rfl | hx
    · omega
    · exact h2 x hx
theorem foldl_min_le : ∀ (l : List Int) (a : Int), l.foldl min a ≤ a ∧ ∀ x ∈ l, l.foldl min a ≤ x
  | [], a => ⟨Int.le_refl _, fun x hx => by simp at hx⟩
  | y :: l, a => by
    obtain ⟨h1, h2⟩ := foldl_min_le l (min a y)
    rw [List.foldl_cons]
    refine ⟨by omega, fun x hx => ?_⟩
    rcases List.mem_cons.1 hx with rfl | hx
    · omega
    · exact h2 x hx
theorem foldl_same : ∀ (l : List Int) (a : Int), (∀ x ∈ l, x = a) → l.foldl max a = a ∧ l.foldl min a = a
  | [], a, _ => ⟨rfl, rfl⟩
  | y :: l, a, h => by
    have := h y (by simp)
    subst this
    have := foldl_same l y (fun x hx => h x (by simp [hx]))
    rw [List.foldl_cons, List.foldl_cons, Int.max_self, Int.min_self]
    exact this

/-- the greatest is the least: all are alike -/
theorem max_eq_min (xs : List Int) : (maxOf xs == minOf xs) = xs.all (fun x => x == xs.headD 0) := by
  rw [Bool.eq_iff_iff, List.all_eq_true]
  cases xs with
  | nil => simp [maxOf, minOf]
  | cons a l =>
    unfold maxOf minOf
    rw [List.tail_cons, List.headD_cons]
    have h1 := foldl_max_ge l a
    have h2 := foldl_min_le l a
    constructor
    · intro e x hx
      have e' : l.foldl max a = l.foldl min a := by simpa using e
      rcases List.mem_cons.1 hx with rfl | hx
      · simp
      · have := h1.2 x hx
        have := h2.2 x hx
        have : x = a := by omega
        simp [this]
    · intro h
      have := foldl_same l a (fun x hx => by have := h x (by simp [hx]); simpa using this)
      rw [this.1, this.2]
      simp

set_option maxHeartbeats 1000000 in
set_option maxRecDepth 20000 in
theorem qmax (w : World) (v : Value) (xs : List Int) (h : Lo w v xs) (hl : xs.length ≤ 4096) (hne : 1 ≤ xs.length) :
    Calls Try.prog 119 #[v] w fun e w' => e = .returned (.int .i64 (maxOf xs)) ∧ w' = w := by
  obtain ⟨a, c, rfl⟩ := h.slice
  obtain ⟨b0, o0, rfl, hc0⟩ := h.at 0 (by omega)
  have t1 : decide ((xs.length : Int) < 1) = false := decide_eq_false (by omega)
  have h00 : maxOf (xs.take 1) = xs.getD 0 0 := by cases xs <;> simp [maxOf]
  obtain ⟨x0, hx0⟩ : ∃ x0, xs.getD 0 0 = x0 := ⟨_, rfl⟩
  rw [Nat.add_zero, hx0] at hc0
  rw [hx0] at h00
  have H00 : Hid (maxOf (xs.take 1) = x0) := h00
  have hp0 : (0 : Int) < (xs.length : Int) := by omega
  clear h00 hx0
  go_enter Try.func119, Try.ntmps119
  go_wp2_with fail
  go_loopg [3, 4] (xs.length - 1) (fun gk t3 t4 wr => ∃ k : Nat, 1 ≤ k ∧ gk + k = xs.length ∧ t4 = .int .i64 k ∧ t3 = .int .i64 (maxOf (xs.take k)) ∧ wr = w)
  case atStart => exact ⟨1, Nat.le_refl _, by omega, rfl, by rw [H00.out], rfl⟩
  case round =>
    obtain ⟨k, hk1, hgk, rfl, rfl, rfl⟩ := hrel
    by_cases hlt : k < xs.length
    · obtain ⟨bb, oo, hbo, hcell⟩ := h.at k hlt
      injection hbo with hbo
      injection hbo with e1 e2 _
      subst e1 e2
      have hnext := maxOf_take xs k hk1 hlt
      obtain ⟨x, hx⟩ : ∃ x, xs.getD k 0 = x := ⟨_, rfl⟩
      obtain ⟨m, hm⟩ : ∃ m, maxOf (xs.take k) = m := ⟨_, rfl⟩
      rw [hx] at hcell hnext
      rw [hm] at hnext ⊢
      have HNEXT : Hid (maxOf (xs.take (k + 1)) = max m x) := hnext
      have tk : decide ((k : Int) < (xs.length : Int)) = true := decide_eq_true (by omega)
      clear hnext hx hm
      go_wp2_with fail
      all_goals
        go_roundg (gk - 1)
        case measure => omega
        case rel => exact ⟨k + 1, by omega, by omega, by go_num, by rw [HNEXT.out]; congr 1; omega, rfl⟩
    · have hkn : k = xs.length := by omega
      subst hkn
      rw [List.take_length]
      clear hgk
      go_wp2
      go_ret
      exact ⟨rfl, rfl⟩

set_option maxHeartbeats 1000000 in
set_option maxRecDepth 20000 in
theorem qmin (w : World) (v : Value) (xs : List Int) (h : Lo w v xs) (hl : xs.length ≤ 4096) (hne : 1 ≤ xs.length) :
    Calls Try.prog 120 #[v] w fun e w' => e = .returned (.int .i64 (minOf xs)) ∧ w' = w := by
  obtain ⟨a, c, rfl⟩ := h.slice
  obtain ⟨b0, o0, rfl, hc0⟩ := h.at 0 (by omega)
  have t1 : decide ((xs.length : Int) < 1) = false := decide_eq_false (by omega)
  have h00 : minOf (xs.take 1) = xs.getD 0 0 := by cases xs <;> simp [minOf]
  obtain ⟨x0, hx0⟩ : ∃ x0, xs.getD 0 0 = x0 := ⟨_, rfl⟩
  rw [Nat.add_zero, hx0] at hc0
  rw [hx0] at h00
  have H00 : Hid (minOf (xs.take 1) = x0) := h00
  have hp0 : (0 : Int) < (xs.length : Int) := by omega
  clear h00 hx0
  go_enter Try.func120, Try.ntmps120
  go_wp2_with fail
  go_loopg [3, 4] (xs.length - 1) (fun gk t3 t4 wr => ∃ k : Nat, 1 ≤ k ∧ gk + k = xs.length ∧ t4 = .int .i64 k ∧ t3 = .int .i64 (minOf (xs.take k)) ∧ wr = w)
  case atStart => exact ⟨1, Nat.le_refl _, by omega, rfl, by rw [H00.out], rfl⟩
  case round =>
    obtain ⟨k, hk1, hgk, rfl, rfl, rfl⟩ := hrel
    by_cases hlt : k < xs.length
    · obtain ⟨bb, oo, hbo, hcell⟩ := h.at k hlt
      injection hbo with hbo
      injection hbo with e1 e2 _
      subst e1 e2
      have hnext := minOf_take xs k hk1 hlt
      obtain ⟨x, hx⟩ : ∃ x, xs.getD k 0 = x := ⟨_, rfl⟩
      obtain ⟨m, hm⟩ : ∃ m, minOf (xs.take k) = m := ⟨_, rfl⟩
      rw [hx] at hcell hnext
      rw [hm] at hnext ⊢
      have HNEXT : Hid (minOf (xs.take (k + 1)) = min m x) := hnext
      have tk : decide ((k : Int) < (xs.length : Int)) = true := decide_eq_true (by omega)
      clear hnext hx hm
      go_wp2_with fail
      all_goals
        go_roundg (gk - 1)
        case measure => omega
        case rel => exact ⟨k + 1, by omega, by omega, by go_num, by rw [HNEXT.out]; congr 1; omega, rfl⟩
    · have hkn : k = xs.length := by omega
      subst hkn
      rw [List.take_length]
      clear hgk
      go_wp2
      go_ret
      exact ⟨rfl, rfl⟩
end Go.Proofs.Ytncmgnmcggkhnaa

namespace Go.Proofs.Ytncmgnmcggkhnaa
open Go.RowKit

theorem infoSubf : (Try.prog.info? 131).map (fun i => (i.zero, i.size, i.bytes)) = some (some .nilIface, 1, 16) := by kernel_rfl
theorem undSubf : Try.prog.underlying 166 = some (.slice 131) := by kernel_rfl

/-- blocks of what is tried: the samples' own, and new ones but the list's -/
def DT (w : World) (b : Nat) (lv : Value) (q : Nat) : Prop := (q = b ∨ w.heap.size ≤ q) ∧ lv.ownBlock ≠ some q

structure TrI (w wr : World) (b : Nat) (lv : Value) (vs : List Value) (subs : List ESub) : Prop where
  grow : w.grownBy wr none
  row : wr.ownsRow w.heap.size 131 1 lv vs.length vs
  len : vs.length = subs.length
  each : ∀ (i : Nat) (v : Value) (s : ESub), vs[i]? = some v → subs[i]? = some s → ESubV wr (DT w b lv) v s

theorem TrI.snoc {w wr w3 w4 : World} {b g cap H : Nat} {lv v : Value} {vs : List Value} {subs : List ESub} {s : ESub} (h : TrI w wr b lv vs subs) (hg3 : wr.grownBy w3 none) (hv : ESubV w3 (DT w b lv) v s)
    (happ : w3.grownBy w4 lv.ownBlock) (hrow : w4.ownsRow w.heap.size 131 1 (.slice (some ⟨g, 0, none⟩) (vs.length + 1) cap) (vs.length + 1) (vs ++ [v])) (hat : lv.ownBlock = some g ∨ g = H) (hH : w3.heap.size ≤ H) :
    TrI w w4 b (.slice (some ⟨g, 0, none⟩) (vs.length + 1) cap) (vs ++ [v]) (subs ++ [s]) := by
  have hlt : ∀ q, lv.ownBlock = some q → w.heap.size ≤ q := fun q hq => (World.ownsRow.lt h.row q hq).1
  have key : ∀ (u : Value) (t : ESub), ESubV w3 (DT w b lv) u t → ESubV w4 (DT w b (.slice (some ⟨g, 0, none⟩) (vs.length + 1) cap)) u t := by
    intro u t hu
    have h1 : ESubV w3 (fun q => DT w b lv q ∧ q ≠ g) u t := hu.mono (fun q hq hl => ⟨hq, fun e => by
      subst e
      rcases hat with e | e
      · exact hq.2 e
      · omega⟩)
    have h2 := h1.kp (Kp.of happ) (fun q hq e => hq.1.2 e.symm)
    exact h2.mono (fun q hq _ => ⟨hq.1.1, fun e => hq.2 (by
      have e' : g = q := by simpa [Value.ownBlock] using e
      exact e'.symm)⟩)
  refine ⟨grown_new (grown_trans h.grow hg3) happ (fun q e => hlt q e), by rw [List.length_append, List.length_singleton]; exact hrow, by rw [List.length_append, List.length_append, h.len]; rfl, ?_⟩
  intro i u t hu ht
  rcases Nat.lt_or_ge i vs.length with hi | hi
  · rw [List.getElem?_append_left hi] at hu
    rw [List.getElem?_append_left (by rw [← h.len]; exact hi)] at ht
    exact key u t ((h.each i u t hu ht).kp (Kp.ofNone (S := fun _ => False) hg3) (fun _ _ e => e))
  · rw [List.getElem?_append_right hi] at hu
    rw [List.getElem?_append_right (by rw [← h.len]; exact hi), ← h.len] at ht
    cases hj : i - vs.length with
    | zero =>
      rw [hj] at hu ht
      injection hu with hu
      injection ht with ht
      subst hu
      subst ht
      exact key _ _ hv
    | succ j => rw [hj] at hu; simp at hu

/-- samples in memory -/
structure SmpIn (w : World) (b off cap : Nat) (l : List Int) : Prop where
  len : 1 ≤ l.length ∧ l.length ≤ 256
  cap : l.length ≤ cap
  lt : b < w.heap.size
  cells : ∀ i, i < l.length → w.cell? ⟨b, off + i, none⟩ = some (.int .i64 (l.getD i 0))
  small : Abs 32768 l

theorem SmpIn.kept {w w' : World} {b off cap : Nat} {l : List Int} (h : SmpIn w b off cap l) (hg : w.grownBy w' none) : SmpIn w' b off cap l :=
  ⟨h.len, h.cap, Nat.lt_of_lt_of_le h.lt hg.size, fun i hi => hg.cell (h.cells i hi) (by simp), h.small⟩

theorem SmpIn.lod {w : World} {b off cap o : Nat} {l : List Int} {D : Nat → Prop} (h : SmpIn w b off cap l) (ho : o ≤ l.length) (hD : D b) : LoD w D (.slice (some ⟨b, off, none⟩) o cap) (l.take o) := by
  have hl : (l.take o).length = o := by rw [List.length_take]; omega
  refine .inr ⟨b, off, cap, by rw [hl], hD, h.lt, fun i hi => ?_⟩
  rw [hl] at hi
  have e : (l.take o).getD i 0 = l.getD i 0 := by simp [List.getD, hi]
  rw [e]
  exact h.cells i (by omega)

theorem SmpIn.all {w : World} {b off cap : Nat} {l : List Int} {D : Nat → Prop} (h : SmpIn w b off cap l) (hD : D b) : LoD w D (.slice (some ⟨b, off, none⟩) l.length cap) l := by
  have := h.lod (o := l.length) (Nat.le_refl _) hD
  rwa [List.take_length] at this

/-- the row of one new list, as an element -/
theorem tr_start {w w1 : World} {b off cap : Nat} {l : List Int} (h : SmpIn w b off cap l) (hw1 : w.alloc (.cells #[.iface 161 (.agg #[.slice (some ⟨b, off, none⟩) l.length cap])] 131) = w1) :
    TrI w w1 b (.slice (some ⟨w.heap.size, 0, none⟩) 1 1) [.iface 161 (.agg #[.slice (some ⟨b, off, none⟩) l.length cap])] [.plain l] := by
  have hg : w.grownBy w1 none := by rw [← hw1]; exact grown_alloc (grown_refl _ _) _
  refine ⟨hg, ⟨rfl, .inr ⟨w.heap.size, 1, #[.iface 161 (.agg #[.slice (some ⟨b, off, none⟩) l.length cap])], rfl, Nat.le_refl _, by rw [← hw1]; exact Box.new _ _ _, Nat.le_refl _, by unfold maxLen; omega, rfl, rfl⟩⟩, rfl, fun i v s hv hs => ?_⟩
  cases i with
  | zero =>
    injection hv with hv
    injection hs with hs
    subst hv
    subst hs
    refine ⟨_, rfl, (h.kept hg).all ⟨.inl rfl, fun e => ?_⟩⟩
    have e' : w.heap.size = b := by simpa [Value.ownBlock] using e
    have := h.lt
    omega
  | succ i => simp at hv

theorem one_elem (w : World) (v : Value) (t : TypeId) : ∀ j u, [v][j]? = some u → (w.alloc (.cells #[v] t)).cell? ((⟨w.heap.size, 0, none⟩ : Addr).add j) = some u := by
  intro j u hj
  cases j with
  | zero => exact ((Box.new w #[v] t).cell 0).trans (by simpa using hj)
  | succ j => simp at hj
end Go.Proofs.Ytncmgnmcggkhnaa

namespace Go.Proofs.Ytncmgnmcggkhnaa
open Go.RowKit

def TriedPost (w : World) (b : Nat) (l : List Int) (e : Ending) (w' : World) : Prop :=
  ∃ lv vs, e = .returned lv ∧ TrI w w' b lv vs (.plain l :: others l)

theorem others_eq (l : List Int) (k : Nat) : (List.range (k + 1)).map (fixedOf l) = (List.range k).map (fixedOf l) ++ [fixedOf l k] := by
  rw [List.range_succ, List.map_append]; rfl

set_option maxHeartbeats 4000000 in
set_option maxRecDepth 20000 in
theorem qtried (w : World) (b off cap : Nat) (l : List Int) (h : SmpIn w b off cap l) :
    Calls Try.prog 104 #[.slice (some ⟨b, off, none⟩) l.length cap] w (TriedPost w b l) := by
  obtain ⟨i0, hi, hz0, hz1, hz2⟩ := info_parts infoSubf
  have HI : Hid _ := hi
  have HZ0 : Hid _ := hz0
  have HZ1 : Hid _ := hz1
  have HZ2 : Hid _ := hz2
  clear hi hz0 hz1 hz2
  obtain ⟨hn1, hn2⟩ := h.len
  obtain ⟨w1, hw1⟩ : ∃ w1, w.alloc (.cells #[.iface 161 (.agg #[.slice (some ⟨b, off, none⟩) l.length cap])] 131) = w1 := ⟨_, rfl⟩
  have htr1 := tr_start h hw1
  have h1 := h.kept htr1.grow
  have HMX := qmax w1 _ l (h1.all (D := fun _ => True) trivial).lo (by omega) hn1
  have HMN := qmin w1 _ l (h1.all (D := fun _ => True) trivial).lo (by omega) hn1
  have hmm := max_eq_min l
  obtain ⟨mx, hmx⟩ : ∃ mx, maxOf l = mx := ⟨_, rfl⟩
  obtain ⟨mn, hmn⟩ : ∃ mn, minOf l = mn := ⟨_, rfl⟩
  rw [hmx] at HMX hmm
  rw [hmn] at HMN hmm
  obtain ⟨x0, hx0⟩ : ∃ x0, l.getD 0 0 = x0 := ⟨_, rfl⟩
  have hh0 : l.headD 0 = x0 := by rw [← hx0]; cases l <;> rfl
  have hc0 : w1.cell? ⟨b, off, none⟩ = some (.int .i64 x0) := by have := h1.cells 0 (by omega); rw [hx0] at this; exact this
  have HAA : Hid (allAlike l = (mx == mn)) := by show _ = _; unfold allAlike; rw [hmm]
  have HH0 : Hid (l.headD 0 = x0) := hh0
  have HW1 : Hid (w.alloc (.cells #[.iface 161 (.agg #[.slice (some ⟨b, off, none⟩) l.length cap])] 131) = w1) := hw1
  have hs1 : w1.heap.size = w.heap.size + 1 := by rw [← hw1]; simp
  have HS1 : Hid (w1.heap.size = w.heap.size + 1) := hs1
  clear hmx hmn hx0 hh0 hmm hw1 hs1
  go_enter Try.func104, Try.ntmps104
  go_upto_region 2 with fail
  rw [HW1.out]
  clear HW1
  have hp0 : (0 : Int) < (l.length : Int) := by omega
  go_cut [13] (fun s13 wx => s13 = .bool (mx == mn) ∧ wx = w1)
  case first =>
    go_wp2_with (first
      | (go_at_call 119; refine HMX.mono ?_; rintro e w0 ⟨rfl, rfl⟩)
      | (go_at_call 120; refine HMN.mono ?_; rintro e w0 ⟨rfl, rfl⟩))
    go_meet
    case rel => exact ⟨rfl, rfl⟩
  case rest =>
  obtain ⟨rfl, rfl⟩ := hcut
  clear HMX HMN
  go_upto_if 13 with fail
  go_cut [3] (fun s3 wx => ∃ vs, TrI w wx b s3 vs (.plain l :: if allAlike l then [.alike (l.headD 0)] else []))
  case first =>
    cases hmm : (mx == mn) with
    | false =>
      have HF : Hid (allAlike l = false) := by show _ = _; rw [HAA.out, hmm]
      go_wp2
      go_meet
      case rel =>
        rw [HF.out]
        exact ⟨_, htr1⟩
    | true =>
      have HF : Hid (allAlike l = true) := by show _ = _; rw [HAA.out, hmm]
      have hg3 := grown_alloc (grown_refl wc none) (.cells #[.iface 157 (.agg #[.int .i64 x0])] 131)
      have HROW : Hid (wc.ownsRow w.heap.size 131 1 (.slice (some ⟨w.heap.size, 0, none⟩) 1 1) 1 [.iface 161 (.agg #[.slice (some ⟨b, off, none⟩) l.length cap])]) := htr1.row
      have HBS : Hid (w.heap.size ≤ wc.heap.size) := htr1.grow.size
      have HTR : Hid _ := htr1
      clear htr1
      go_wp2_with (first
        | (at_builtin; refine wpList_append_lies _ rfl _ _ 166 rfl w.heap.size 131 i0 .nilIface 1 16 undSubf HI.out HZ0.out HZ1.out HZ2.out rfl (by decide) (.slice (some ⟨w.heap.size, 0, none⟩) 1 1) 1 _ rfl (World.ownsRow.alloc HROW.out _) ⟨wc.heap.size, 0, none⟩ 1 1 [.iface 157 (.agg #[.int .i64 x0])] rfl rfl ?c1 ?c2 ?c6 ?c3 ?c4 ?c5 _ rfl ?_))
      case c1 => exact one_elem wc _ _
      case c2 => intro u hu; rw [List.mem_singleton.1 hu]; rfl
      case c6 => omega
      case c3 => unfold maxLen; omega
      case c4 => omega
      case c5 => have := HBS.out; simp; omega
      intro g cap' w4 hrow' hgrow hat hglt
      go_wp2
      go_meet
      case rel =>
        rw [HF.out, HH0.out]
        exact ⟨_, TrI.snoc HTR.out hg3 (v := .iface 157 (.agg #[.int .i64 x0])) (s := .alike x0) rfl hgrow hrow' hat (by simp)⟩
  case rest =>
    clear htr1 hc0 h1
    obtain ⟨vs1, htr⟩ := hcut
    obtain ⟨base1, hbase1⟩ : ∃ base1, (ESub.plain l :: if allAlike l then [.alike (l.headD 0)] else []) = base1 := ⟨_, rfl⟩
    rw [hbase1] at htr
    have hb2 : base1.length ≤ 2 := by rw [← hbase1]; split <;> simp
    have HOT : Hid (.plain l :: others l = base1 ++ (List.range (min 4 l.length + 1)).map (fixedOf l)) := by show _ = _; rw [← hbase1]; unfold others; rfl
    obtain ⟨m, hm⟩ : ∃ m, min 4 l.length + 1 = m := ⟨_, rfl⟩
    have hm5 : m ≤ 5 ∧ m ≤ l.length + 1 := by omega
    rw [hm] at HOT
    have hm1 : 1 ≤ m := by omega
    have HM : Hid (min 4 l.length + 1 = m) := hm
    clear hbase1 hm
    obtain ⟨wo, rfl⟩ : ∃ wo : World, wo = wc := ⟨_, rfl⟩
    go_upto_region 4 with fail
    go_cut [25, 26] (fun s25 s26 wx => s25 = .int .i64 m ∧ s26 = .int .i64 0 ∧ wx = wo)
    case first =>
      go_wp2
      all_goals
        go_meet
        case rel => exact ⟨by have := HM.out; congr 1; omega, rfl, rfl⟩
    case rest =>
    obtain ⟨rfl, rfl, rfl⟩ := hcut
    clear hp0 hn1
    have HH : Hid (SmpIn w b off cap l) := h
    have hHc := h.cap
    clear h
    go_wp2_with fail
    go_loopg [3, 26] m (fun gk s3 s26 wr => ∃ (k : Nat) (vs : List Value), gk + k = m ∧ s26 = .int .i64 k ∧ TrI w wr b s3 vs (base1 ++ (List.range k).map (fixedOf l)))
    case atStart => exact ⟨0, vs1, rfl, rfl, by simpa using htr⟩
    case round =>
      clear htr
      obtain ⟨k, vs, hgk, rfl, htr⟩ := hrel
      by_cases hlt : k < m
      · have hnv : vs.length = base1.length + k := by rw [htr.len, List.length_append, List.length_map, List.length_range]
        obtain ⟨a3, c3, hs3⟩ := row_slice htr.row
        subst hs3
        obtain ⟨n, hn⟩ : ∃ n, vs.length = n := ⟨_, rfl⟩
        have hn9 : n ≤ 7 := by omega
        have hsmp := HH.out.kept htr.grow
        have hsd := hsmp.kept (grown_drew (grown_refl wr none))
        have HMI := qmissing wr.drew b off cap l k (by omega) (by omega) hn2 hHc (fun x hx => by have := hsd.small x hx; omega) hsd.cells
        obtain ⟨R, hR⟩ : ∃ R, miss (fixedFactors k) (l.take k).reverse (l.drop k) = R := ⟨_, rfl⟩
        rw [hR] at HMI
        have HR : Hid (fixedOf l k = .fixed (l.take k) R) := by show _ = _; unfold fixedOf; rw [hR]
        rw [hn]
        have hkl : (k : Int) ≤ (cap : Int) := by omega
        have HTR : Hid (TrI w wr b (.slice a3 n c3) vs (base1 ++ (List.range k).map (fixedOf l))) := by rw [hn] at htr; exact htr
        have HN : Hid (vs.length = n) := hn
        have HOWN : Hid (∀ w4 o, wr.drew.grownBy w4 none → (w4.alloc o).ownsRow w.heap.size 131 1 (.slice a3 n c3) n vs) := by
          intro w4 o hg4
          have h1 := ownsRow_kp htr.row (Kp.ofNone (S := fun _ => False) (grown_trans (grown_drew (grown_refl wr none)) hg4)) (fun _ _ e => e)
          rw [hn] at h1
          exact World.ownsRow.alloc h1 o
        have HBASE : Hid (∀ (w4 : World) o, wr.drew.grownBy w4 none → w.heap.size ≤ (w4.alloc o).heap.size) := by
          intro w4 o hg4
          have h1 := Nat.le_trans htr.grow.size hg4.size
          exact Nat.le_trans h1 (by simp)
        have HONE : Hid (∀ v ∈ [Value.iface 164 (.agg #[.slice (some ⟨b, off, none⟩) k cap, .slice (some ⟨0, 0, none⟩) 0 0])], v.oneCell' = true) := by intro u hu; rw [List.mem_singleton.1 hu]; rfl
        clear htr hR hn hnv hsd hsmp HONE
        go_upto_region 7 with fail
        go_region_law ((first
          | (refine step_append_lies _ (by rfl) (.tmp 29) (.tmp 38) 166 (by rfl) w.heap.size 131 i0 .nilIface 1 16 undSubf HI.out HZ0.out HZ1.out HZ2.out rfl (by decide) (.slice a3 n c3) n vs (by simp [Act.eval]) (HOWN.out w4 _ hgR) ⟨w4.heap.size, 0, none⟩ 1 1 [.iface 164 (.agg #[.slice (some ⟨b, off, none⟩) k cap, .slice (some ⟨gR, 0, none⟩) R.length R.length])] (by simp [Act.eval]) rfl (one_elem w4 _ _) (by intro u hu; rw [List.mem_singleton.1 hu]; rfl) (by omega) (by unfold maxLen; omega) (by omega) (HBASE.out w4 _ hgR) _ rfl ?_; intro g cap' w5 hrow' hgrow hat hglt)
          | (go_simp; go_at_call 121; refine HMI.mono ?_; rintro e w4 ⟨gR, rfl, hrowR, hgR⟩)))
        all_goals
          have hg34 : wr.grownBy w4 none := grown_trans (grown_drew (grown_refl wr none)) hgR
          have hg3 : wr.grownBy (w4.alloc (.cells #[.iface 164 (.agg #[.slice (some ⟨b, off, none⟩) k cap, .slice (some ⟨gR, 0, none⟩) R.length R.length])] 131)) none := grown_alloc hg34 _
          have hlvne : ∀ q, (Value.slice a3 n c3).ownBlock = some q → w.heap.size ≤ q ∧ q < wr.heap.size := fun q hq => by
            have h1 := HTR.out.row
            rw [HN.out] at h1
            exact World.ownsRow.lt h1 q hq
          have hES : ESubV (w4.alloc (.cells #[.iface 164 (.agg #[.slice (some ⟨b, off, none⟩) k cap, .slice (some ⟨gR, 0, none⟩) R.length R.length])] 131)) (DT w b (.slice a3 n c3)) (.iface 164 (.agg #[.slice (some ⟨b, off, none⟩) k cap, .slice (some ⟨gR, 0, none⟩) R.length R.length])) (.fixed (l.take k) R) := by
            have hsm := HH.out.kept (grown_trans HTR.out.grow hg3)
            refine ⟨_, _, rfl, hsm.lod (by omega) ⟨.inl rfl, fun e => ?_⟩, ?_⟩
            · have h1 := (hlvne b e).1
              have h2 := HH.out.lt
              omega
            · have hrl := hrowR.lt
              have hrk := hrowR.kept (grown_alloc (grown_refl w4 none) (.cells #[.iface 164 (.agg #[.slice (some ⟨b, off, none⟩) k cap, .slice (some ⟨gR, 0, none⟩) R.length R.length])] 131)) (by simp)
              refine .inr ⟨gR, 0, R.length, rfl, ⟨.inr (Nat.le_trans HTR.out.grow.size hrl.1), fun e => ?_⟩, hrk.lt.2, fun i hi => by rw [Nat.zero_add]; exact hrk.cell i hi⟩
              have h1 := (hlvne gR e).2
              have h2 : wr.heap.size ≤ gR := hrl.1
              omega
          have hnew := TrI.snoc HTR.out hg3 hES (g := g) (cap := cap') hgrow (by rw [HN.out]; exact hrow') hat (Nat.le_refl _)
          rw [HN.out] at hnew
          clear hrow' hgrow hat hglt hES hrowR hgR hg3 hg34
          go_wp2
          go_roundg (gk - 1)
          case measure => omega
          case rel => exact ⟨k + 1, _, by omega, by go_num, by rw [others_eq, HR.out, ← List.append_assoc]; exact hnew⟩
      · have hkm : k = m := by omega
        subst hkm
        have hpost : TriedPost w b l (.returned u3) wr := ⟨u3, vs, rfl, by rw [HOT.out]; exact htr⟩
        clear htr hgk
        go_wp2
        exact bodyPost_ret (v := u3) (by simp [results, Try.results104, go_sem]) rfl hpost
end Go.Proofs.Ytncmgnmcggkhnaa

namespace Go.Proofs.Ytncmgnmcggkhnaa
open Go.RowKit

theorem pickBest_snoc (cost : ESub → Nat) (s : ESub) : ∀ (l : List ESub) (b : ESub), pickBest cost b (l ++ [s]) = if cost s < cost (pickBest cost b l) then s else pickBest cost b l
  | [], b => by
    show pickBest cost (if cost s < cost b then s else b) [] = _
    rfl
  | t :: l, b => by
    show pickBest cost (if cost t < cost b then t else b) (l ++ [s]) = _
    rw [pickBest_snoc cost s l]
    rfl

theorem subs_small {w : World} {b off cap : Nat} {l : List Int} (h : SmpIn w b off cap l) : ∀ s ∈ ESub.plain l :: others l, ESmall s := by
  intro s hs
  have hsm : ∀ x ∈ l, -1048576 ≤ x ∧ x ≤ 1048576 := fun x hx => by have := h.small x hx; omega
  rcases List.mem_cons.1 hs with rfl | hs
  · exact ⟨by have := h.len.2; omega, hsm⟩
  · unfold others at hs
    rcases List.mem_append.1 hs with hs | hs
    · by_cases ha : allAlike l = true
      · rw [if_pos ha] at hs
        rw [List.mem_singleton.1 hs]
        cases l with
        | nil => have := h.len.1; simp at this
        | cons a t => exact hsm a (by simp)
      · rw [if_neg ha] at hs; simp at hs
    · obtain ⟨o, ho, rfl⟩ := List.mem_map.1 hs
      rw [List.mem_range] at ho
      have h2 := h.len.2
      refine ⟨by rw [List.length_take]; omega, fun x hx => hsm x (List.mem_of_mem_take hx), by rw [miss_length, List.length_drop]; omega, fun v hv => ?_⟩
      have := miss_bound 32768 (by decide) o (l.drop o) (l.take o).reverse (fun a ha => h.small a (List.mem_of_mem_drop ha)) (fun a ha => h.small a (List.mem_of_mem_take (List.mem_reverse.1 ha))) v hv
      omega

theorem eqn_no (t : TypeId) (v : Value) (w : World) : (binOp .eql 131 (.iface t v) .nilIface).run Try.prog w = .ok (.bool false) w := by kernel_rfl
theorem eqn_yes (w : World) : (binOp .eql 131 .nilIface .nilIface).run Try.prog w = .ok (.bool true) w := by kernel_rfl

theorem ESubV.iface {w : World} {D : Nat → Prop} {sv : Value} {s : ESub} (h : ESubV w D sv s) : ∃ t v, sv = .iface t v := by
  cases s using ESub.each with
  | alike x => exact ⟨_, _, h⟩
  | plain l => obtain ⟨v, e, _⟩ := h; exact ⟨_, _, e⟩
  | fixed f r => obtain ⟨vf, vr, e, _⟩ := h; exact ⟨_, _, e⟩

theorem WrS.start (w : World) : WrS (w.alloc (.cells #[.slice none 0 0, .int .i64 0] 125)) w.heap.size (w.heap.size + 1) (.slice none 0 0) [] :=
  ⟨Box.new _ _ _, by rw [pack_nil]; exact World.ownsRow_nil _ _ _ _, by omega⟩

def ShortPost (w : World) (b : Nat) (s : ESub) (e : Ending) (w' : World) : Prop :=
  ∃ sv, e = .returned sv ∧ w.grownBy w' none ∧ ESubV w' (fun q => q = b ∨ w.heap.size ≤ q) sv s

/-- what the loop over those that are tried knows: the best of the first `k` -/
def BestI (w w1 wr : World) (b : Nat) (lv : Value) (l : List Int) (wide k : Nat) (s5 s6 : Value) : Prop :=
  w1.grownBy wr none ∧ ((k = 0 ∧ s5 = .nilIface ∧ s6 = .int .i64 0) ∨ ∃ j s, k = j + 1 ∧ s = pickBest (subCost wide) (.plain l) ((others l).take j) ∧ ESubV wr (DT w b lv) s5 s ∧ s6 = .int .i64 (subCost wide s))

theorem take_snoc_get {α : Type} (l : List α) (k : Nat) (x : α) (h : l[k]? = some x) : l.take (k + 1) = l.take k ++ [x] := by
  have hk : k < l.length := by
    rcases Nat.lt_or_ge k l.length with h1 | h1
    · exact h1
    · rw [List.getElem?_eq_none h1] at h; cases h
  rw [List.take_succ_eq_append_getElem hk]
  rw [List.getElem?_eq_getElem hk] at h
  injection h with h
  rw [h]

set_option maxHeartbeats 4000000 in
set_option maxRecDepth 20000 in
theorem qshort (w : World) (b off cap : Nat) (l : List Int) (wide : Nat) (hw : wide ≤ 20) (h : SmpIn w b off cap l) :
    Calls Try.prog 76 #[.slice (some ⟨b, off, none⟩) l.length cap, .int .i64 wide] w (ShortPost w b (shortest wide l)) := by
  have HT := qtried w b off cap l h
  have hsmall := subs_small h
  have hlen : (ESub.plain l :: others l).length ≤ 7 := by
    unfold others
    rw [List.length_cons, List.length_append, List.length_map, List.length_range]
    split <;> simp <;> omega
  go_enter Try.func76, Try.ntmps76
  go_wp2_with fail
  refine HT.mono ?_
  rintro e w1 ⟨lv, vs, rfl, htr⟩
  obtain ⟨subs, hsubs⟩ : ∃ subs, ESub.plain l :: others l = subs := ⟨_, rfl⟩
  rw [hsubs] at htr hlen hsmall
  have HSUBS : Hid (ESub.plain l :: others l = subs) := hsubs
  obtain ⟨a, c, hlv⟩ := row_slice htr.row
  have hlen2 := htr.len
  obtain ⟨n, hn⟩ : ∃ n, vs.length = n := ⟨_, rfl⟩
  rw [hn] at hlv
  have hn7 : n ≤ 7 := by omega
  have HN : Hid (vs.length = n) := hn
  have HTR : Hid (TrI w w1 b lv vs subs) := htr
  subst hlv
  have HL2 : Hid (vs.length = subs.length) := hlen2
  clear HT hsubs htr hn hlen2 hlen h
  go_wp2_with fail
  go_loopg [5, 6, 13] n (fun gk s5 s6 s13 wr => ∃ k : Nat, gk + k = n ∧ s13 = .int .i64 k ∧ BestI w w1 wr b (.slice a n c) l wide k s5 s6)
  case atStart => exact ⟨0, rfl, rfl, grown_refl _ _, .inl ⟨rfl, rfl, rfl⟩⟩
  case round =>
    obtain ⟨k, hgk, rfl, hgr, hbest⟩ := hrel
    by_cases hlt : k < n
    · have hkv : k < vs.length := by rw [HN.out]; exact hlt
      have hks : k < subs.length := by rw [← HL2.out]; exact hkv
      obtain ⟨sv, hsv⟩ : ∃ sv, vs[k]? = some sv := ⟨_, List.getElem?_eq_getElem hkv⟩
      obtain ⟨s, hss⟩ : ∃ s, subs[k]? = some s := ⟨_, List.getElem?_eq_getElem hks⟩
      have hES := HTR.out.each k sv s hsv hss
      obtain ⟨g, cp, hform, hbg, hgl⟩ := World.ownsRow.form HTR.out.row (by omega)
      injection hform with hf1 hf2 hf3
      have hck : w1.cell? ⟨g, k, none⟩ = some sv := by
        have h1 := HTR.out.row
        rw [hf1, HN.out] at h1
        rw [World.ownsRow.cellAt h1 k (by omega)]
        exact hsv
      subst hf1
      have hcr : wr.cell? ⟨g, k, none⟩ = some sv := hgr.cell hck (by simp)
      have hESr := hES.kp (Kp.ofNone (S := fun _ => False) hgr) (fun _ _ e => e)
      have hsm : ESmall s := hsmall s (List.mem_of_getElem? hss)
      obtain ⟨w2, hw2⟩ : ∃ w2, wr.alloc (.cells #[.slice none 0 0, .int .i64 0] 125) = w2 := ⟨_, rfl⟩
      have hg2 : wr.grownBy w2 none := by rw [← hw2]; exact grown_alloc (grown_refl _ _) _
      have hs2 : w2.heap.size = wr.heap.size + 1 := by rw [← hw2]; simp
      have hW2 := WrS.start wr
      rw [hw2] at hW2
      have hES2 := (hESr.mono (D' := fun q => DT w b (.slice (some ⟨g, 0, none⟩) n c) q ∧ q < wr.heap.size) (fun q hq hl => ⟨hq, hl⟩)).kp (Kp.ofNone (S := fun _ => False) hg2) (fun _ _ e => e)
      have HWS := qwsub w2 wr.heap.size (wr.heap.size + 1) (.slice none 0 0) sv [] _ s wide hW2 (by omega) (by simp) hw hsm hES2 (fun q hq => ⟨by omega, by omega, by simp [Value.ownBlock]⟩)
      have HW2 : Hid (wr.alloc (.cells #[.slice none 0 0, .int .i64 0] 125) = w2) := hw2
      have HG2 : Hid (wr.grownBy w2 none) := hg2
      have HS2 : Hid (w2.heap.size = wr.heap.size + 1) := hs2
      obtain ⟨cs, hcs⟩ : ∃ cs, subCost wide s = cs := ⟨_, rfl⟩
      have HCS : Hid (subCost wide s = cs) := hcs
      have hcs2 : ([] ++ subBits wide s).length = cs := by rw [← hcs]; rfl
      have HSS : Hid (subs[k]? = some s) := hss
      obtain ⟨gw, hgw⟩ : ∃ gw, wr.heap.size = gw := ⟨_, rfl⟩
      rw [hgw] at HWS
      have HGW : Hid (wr.heap.size = gw) := hgw
      have hkn : (k : Int) < (n : Int) := by omega
      have HESK : Hid (ESubV wr (DT w b (.slice (some ⟨g, 0, none⟩) n c)) sv s) := hESr
      have hfin : ∀ w3 v3, Wrote w2 w3 gw (.slice none 0 0) v3 → wr.grownBy w3 none := by
        intro w3 v3 hwr3
        have h1 : Kp wr w3 (fun b => b = gw ∨ (Value.slice none 0 0).ownBlock = some b) := (Kp.ofNone hg2).trans hwr3.kp (fun b hb => .inl hb)
        refine h1.grown (fun b hb => ?_)
        rcases hb with hb | hb
        · omega
        · cases hb
      have HFIN : Hid _ := hfin
      clear hW2 hES2 hES hESr hsm hss hsv hck hg2 hw2 hs2 hcs hgw hfin hf2 hf3
      rcases hbest with ⟨rfl, rfl, rfl⟩ | ⟨j, s0, rfl, hs0, hE0, rfl⟩
      · have hs : s = .plain l := by
          have h1 := HSS.out
          rw [← HSUBS.out] at h1
          injection h1 with h1
          exact h1.symm
        have hq := eqn_yes
        go_upto_region 7 with fail
        rw [HW2.out, HGW.out]
        go_wp2_with fail
        refine HWS.mono ?_
        rintro e w3 ⟨rfl, v3, hS3, hwr3⟩
        have hg3 := HFIN.out w3 v3 hwr3
        have HB := qwbits w3 gw (gw + 1) v3 _ hS3
        rw [hcs2] at HB
        clear HW2 HGW HWS hS3 hcs2
        go_wp2_with (go_at_call 105; refine HB.mono ?_; rintro e w4 ⟨rfl, rfl⟩)
        go_roundg (gk - 1)
        case measure => omega
        case rel => exact ⟨1, by omega, by go_num, grown_trans hgr hg3, .inr ⟨0, s, rfl, hs, HESK.out.kp (Kp.ofNone (S := fun _ => False) hg3) (fun _ _ e => e), by rw [HCS.out]⟩⟩
      · have hsj : (others l)[j]? = some s := by
          have h1 := HSS.out
          rw [← HSUBS.out] at h1
          exact h1
        have hnew : pickBest (subCost wide) (.plain l) ((others l).take (j + 1)) = if cs < subCost wide s0 then s else s0 := by
          rw [take_snoc_get _ _ _ hsj, pickBest_snoc, HCS.out, ← hs0]
        obtain ⟨c0, hc0⟩ : ∃ c0, subCost wide s0 = c0 := ⟨_, rfl⟩
        rw [hc0] at hnew
        rw [hc0]
        have HC0 : Hid (subCost wide s0 = c0) := hc0
        have HNEW : Hid _ := hnew
        obtain ⟨t0, v0, rfl⟩ := hE0.iface
        have hq := eqn_no t0 v0
        have HE0 : Hid (ESubV wr (DT w b (.slice (some ⟨g, 0, none⟩) n c)) (.iface t0 v0) s0) := hE0
        clear hsj hnew hc0 hE0 hs0
        go_upto_region 7 with fail
        rw [HW2.out, HGW.out]
        go_wp2_with fail
        refine HWS.mono ?_
        rintro e w3 ⟨rfl, v3, hS3, hwr3⟩
        have hg3 := HFIN.out w3 v3 hwr3
        have HB := qwbits w3 gw (gw + 1) v3 _ hS3
        rw [hcs2] at HB
        clear HW2 HGW HWS hS3 hcs2
        by_cases hcc : cs < c0
        · have tc : decide ((cs : Int) < (c0 : Int)) = true := decide_eq_true (by omega)
          go_wp2_with (go_at_call 105; refine HB.mono ?_; rintro e w4 ⟨rfl, rfl⟩)
          go_roundg (gk - 1)
          case measure => omega
          case rel => exact ⟨j + 1 + 1, by omega, by go_num, grown_trans hgr hg3, .inr ⟨j + 1, s, rfl, by rw [HNEW.out, if_pos hcc], HESK.out.kp (Kp.ofNone (S := fun _ => False) hg3) (fun _ _ e => e), by rw [HCS.out]⟩⟩
        · have tc : decide ((cs : Int) < (c0 : Int)) = false := decide_eq_false (by omega)
          go_wp2_with (go_at_call 105; refine HB.mono ?_; rintro e w4 ⟨rfl, rfl⟩)
          go_roundg (gk - 1)
          case measure => omega
          case rel => exact ⟨j + 1 + 1, by omega, by go_num, grown_trans hgr hg3, .inr ⟨j + 1, s0, rfl, by rw [HNEW.out, if_neg hcc], HE0.out.kp (Kp.ofNone (S := fun _ => False) hg3) (fun _ _ e => e), by rw [HC0.out]⟩⟩
    · have hkn : k = n := by omega
      subst hkn
      rcases hbest with ⟨h0, _⟩ | ⟨j, s0, hj, hs0, hE0, rfl⟩
      · have h1 := HL2.out
        have h2 := HN.out
        rw [← HSUBS.out, List.length_cons] at h1
        omega
      · have hall : s0 = shortest wide l := by
          rw [hs0]
          unfold shortest
          rw [List.take_of_length_le]
          have h1 := HL2.out
          have h2 := HN.out
          rw [← HSUBS.out, List.length_cons] at h1
          omega
        rw [hall] at hE0
        have hpost : ShortPost w b (shortest wide l) (.returned u5) wr := ⟨u5, rfl, grown_trans HTR.out.grow hgr, hE0.mono (fun q hq _ => hq.1)⟩
        clear hE0 hall hs0 hj hgk hgr
        go_wp2
        exact bodyPost_ret (v := u5) (by simp [results, Try.results76, go_sem]) rfl hpost
end Go.Proofs.Ytncmgnmcggkhnaa
