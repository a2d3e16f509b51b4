import Derived.Test.YtncmgnmcggkhnaaGreatGZ18
import Derived.Test.YtncmgnmcggkhnaaGreatGZ08
import Derived.Test.YtncmgnmcggkhnaaGreatGZ07
import Derived.Deep.LoopGhost
import Derived.Deep.RegionLaw
import Derived.Deep.AppendLies
namespace Go.Proofs.YtncmgnmcggkhnaaGreat
open Go.RowKit

theorem miss_get (fs : List Int) : ∀ (xs acc : List Int) (i : Nat), i < xs.length → (miss fs acc xs).getD i 0 = xs.getD i 0 - dot fs ((xs.take i).reverse ++ acc)
  | [], _, _, h => by simp at h
  | x :: xs, acc, 0, _ => by simp [miss]
  | x :: xs, acc, i + 1, h => by
    have := miss_get fs xs (x :: acc) i (by simpa using h)
    simp only [miss, List.getD_cons_succ, List.take_succ_cons, List.reverse_cons, List.append_assoc, List.singleton_append]
    exact this

theorem miss_at (fs xs : List Int) (o i : Nat) (h : o + i < xs.length) : (miss fs (xs.take o).reverse (xs.drop o)).getD i 0 = xs.getD (o + i) 0 - dot fs (xs.take (o + i)).reverse := by
  rw [miss_get fs (xs.drop o) (xs.take o).reverse i (by rw [List.length_drop]; omega)]
  have e1 : (xs.drop o).getD i 0 = xs.getD (o + i) 0 := by simp [List.getD, List.getElem?_drop]
  have e2 : ((xs.drop o).take i).reverse ++ (xs.take o).reverse = (xs.take (o + i)).reverse := by
    rw [← List.reverse_append, List.take_add]
  rw [e1, e2]

def MissPost (w : World) (R : List Int) (e : Ending) (w' : World) : Prop := ∃ g, e = .returned (.slice (some ⟨g, 0, none⟩) R.length R.length) ∧ Row w' w.heap.size g R.length R.length R ∧ w.grownBy w' none

set_option maxHeartbeats 2000000 in
set_option maxRecDepth 20000 in
theorem qmissing (w : World) (b off cap : Nat) (xs : List Int) (o : Nat) (ho : o ≤ 4) (hol : o ≤ xs.length) (hxl : xs.length ≤ 256) (hcap : xs.length ≤ cap) (hab : Abs 65536 xs) (hc : ∀ i, i < xs.length → w.cell? ⟨b, off + i, none⟩ = some (.int .i64 (xs.getD i 0))) :
    Calls Tryz.prog 78 #[.slice (some ⟨b, off, none⟩) xs.length cap, .int .i64 o] w (MissPost w (miss (fixedFactors o) (xs.take o).reverse (xs.drop o))) := by
  obtain ⟨i0, hi, hz0, hz1, hz2⟩ := info_parts Tryz.info3
  have HFA := qfactors w o ho
  obtain ⟨hfa, hfl⟩ := fixed_abs2 o ho
  obtain ⟨n, hn⟩ : ∃ n, xs.length - o = n := ⟨_, rfl⟩
  have hnz : (xs.length : Int) - (o : Int) = (n : Int) := by omega
  obtain ⟨M, hM⟩ : ∃ M, miss (fixedFactors o) (xs.take o).reverse (xs.drop o) = M := ⟨_, rfl⟩
  have hMl : M.length = n := by rw [← hM, miss_length, List.length_drop]; exact hn
  have HMAT : Hid (∀ i, i < n → M.getD i 0 = xs.getD (o + i) 0 - dot (fixedFactors o) (xs.take (o + i)).reverse) := fun i hi => by rw [← hM]; exact miss_at _ _ _ _ (by omega)
  rw [hM]
  have HML : Hid (M.length = n) := hMl
  clear hM hMl
  go_enter Tryz.func78, Tryz.ntmps78
  go_wp2_with fail
  refine HFA.mono ?_
  rintro e w1 ⟨vf, rfl, hlf, hg1⟩
  obtain ⟨af, cf, rfl⟩ := hlf.slice
  have hc1 : ∀ i, i < xs.length → w1.cell? ⟨b, off + i, none⟩ = some (.int .i64 (xs.getD i 0)) := fun i hi => hg1.cell (hc i hi) (by simp)
  have HN : Hid (xs.length - o = n) := hn
  have HFL : Hid ((fixedFactors o).length = o) := hfl
  clear HFA hn hfl
  go_wp2_with (first
    | (at_make; refine wpList_make_full _ rfl _ _ 22 rfl w.heap.size 3 i0 (.int .i64 0) 1 Tryz.underlying22 hi hz0 hz1 _ _ _ _ n rfl rfl rfl rfl ?m1 ?m2 ?m3 ?_))
  case m1 => rw [hz2]; omega
  case m2 => unfold maxLen; omega
  case m3 => exact hg1.size
  intro w2 hmade hg2
  have hrow2 := made_row hmade
  obtain ⟨g, hg⟩ : ∃ g, w1.heap.size = g := ⟨_, rfl⟩
  rw [hg] at hrow2
  rw [hg]
  have hwg : w.heap.size ≤ g := by rw [← hg]; exact hg1.size
  have HG : Hid (w1.heap.size = g) := hg
  have HFAB : Hid (Abs 32768 (fixedFactors o)) := hfa
  clear hmade hi hz0 hz1 hz2 hc hg hfa
  go_wp2_with fail
  go_loopg [18] n (fun gk t18 wr => ∃ k : Nat, gk + k = n ∧ t18 = .int .i64 k ∧ w1.grownBy wr none ∧ Row wr w.heap.size g n n (fill n (M.take k)))
  case atStart => exact ⟨0, rfl, rfl, hg2, hrow2⟩
  case round =>
    clear hrow2 hg2
    obtain ⟨k, hgk, rfl, hgr, hrow⟩ := hrel
    by_cases hlt : k < n
    · obtain ⟨p, hp⟩ : ∃ p, o + k = p := ⟨_, rfl⟩
      have hpz : (o : Int) + (k : Int) = (p : Int) := by omega
      have hpl : p < xs.length := by have := HN.out; omega
      have hMk := HMAT.out k hlt
      rw [hp] at hMk
      obtain ⟨y, hy⟩ : ∃ y, xs.getD p 0 = y := ⟨_, rfl⟩
      have hyb := hab.get (by omega) p
      have hcp : wr.cell? ⟨b, off + p, none⟩ = some (.int .i64 y) := by rw [← hy]; exact hgr.cell (hc1 p hpl) (by simp)
      rw [hy] at hMk hyb
      have hlo : Lo wr.drew (.slice (some ⟨b, off, none⟩) p cap) (xs.take p) := by
        have hlp : (xs.take p).length = p := by rw [List.length_take]; omega
        refine .inr ⟨b, off, cap, by rw [hlp], fun i hi => ?_⟩
        rw [hlp] at hi
        have e : (xs.take p).getD i 0 = xs.getD i 0 := by simp [List.getD, hi]
        rw [e]
        exact hgr.cell (hc1 i (by omega)) (by simp)
      have hlfr : Lo wr.drew (.slice af (fixedFactors o).length cf) (fixedFactors o) := hlf.kept (grown_drew hgr)
      have HT : Calls _ _ #[_, _, .int .i64 0] _ _ := qtell wr.drew _ _ (xs.take p) (fixedFactors o) 0 (by omega) (by rw [HFL.out, List.length_take]; omega) (by rw [List.length_take]; omega) hlo hlfr
      have habp : Abs 65536 (xs.take p) := fun x hx => hab x (List.mem_of_mem_take hx)
      obtain ⟨z, hz⟩ : ∃ z, dot (fixedFactors o) (xs.take p).reverse = z := ⟨_, rfl⟩
      have hzb := dot_div_bound (fixedFactors o) (xs.take p) 0 habp HFAB.out (by rw [HFL.out]; omega)
      have hz0 : dot (fixedFactors o) (xs.take p).reverse / 2 ^ 0 = z := by rw [hz]; show z / 1 = z; omega
      rw [hz0] at hzb
      rw [hz] at hMk
      have HZX : ∀ x : Int, (Abs 65536 (xs.take p) → Abs 32768 (fixedFactors o) → (fixedFactors o).length ≤ 8 → x = dot (fixedFactors o) (xs.take p).reverse / 2 ^ 0) → x = z := fun x hx => by rw [hx habp HFAB.out (by rw [HFL.out]; omega), hz0]
      have hset : ∀ wq : World, wq.ownsRow w.heap.size 3 1 (.slice (some ⟨g, 0, none⟩) n n) n ((fill n (M.take k)).map (Value.int .i64)) → Row (wq.setCell ⟨g, k, none⟩ (.int .i64 (y - z))) w.heap.size g n n (fill n (M.take (k + 1))) := by
        intro wq hq
        have h1 := Row.stored (show Row wq w.heap.size g n n (fill n (M.take k)) from hq) k (y - z)
        have hk' : (M.take k).length = k := by rw [List.length_take, HML.out]; omega
        have h2 := fill_set n (M.take k) (y - z) (by omega)
        rw [hk'] at h2
        rw [h2] at h1
        rw [take_succ_getD M k (by rw [HML.out]; exact hlt), hMk]
        exact h1
      have HSET : Hid _ := hset
      have hyz : wrap64 (y - z) = y - z := by unfold wrap64; omega
      have hlt2 : (k : Int) < (n : Int) := by omega
      have fz := hrow.fz k
      have hck : wr.cell? ⟨g, k, none⟩ = some (.int .i64 ((fill n (M.take k)).getD k 0)) := hrow.cell k hlt
      have hpc : (p : Int) ≤ (cap : Int) := by omega
      have hpl2 : (p : Int) < (xs.length : Int) := by omega
      have HROW : Hid (Row wr w.heap.size g n n (fill n (M.take k))) := hrow
      have HGR : Hid (w1.grownBy wr none) := hgr
      clear hp hMk hy hz hz0 hset hlo hlfr hrow hgr hc1 habp
      go_upto_region 7 with fail
      go_region_with (first
        | (go_at_call 84; refine HT.mono ?_; rintro e w4 ⟨x, rfl, rfl, hx⟩; obtain rfl := HZX x hx))
      all_goals
        go_wp2
        go_roundg (gk - 1)
        case measure => omega
        case rel => exact ⟨k + 1, by omega, by go_num, grown_drew (grown_new HGR.out (grown_set _ _ _ _) (fun q e => by injection e with e; have := HG.out; omega)), HSET.out wr HROW.out⟩
    · have hkn : k = n := by omega
      have hfull : fill n (M.take k) = M := by rw [hkn, List.take_of_length_le (by rw [HML.out]; exact Nat.le_refl _), fill_full n M HML.out]
      rw [hfull] at hrow
      have tk : decide ((k : Int) < (n : Int)) = false := decide_eq_false (by omega)
      have hpost : MissPost w M (.returned (.slice (some ⟨g, 0, none⟩) n n)) wr := ⟨g, by rw [HML.out], by rw [HML.out]; exact hrow, grown_trans hg1 hgr⟩
      clear hkn hfull hrow hgr hgk hc1
      go_wp2
      exact bodyPost_ret (v := .slice (some ⟨g, 0, none⟩) n n) (by simp [results, Tryz.results78, go_sem]) rfl hpost
end Go.Proofs.YtncmgnmcggkhnaaGreat

namespace Go.Proofs.YtncmgnmcggkhnaaGreat
open Go.RowKit

def maxOf (xs : List Int) : Int := xs.tail.foldl max (xs.headD 0)
def minOf (xs : List Int) : Int := xs.tail.foldl min (xs.headD 0)

theorem maxOf_take (xs : List Int) (k : Nat) (h1 : 1 ≤ k) (h : k < xs.length) : maxOf (xs.take (k + 1)) = max (maxOf (xs.take k)) (xs.getD k 0) := by
  cases xs with
  | nil => simp at h
  | cons a l =>
    obtain ⟨j, rfl⟩ : ∃ j, k = j + 1 := ⟨k - 1, by omega⟩
    have hj : j < l.length := by simpa using h
    unfold maxOf
    rw [List.take_succ_cons, List.take_succ_cons, List.tail_cons, List.tail_cons, List.take_succ_eq_append_getElem hj, List.foldl_append]
    simp [List.getD, hj]
theorem minOf_take (xs : List Int) (k : Nat) (h1 : 1 ≤ k) (h : k < xs.length) : minOf (xs.take (k + 1)) = min (minOf (xs.take k)) (xs.getD k 0) := by
  cases xs with
  | nil => simp at h
  | cons a l =>
    obtain ⟨j, rfl⟩ : ∃ j, k = j + 1 := ⟨k - 1, by omega⟩
    have hj : j < l.length := by simpa using h
    unfold minOf
    rw [List.take_succ_cons, List.take_succ_cons, List.tail_cons, List.tail_cons, List.take_succ_eq_append_getElem hj, List.foldl_append]
    simp [List.getD, hj]

theorem foldl_max_ge : ∀ (l : List Int) (a : Int), a ≤ l.foldl max a ∧ ∀ x ∈ l, x ≤ l.foldl max a
  | [], a => ⟨Int.le_refl _, fun x hx => by simp at hx⟩
  | y :: l, a => by
    obtain ⟨h1, h2⟩ := foldl_max_ge l (max a y)
    rw [List.foldl_cons]
    refine ⟨by omega, fun x hx => ?_⟩
    rcases List.mem_cons.1 hx with rfl | hx
    · omega
    · exact h2 x hx
theorem foldl_min_le : ∀ (l : List Int) (a : Int), l.foldl min a ≤ a ∧ ∀ x ∈ l, l.foldl min a ≤ x
  | [], a => ⟨Int.le_refl _, fun x hx => by simp at hx⟩
  | y :: l, a => by
    obtain ⟨h1, h2⟩ := foldl_min_le l (min a y)
    rw [List.foldl_cons]
    refine ⟨by omega, fun x hx => ?_⟩
    rcases List.mem_cons.1 hx with rfl | hx
    · omega
    · exact h2 x hx
theorem foldl_same : ∀ (l : List Int) (a : Int), (∀ x ∈ l, x = a) → l.foldl max a = a ∧ l.foldl min a = a
  | [], a, _ => ⟨rfl, rfl⟩
  | y :: l, a, h => by
    have := h y (by simp)
    subst this
    have := foldl_same l y (fun x hx => h x (by simp [hx]))
    rw [List.foldl_cons, List.foldl_cons, Int.max_self, Int.min_self]
    exact this

/-- the greatest is the least: all are alike -/
theorem max_eq_min (xs : List Int) : (maxOf xs == minOf xs) = xs.all (fun x => x == xs.headD 0) := by
  rw [Bool.eq_iff_iff, List.all_eq_true]
  cases xs with
  | nil => simp [maxOf, minOf]
  | cons a l =>
    unfold maxOf minOf
    rw [List.tail_cons, List.headD_cons]
    have h1 := foldl_max_ge l a
    have h2 := foldl_min_le l a
    constructor
    · intro e x hx
      have e' : l.foldl max a = l.foldl min a := by simpa using e
      rcases List.mem_cons.1 hx with rfl | hx
      · simp
      · have := h1.2 x hx
        have := h2.2 x hx
        have : x = a := by omega
        simp [this]
    · intro h
      have := foldl_same l a (fun x hx => by have := h x (by simp [hx]); simpa using this)
      rw [this.1, this.2]
      simp

set_option maxHeartbeats 1000000 in
set_option maxRecDepth 20000 in
theorem qmax (w : World) (v : Value) (xs : List Int) (h : Lo w v xs) (hl : xs.length ≤ 4096) (hne : 1 ≤ xs.length) :
    Calls Tryz.prog 76 #[v] w fun e w' => e = .returned (.int .i64 (maxOf xs)) ∧ w' = w := by
  obtain ⟨a, c, rfl⟩ := h.slice
  obtain ⟨b0, o0, rfl, hc0⟩ := h.at 0 (by omega)
  have t1 : decide ((xs.length : Int) < 1) = false := decide_eq_false (by omega)
  have h00 : maxOf (xs.take 1) = xs.getD 0 0 := by cases xs <;> simp [maxOf]
  obtain ⟨x0, hx0⟩ : ∃ x0, xs.getD 0 0 = x0 := ⟨_, rfl⟩
  rw [Nat.add_zero, hx0] at hc0
  rw [hx0] at h00
  have H00 : Hid (maxOf (xs.take 1) = x0) := h00
  have hp0 : (0 : Int) < (xs.length : Int) := by omega
  clear h00 hx0
  go_enter Tryz.func76, Tryz.ntmps76
  go_wp2_with fail
  go_loopg [3, 4] (xs.length - 1) (fun gk t3 t4 wr => ∃ k : Nat, 1 ≤ k ∧ gk + k = xs.length ∧ t4 = .int .i64 k ∧ t3 = .int .i64 (maxOf (xs.take k)) ∧ wr = w)
  case atStart => exact ⟨1, Nat.le_refl _, by omega, rfl, by rw [H00.out], rfl⟩
  case round =>
    obtain ⟨k, hk1, hgk, rfl, rfl, rfl⟩ := hrel
    by_cases hlt : k < xs.length
    · obtain ⟨bb, oo, hbo, hcell⟩ := h.at k hlt
      injection hbo with hbo
      injection hbo with e1 e2 _
      subst e1 e2
      have hnext := maxOf_take xs k hk1 hlt
      obtain ⟨x, hx⟩ : ∃ x, xs.getD k 0 = x := ⟨_, rfl⟩
      obtain ⟨m, hm⟩ : ∃ m, maxOf (xs.take k) = m := ⟨_, rfl⟩
      rw [hx] at hcell hnext
      rw [hm] at hnext ⊢
      have HNEXT : Hid (maxOf (xs.take (k + 1)) = max m x) := hnext
      have tk : decide ((k : Int) < (xs.length : Int)) = true := decide_eq_true (by omega)
      clear hnext hx hm
      go_wp2_with fail
      all_goals
        go_roundg (gk - 1)
        case measure => omega
        case rel => exact ⟨k + 1, by omega, by omega, by go_num, by rw [HNEXT.out]; congr 1; omega, rfl⟩
    · have hkn : k = xs.length := by omega
      subst hkn
      rw [List.take_length]
      clear hgk
      go_wp2
      go_ret
      exact ⟨rfl, rfl⟩

set_option maxHeartbeats 1000000 in
set_option maxRecDepth 20000 in
theorem qmin (w : World) (v : Value) (xs : List Int) (h : Lo w v xs) (hl : xs.length ≤ 4096) (hne : 1 ≤ xs.length) :
    Calls Tryz.prog 77 #[v] w fun e w' => e = .returned (.int .i64 (minOf xs)) ∧ w' = w := by
  obtain ⟨a, c, rfl⟩ := h.slice
  obtain ⟨b0, o0, rfl, hc0⟩ := h.at 0 (by omega)
  have t1 : decide ((xs.length : Int) < 1) = false := decide_eq_false (by omega)
  have h00 : minOf (xs.take 1) = xs.getD 0 0 := by cases xs <;> simp [minOf]
  obtain ⟨x0, hx0⟩ : ∃ x0, xs.getD 0 0 = x0 := ⟨_, rfl⟩
  rw [Nat.add_zero, hx0] at hc0
  rw [hx0] at h00
  have H00 : Hid (minOf (xs.take 1) = x0) := h00
  have hp0 : (0 : Int) < (xs.length : Int) := by omega
  clear h00 hx0
  go_enter Tryz.func77, Tryz.ntmps77
  go_wp2_with fail
  go_loopg [3, 4] (xs.length - 1) (fun gk t3 t4 wr => ∃ k : Nat, 1 ≤ k ∧ gk + k = xs.length ∧ t4 = .int .i64 k ∧ t3 = .int .i64 (minOf (xs.take k)) ∧ wr = w)
  case atStart => exact ⟨1, Nat.le_refl _, by omega, rfl, by rw [H00.out], rfl⟩
  case round =>
    obtain ⟨k, hk1, hgk, rfl, rfl, rfl⟩ := hrel
    by_cases hlt : k < xs.length
    · obtain ⟨bb, oo, hbo, hcell⟩ := h.at k hlt
      injection hbo with hbo
      injection hbo with e1 e2 _
      subst e1 e2
      have hnext := minOf_take xs k hk1 hlt
      obtain ⟨x, hx⟩ : ∃ x, xs.getD k 0 = x := ⟨_, rfl⟩
      obtain ⟨m, hm⟩ : ∃ m, minOf (xs.take k) = m := ⟨_, rfl⟩
      rw [hx] at hcell hnext
      rw [hm] at hnext ⊢
      have HNEXT : Hid (minOf (xs.take (k + 1)) = min m x) := hnext
      have tk : decide ((k : Int) < (xs.length : Int)) = true := decide_eq_true (by omega)
      clear hnext hx hm
      go_wp2_with fail
      all_goals
        go_roundg (gk - 1)
        case measure => omega
        case rel => exact ⟨k + 1, by omega, by omega, by go_num, by rw [HNEXT.out]; congr 1; omega, rfl⟩
    · have hkn : k = xs.length := by omega
      subst hkn
      rw [List.take_length]
      clear hgk
      go_wp2
      go_ret
      exact ⟨rfl, rfl⟩
end Go.Proofs.YtncmgnmcggkhnaaGreat

namespace Go.Proofs.YtncmgnmcggkhnaaGreat
open Go.RowKit

theorem infoSubf : (Tryz.prog.info? 93).map (fun i => (i.zero, i.size, i.bytes)) = some (some .nilIface, 1, 16) := by kernel_rfl
theorem undSubf : Tryz.prog.underlying 127 = some (.slice 93) := by kernel_rfl

/-- blocks of what is tried: the samples' own, and new ones but the list's -/
def DT (w : World) (b : Nat) (lv : Value) (q : Nat) : Prop := (q = b ∨ w.heap.size ≤ q) ∧ lv.ownBlock ≠ some q

structure TrI (w wr : World) (b : Nat) (lv : Value) (vs : List Value) (subs : List ESub) : Prop where
  grow : w.grownBy wr none
  row : wr.ownsRow w.heap.size 93 1 lv vs.length vs
  len : vs.length = subs.length
  each : ∀ (i : Nat) (v : Value) (s : ESub), vs[i]? = some v → subs[i]? = some s → ESubV wr (DT w b lv) v s

theorem TrI.snoc {w wr w3 w4 : World} {b g cap H : Nat} {lv v : Value} {vs : List Value} {subs : List ESub} {s : ESub} (h : TrI w wr b lv vs subs) (hg3 : wr.grownBy w3 none) (hv : ESubV w3 (DT w b lv) v s)
    (happ : w3.grownBy w4 lv.ownBlock) (hrow : w4.ownsRow w.heap.size 93 1 (.slice (some ⟨g, 0, none⟩) (vs.length + 1) cap) (vs.length + 1) (vs ++ [v])) (hat : lv.ownBlock = some g ∨ g = H) (hH : w3.heap.size ≤ H) :
    TrI w w4 b (.slice (some ⟨g, 0, none⟩) (vs.length + 1) cap) (vs ++ [v]) (subs ++ [s]) := by
  have hlt : ∀ q, lv.ownBlock = some q → w.heap.size ≤ q := fun q hq => (World.ownsRow.lt h.row q hq).1
  have key : ∀ (u : Value) (t : ESub), ESubV w3 (DT w b lv) u t → ESubV w4 (DT w b (.slice (some ⟨g, 0, none⟩) (vs.length + 1) cap)) u t := by
    intro u t hu
    have h1 : ESubV w3 (fun q => DT w b lv q ∧ q ≠ g) u t := hu.mono (fun q hq hl => ⟨hq, fun e => by
      subst e
      rcases hat with e | e
      · exact hq.2 e
      · omega⟩)
    have h2 := h1.kp (Kp.of happ) (fun q hq e => hq.1.2 e.symm)
    exact h2.mono (fun q hq _ => ⟨hq.1.1, fun e => hq.2 (by
      have e' : g = q := by simpa [Value.ownBlock] using e
      exact e'.symm)⟩)
  refine ⟨grown_new (grown_trans h.grow hg3) happ (fun q e => hlt q e), by rw [List.length_append, List.length_singleton]; exact hrow, by rw [List.length_append, List.length_append, h.len]; rfl, ?_⟩
  intro i u t hu ht
  rcases Nat.lt_or_ge i vs.length with hi | hi
  · rw [List.getElem?_append_left hi] at hu
    rw [List.getElem?_append_left (by rw [← h.len]; exact hi)] at ht
    exact key u t ((h.each i u t hu ht).kp (Kp.ofNone (S := fun _ => False) hg3) (fun _ _ e => e))
  · rw [List.getElem?_append_right hi] at hu
    rw [List.getElem?_append_right (by rw [← h.len]; exact hi), ← h.len] at ht
    cases hj : i - vs.length with
    | zero =>
      rw [hj] at hu ht
      injection hu with hu
      injection ht with ht
      subst hu
      subst ht
      exact key _ _ hv
    | succ j => rw [hj] at hu; simp at hu

/-- samples in memory -/
structure SmpIn (w : World) (b off cap : Nat) (l : List Int) : Prop where
  len : 1 ≤ l.length ∧ l.length ≤ 256
  cap : l.length ≤ cap
  lt : b < w.heap.size
  cells : ∀ i, i < l.length → w.cell? ⟨b, off + i, none⟩ = some (.int .i64 (l.getD i 0))
  small : Abs 32768 l

theorem SmpIn.kept {w w' : World} {b off cap : Nat} {l : List Int} (h : SmpIn w b off cap l) (hg : w.grownBy w' none) : SmpIn w' b off cap l :=
  ⟨h.len, h.cap, Nat.lt_of_lt_of_le h.lt hg.size, fun i hi => hg.cell (h.cells i hi) (by simp), h.small⟩

theorem SmpIn.lod {w : World} {b off cap o : Nat} {l : List Int} {D : Nat → Prop} (h : SmpIn w b off cap l) (ho : o ≤ l.length) (hD : D b) : LoD w D (.slice (some ⟨b, off, none⟩) o cap) (l.take o) := by
  have hl : (l.take o).length = o := by rw [List.length_take]; omega
  refine .inr ⟨b, off, cap, by rw [hl], hD, h.lt, fun i hi => ?_⟩
  rw [hl] at hi
  have e : (l.take o).getD i 0 = l.getD i 0 := by simp [List.getD, hi]
  rw [e]
  exact h.cells i (by omega)

theorem SmpIn.all {w : World} {b off cap : Nat} {l : List Int} {D : Nat → Prop} (h : SmpIn w b off cap l) (hD : D b) : LoD w D (.slice (some ⟨b, off, none⟩) l.length cap) l := by
  have := h.lod (o := l.length) (Nat.le_refl _) hD
  rwa [List.take_length] at this

/-- the row of one new list, as an element -/
theorem tr_start {w w1 : World} {b off cap : Nat} {l : List Int} (h : SmpIn w b off cap l) (hw1 : w.alloc (.cells #[.iface 122 (.agg #[.slice (some ⟨b, off, none⟩) l.length cap])] 93) = w1) :
    TrI w w1 b (.slice (some ⟨w.heap.size, 0, none⟩) 1 1) [.iface 122 (.agg #[.slice (some ⟨b, off, none⟩) l.length cap])] [.plain l] := by
  have hg : w.grownBy w1 none := by rw [← hw1]; exact grown_alloc (grown_refl _ _) _
  refine ⟨hg, ⟨rfl, .inr ⟨w.heap.size, 1, #[.iface 122 (.agg #[.slice (some ⟨b, off, none⟩) l.length cap])], rfl, Nat.le_refl _, by rw [← hw1]; exact Box.new _ _ _, Nat.le_refl _, by unfold maxLen; omega, rfl, rfl⟩⟩, rfl, fun i v s hv hs => ?_⟩
  cases i with
  | zero =>
    injection hv with hv
    injection hs with hs
    subst hv
    subst hs
    refine ⟨_, rfl, (h.kept hg).all ⟨.inl rfl, fun e => ?_⟩⟩
    have e' : w.heap.size = b := by simpa [Value.ownBlock] using e
    have := h.lt
    omega
  | succ i => simp at hv

theorem one_elem (w : World) (v : Value) (t : TypeId) : ∀ j u, [v][j]? = some u → (w.alloc (.cells #[v] t)).cell? ((⟨w.heap.size, 0, none⟩ : Addr).add j) = some u := by
  intro j u hj
  cases j with
  | zero => exact ((Box.new w #[v] t).cell 0).trans (by simpa using hj)
  | succ j => simp at hj
end Go.Proofs.YtncmgnmcggkhnaaGreat

namespace Go.Proofs.YtncmgnmcggkhnaaGreat
open Go.RowKit

def TriedPost (w : World) (b : Nat) (l : List Int) (e : Ending) (w' : World) : Prop :=
  ∃ lv vs, e = .returned lv ∧ TrI w w' b lv vs (.plain l :: others l)

theorem others_eq (l : List Int) (k : Nat) : (List.range (k + 1)).map (fixedOf l) = (List.range k).map (fixedOf l) ++ [fixedOf l k] := by
  rw [List.range_succ, List.map_append]; rfl

set_option maxHeartbeats 4000000 in
set_option maxRecDepth 20000 in
theorem qtried (w : World) (b off cap : Nat) (l : List Int) (h : SmpIn w b off cap l) :
    Calls Tryz.prog 61 #[.slice (some ⟨b, off, none⟩) l.length cap] w (TriedPost w b l) := by
  obtain ⟨i0, hi, hz0, hz1, hz2⟩ := info_parts infoSubf
  have HI : Hid _ := hi
  have HZ0 : Hid _ := hz0
  have HZ1 : Hid _ := hz1
  have HZ2 : Hid _ := hz2
  clear hi hz0 hz1 hz2
  obtain ⟨hn1, hn2⟩ := h.len
  obtain ⟨w1, hw1⟩ : ∃ w1, w.alloc (.cells #[.iface 122 (.agg #[.slice (some ⟨b, off, none⟩) l.length cap])] 93) = w1 := ⟨_, rfl⟩
  have htr1 := tr_start h hw1
  have h1 := h.kept htr1.grow
  have HMX := qmax w1 _ l (h1.all (D := fun _ => True) trivial).lo (by omega) hn1
  have HMN := qmin w1 _ l (h1.all (D := fun _ => True) trivial).lo (by omega) hn1
  have hmm := max_eq_min l
  obtain ⟨mx, hmx⟩ : ∃ mx, maxOf l = mx := ⟨_, rfl⟩
  obtain ⟨mn, hmn⟩ : ∃ mn, minOf l = mn := ⟨_, rfl⟩
  rw [hmx] at HMX hmm
  rw [hmn] at HMN hmm
  obtain ⟨x0, hx0⟩ : ∃ x0, l.getD 0 0 = x0 := ⟨_, rfl⟩
  have hh0 : l.headD 0 = x0 := by rw [← hx0]; cases l <;> rfl
  have hc0 : w1.cell? ⟨b, off, none⟩ = some (.int .i64 x0) := by have := h1.cells 0 (by omega); rw [hx0] at this; exact this
  have HAA : Hid (allAlike l = (mx == mn)) := by show _ = _; unfold allAlike; rw [hmm]
  have HH0 : Hid (l.headD 0 = x0) := hh0
  have HW1 : Hid (w.alloc (.cells #[.iface 122 (.agg #[.slice (some ⟨b, off, none⟩) l.length cap])] 93) = w1) := hw1
  have hs1 : w1.heap.size = w.heap.size + 1 := by rw [← hw1]; simp
  have HS1 : Hid (w1.heap.size = w.heap.size + 1) := hs1
  clear hmx hmn hx0 hh0 hmm hw1 hs1
  go_enter Tryz.func61, Tryz.ntmps61
  go_upto_region 2 with fail
  rw [HW1.out]
  clear HW1
  have hp0 : (0 : Int) < (l.length : Int) := by omega
  go_cut [13] (fun s13 wx => s13 = .bool (mx == mn) ∧ wx = w1)
  case first =>
    go_wp2_with (first
      | (go_at_call 76; refine HMX.mono ?_; rintro e w0 ⟨rfl, rfl⟩)
      | (go_at_call 77; refine HMN.mono ?_; rintro e w0 ⟨rfl, rfl⟩))
    go_meet
    case rel => exact ⟨rfl, rfl⟩
  case rest =>
  obtain ⟨rfl, rfl⟩ := hcut
  clear HMX HMN
  go_upto_if 13 with fail
  go_cut [3] (fun s3 wx => ∃ vs, TrI w wx b s3 vs (.plain l :: if allAlike l then [.alike (l.headD 0)] else []))
  case first =>
    cases hmm : (mx == mn) with
    | false =>
      have HF : Hid (allAlike l = false) := by show _ = _; rw [HAA.out, hmm]
      go_wp2
      go_meet
      case rel =>
        rw [HF.out]
        exact ⟨_, htr1⟩
    | true =>
      have HF : Hid (allAlike l = true) := by show _ = _; rw [HAA.out, hmm]
      have hg3 := grown_alloc (grown_refl wc none) (.cells #[.iface 118 (.agg #[.int .i64 x0])] 93)
      have HROW : Hid (wc.ownsRow w.heap.size 93 1 (.slice (some ⟨w.heap.size, 0, none⟩) 1 1) 1 [.iface 122 (.agg #[.slice (some ⟨b, off, none⟩) l.length cap])]) := htr1.row
      have HBS : Hid (w.heap.size ≤ wc.heap.size) := htr1.grow.size
      have HTR : Hid _ := htr1
      clear htr1
      go_wp2_with (first
        | (at_builtin; refine wpList_append_lies _ rfl _ _ 127 rfl w.heap.size 93 i0 .nilIface 1 16 undSubf HI.out HZ0.out HZ1.out HZ2.out rfl (by decide) (.slice (some ⟨w.heap.size, 0, none⟩) 1 1) 1 _ rfl (World.ownsRow.alloc HROW.out _) ⟨wc.heap.size, 0, none⟩ 1 1 [.iface 118 (.agg #[.int .i64 x0])] rfl rfl ?c1 ?c2 ?c6 ?c3 ?c4 ?c5 _ rfl ?_))
      case c1 => exact one_elem wc _ _
      case c2 => intro u hu; rw [List.mem_singleton.1 hu]; rfl
      case c6 => omega
      case c3 => unfold maxLen; omega
      case c4 => omega
      case c5 => have := HBS.out; simp; omega
      intro g cap' w4 hrow' hgrow hat hglt
      go_wp2
      go_meet
      case rel =>
        rw [HF.out, HH0.out]
        exact ⟨_, TrI.snoc HTR.out hg3 (v := .iface 118 (.agg #[.int .i64 x0])) (s := .alike x0) rfl hgrow hrow' hat (by simp)⟩
  case rest =>
    clear htr1 hc0 h1
    obtain ⟨vs1, htr⟩ := hcut
    obtain ⟨base1, hbase1⟩ : ∃ base1, (ESub.plain l :: if allAlike l then [.alike (l.headD 0)] else []) = base1 := ⟨_, rfl⟩
    rw [hbase1] at htr
    have hb2 : base1.length ≤ 2 := by rw [← hbase1]; split <;> simp
    have HOT : Hid (.plain l :: others l = base1 ++ (List.range (min 4 l.length + 1)).map (fixedOf l)) := by show _ = _; rw [← hbase1]; unfold others; rfl
    obtain ⟨m, hm⟩ : ∃ m, min 4 l.length + 1 = m := ⟨_, rfl⟩
    have hm5 : m ≤ 5 ∧ m ≤ l.length + 1 := by omega
    rw [hm] at HOT
    have hm1 : 1 ≤ m := by omega
    have HM : Hid (min 4 l.length + 1 = m) := hm
    clear hbase1 hm
    obtain ⟨wo, rfl⟩ : ∃ wo : World, wo = wc := ⟨_, rfl⟩
    go_upto_region 4 with fail
    go_cut [25, 26] (fun s25 s26 wx => s25 = .int .i64 m ∧ s26 = .int .i64 0 ∧ wx = wo)
    case first =>
      go_wp2
      all_goals
        go_meet
        case rel => exact ⟨by have := HM.out; congr 1; omega, rfl, rfl⟩
    case rest =>
    obtain ⟨rfl, rfl, rfl⟩ := hcut
    clear hp0 hn1
    have HH : Hid (SmpIn w b off cap l) := h
    have hHc := h.cap
    clear h
    go_wp2_with fail
    go_loopg [3, 26] m (fun gk s3 s26 wr => ∃ (k : Nat) (vs : List Value), gk + k = m ∧ s26 = .int .i64 k ∧ TrI w wr b s3 vs (base1 ++ (List.range k).map (fixedOf l)))
    case atStart => exact ⟨0, vs1, rfl, rfl, by simpa using htr⟩
    case round =>
      clear htr
      obtain ⟨k, vs, hgk, rfl, htr⟩ := hrel
      by_cases hlt : k < m
      · have hnv : vs.length = base1.length + k := by rw [htr.len, List.length_append, List.length_map, List.length_range]
        obtain ⟨a3, c3, hs3⟩ := row_slice htr.row
        subst hs3
        obtain ⟨n, hn⟩ : ∃ n, vs.length = n := ⟨_, rfl⟩
        have hn9 : n ≤ 7 := by omega
        have hsmp := HH.out.kept htr.grow
        have hsd := hsmp.kept (grown_drew (grown_refl wr none))
        have HMI := qmissing wr.drew b off cap l k (by omega) (by omega) hn2 hHc (fun x hx => by have := hsd.small x hx; omega) hsd.cells
        obtain ⟨R, hR⟩ : ∃ R, miss (fixedFactors k) (l.take k).reverse (l.drop k) = R := ⟨_, rfl⟩
        rw [hR] at HMI
        have HR : Hid (fixedOf l k = .fixed (l.take k) R) := by show _ = _; unfold fixedOf; rw [hR]
        rw [hn]
        have hkl : (k : Int) ≤ (cap : Int) := by omega
        have HTR : Hid (TrI w wr b (.slice a3 n c3) vs (base1 ++ (List.range k).map (fixedOf l))) := by rw [hn] at htr; exact htr
        have HN : Hid (vs.length = n) := hn
        have HOWN : Hid (∀ w4 o, wr.drew.grownBy w4 none → (w4.alloc o).ownsRow w.heap.size 93 1 (.slice a3 n c3) n vs) := by
          intro w4 o hg4
          have h1 := ownsRow_kp htr.row (Kp.ofNone (S := fun _ => False) (grown_trans (grown_drew (grown_refl wr none)) hg4)) (fun _ _ e => e)
          rw [hn] at h1
          exact World.ownsRow.alloc h1 o
        have HBASE : Hid (∀ (w4 : World) o, wr.drew.grownBy w4 none → w.heap.size ≤ (w4.alloc o).heap.size) := by
          intro w4 o hg4
          have h1 := Nat.le_trans htr.grow.size hg4.size
          exact Nat.le_trans h1 (by simp)
        have HONE : Hid (∀ v ∈ [Value.iface 125 (.agg #[.slice (some ⟨b, off, none⟩) k cap, .slice (some ⟨0, 0, none⟩) 0 0])], v.oneCell' = true) := by intro u hu; rw [List.mem_singleton.1 hu]; rfl
        clear htr hR hn hnv hsd hsmp HONE
        go_upto_region 7 with fail
        go_region_law ((first
          | (refine step_append_lies _ (by rfl) (.tmp 29) (.tmp 38) 127 (by rfl) w.heap.size 93 i0 .nilIface 1 16 undSubf HI.out HZ0.out HZ1.out HZ2.out rfl (by decide) (.slice a3 n c3) n vs (by simp [Act.eval]) (HOWN.out w4 _ hgR) ⟨w4.heap.size, 0, none⟩ 1 1 [.iface 125 (.agg #[.slice (some ⟨b, off, none⟩) k cap, .slice (some ⟨gR, 0, none⟩) R.length R.length])] (by simp [Act.eval]) rfl (one_elem w4 _ _) (by intro u hu; rw [List.mem_singleton.1 hu]; rfl) (by omega) (by unfold maxLen; omega) (by omega) (HBASE.out w4 _ hgR) _ rfl ?_; intro g cap' w5 hrow' hgrow hat hglt)
          | (go_simp; go_at_call 78; refine HMI.mono ?_; rintro e w4 ⟨gR, rfl, hrowR, hgR⟩)))
        all_goals
          have hg34 : wr.grownBy w4 none := grown_trans (grown_drew (grown_refl wr none)) hgR
          have hg3 : wr.grownBy (w4.alloc (.cells #[.iface 125 (.agg #[.slice (some ⟨b, off, none⟩) k cap, .slice (some ⟨gR, 0, none⟩) R.length R.length])] 93)) none := grown_alloc hg34 _
          have hlvne : ∀ q, (Value.slice a3 n c3).ownBlock = some q → w.heap.size ≤ q ∧ q < wr.heap.size := fun q hq => by
            have h1 := HTR.out.row
            rw [HN.out] at h1
            exact World.ownsRow.lt h1 q hq
          have hES : ESubV (w4.alloc (.cells #[.iface 125 (.agg #[.slice (some ⟨b, off, none⟩) k cap, .slice (some ⟨gR, 0, none⟩) R.length R.length])] 93)) (DT w b (.slice a3 n c3)) (.iface 125 (.agg #[.slice (some ⟨b, off, none⟩) k cap, .slice (some ⟨gR, 0, none⟩) R.length R.length])) (.fixed (l.take k) R) := by
            have hsm := HH.out.kept (grown_trans HTR.out.grow hg3)
            refine ⟨_, _, rfl, hsm.lod (by omega) ⟨.inl rfl, fun e => ?_⟩, ?_⟩
            · have h1 := (hlvne b e).1
              have h2 := HH.out.lt
              omega
            · have hrl := hrowR.lt
              have hrk := hrowR.kept (grown_alloc (grown_refl w4 none) (.cells #[.iface 125 (.agg #[.slice (some ⟨b, off, none⟩) k cap, .slice (some ⟨gR, 0, none⟩) R.length R.length])] 93)) (by simp)
              refine .inr ⟨gR, 0, R.length, rfl, ⟨.inr (Nat.le_trans HTR.out.grow.size hrl.1), fun e => ?_⟩, hrk.lt.2, fun i hi => by rw [Nat.zero_add]; exact hrk.cell i hi⟩
              have h1 := (hlvne gR e).2
              have h2 : wr.heap.size ≤ gR := hrl.1
              omega
          have hnew := TrI.snoc HTR.out hg3 hES (g := g) (cap := cap') hgrow (by rw [HN.out]; exact hrow') hat (Nat.le_refl _)
          rw [HN.out] at hnew
          clear hrow' hgrow hat hglt hES hrowR hgR hg3 hg34
          go_wp2
          go_roundg (gk - 1)
          case measure => omega
          case rel => exact ⟨k + 1, _, by omega, by go_num, by rw [others_eq, HR.out, ← List.append_assoc]; exact hnew⟩
      · have hkm : k = m := by omega
        subst hkm
        have hpost : TriedPost w b l (.returned u3) wr := ⟨u3, vs, rfl, by rw [HOT.out]; exact htr⟩
        clear htr hgk
        go_wp2
        exact bodyPost_ret (v := u3) (by simp [results, Tryz.results61, go_sem]) rfl hpost
end Go.Proofs.YtncmgnmcggkhnaaGreat
