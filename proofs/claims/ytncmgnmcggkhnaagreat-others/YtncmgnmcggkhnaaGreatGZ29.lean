import Derived.Test.YtncmgnmcggkhnaaGreatGZ23
import Derived.Test.YtncmgnmcggkhnaaGreatGZ25
import Derived.Deep.Upon
import Derived.Test.YtncmgnmcggkhnaaGreatGZ28
import Derived.BigQuiet
import Derived.Deep.RegionHeld
namespace Go.Proofs.YtncmgnmcggkhnaaGreat
open Go.RowKit

/-- lists of nothing -/
def Nones (w : World) (D : Nat → Prop) (v : Value) (n : Nat) : Prop :=
  ∃ lg lcap, v = .slice (some ⟨lg, 0, none⟩) n lcap ∧ D lg ∧ lg < w.heap.size ∧ ∀ i, i < n → ∃ a cap, w.cell? ⟨lg, i, none⟩ = some (.slice a 0 cap)

def NonePost (w : World) (n : Nat) (e : Ending) (w' : World) : Prop :=
  ∃ g, e = .returned (.slice (some ⟨g, 0, none⟩) n n) ∧ w.grownBy w' none ∧ w.heap.size ≤ g ∧ Nones w' (fun q => q = g) (.slice (some ⟨g, 0, none⟩) n n) n

/-- the new list of lists of nothing, filled up to `us` -/
def NonI (w wr : World) (g n : Nat) (us : List Value) : Prop :=
  w.grownBy wr none ∧ Box wr g (fillV n us).toArray 22 ∧ ∀ u ∈ us, ∃ a cap, u = .slice a 0 cap

theorem NonI.next {w wr : World} {g n : Nat} {us : List Value} (h : NonI w wr g n us) (hk : us.length < n) (hwg : w.heap.size ≤ g) (a : Option Addr) (cap : Nat) : NonI w (wr.setCell ⟨g, us.length, none⟩ (.slice a 0 cap)) g n (us ++ [.slice a 0 cap]) := by
  obtain ⟨hg, hb, hi⟩ := h
  refine ⟨grown_new hg (grown_set _ _ _ _) (fun q e => by injection e with e; omega), ?_, fun u hu => ?_⟩
  · have := hb.set us.length (.slice a 0 cap)
    rw [List.setIfInBounds_toArray, fillV_set _ us _ hk] at this
    exact this
  · rcases List.mem_append.1 hu with hu | hu
    · exact hi u hu
    · exact ⟨a, cap, List.mem_singleton.1 hu⟩

theorem getD_of_get2 {α : Type} (l : List α) (i : Nat) (d : α) (hi : i < l.length) : l[i]? = some (l.getD i d) := by
  simp [List.getD, hi]

theorem NonI.done {w wr : World} {g n : Nat} {us : List Value} (h : NonI w wr g n us) (hl : us.length = n) : Nones wr (fun q => q = g) (.slice (some ⟨g, 0, none⟩) n n) n := by
  obtain ⟨hg, hb, hi⟩ := h
  have e : fillV n us = us := by simp [fillV, hl]
  rw [e] at hb
  refine ⟨g, n, rfl, rfl, hb.lt, fun i hlt => ?_⟩
  have hm : us.getD i undef ∈ us := by simp [List.getD, show i < us.length by omega]
  obtain ⟨a, cap, ha⟩ := hi _ hm
  refine ⟨a, cap, ?_⟩
  rw [hb.cell i, List.getElem?_toArray, getD_of_get2 us i undef (by omega), ha]

set_option maxHeartbeats 2000000 in
set_option maxRecDepth 20000 in
/-- where nothing lies between -/
theorem qbetween0 (w : World) (D : Nat → Prop) (v : Value) (chs : List (List Int)) (n f : Nat) (h : Views w D v chs) (hc1 : 1 ≤ chs.length) (hc2 : chs.length ≤ 2) (hn : ∀ i, i < chs.length → (chs.getD i []).length = n) (hft : f ≤ n) :
    Calls Tryz.prog 21 #[v, .int .i64 f, .int .i64 f] w (NonePost w chs.length) := by
  obtain ⟨i1, hi, hz0, hz1, hz2⟩ := info_parts Tryz.info22
  obtain ⟨lg, lcap, rfl, _, _, _, hcells⟩ := h
  obtain ⟨m, hm⟩ : ∃ m, chs.length = m := ⟨_, rfl⟩
  have HC : Hid (∀ i, i < m → ∃ b off cap, w.cell? ⟨lg, i, none⟩ = some (.slice (some ⟨b, off, none⟩) n cap) ∧ n ≤ cap) := by
    intro i hi'
    obtain ⟨b, off, cap, _, _, h1, h2, _⟩ := hcells i (by omega)
    rw [hn i (by omega)] at h1 h2
    exact ⟨b, off, cap, h1, h2⟩
  rw [hm] at hc1 hc2 ⊢
  clear hm hcells hn
  go_enter Tryz.func21, Tryz.ntmps21
  go_wp2_with (first
    | (at_make; refine wpList_make_full _ rfl _ _ 23 rfl w.heap.size 22 i1 (.slice none 0 0) 1 Tryz.underlying23 hi hz0 hz1 _ _ _ _ m rfl rfl rfl rfl ?m1 ?m2 ?m3 ?_))
  case m1 => rw [hz2]; omega
  case m2 => unfold maxLen; omega
  case m3 => exact Nat.le_refl _
  intro w1 hmade hg1
  have hboxC : Box w1 w.heap.size (List.replicate m (Value.slice none 0 0)).toArray 22 := by
    rcases hmade.2 with ⟨e, _⟩ | ⟨g, cap, cur, e, _, hblk, _, _, hcs, htake⟩
    · cases e
    · simp only [Value.slice.injEq, Option.some.injEq, Addr.mk.injEq, and_true, true_and] at e
      obtain ⟨rfl, rfl⟩ := e
      rw [Nat.mul_one] at hcs htake
      have hr := replicate_of_made hcs htake
      rw [← hr]
      exact hblk
  have hB0 : NonI w w1 w.heap.size m [] := ⟨hg1, by simpa [fillV] using hboxC, fun u hu => by cases hu⟩
  obtain ⟨g, hg⟩ : ∃ g, w.heap.size = g := ⟨_, rfl⟩
  rw [hg] at hB0
  rw [hg]
  have HG : Hid (w.heap.size = g) := hg
  clear hmade hboxC hi hz0 hz1 hz2 hg hg1
  go_wp2_with fail
  go_loopg [15] m (fun gk t15 wr => ∃ us : List Value, gk + us.length = m ∧ t15 = .int .i64 us.length ∧ NonI w wr g m us)
  case atStart => exact ⟨[], rfl, rfl, hB0⟩
  case round =>
    clear hB0
    obtain ⟨us, hgk, rfl, hB⟩ := hrel
    obtain ⟨k, hk⟩ : ∃ k, us.length = k := ⟨_, rfl⟩
    have HK : Hid (us.length = k) := hk
    rw [hk] at hgk ⊢
    by_cases hlt : k < m
    · obtain ⟨b, off, cap, hck, hcap⟩ := HC.out k hlt
      have hckr : wr.cell? ⟨lg, k, none⟩ = some (.slice (some ⟨b, off, none⟩) n cap) := hB.1.cell hck (by simp)
      have fz := hB.2.1.fz k
      have hgc : wr.cell? ⟨g, k, none⟩ = some (.slice none 0 0) := by
        rw [hB.2.1.cell k]
        unfold fillV
        rw [List.getElem?_toArray, List.getElem?_append_right (by omega), hk, Nat.sub_self, List.getElem?_replicate, if_pos (by omega)]
      have HNX : Hid (∀ a cap, NonI w (wr.setCell ⟨g, k, none⟩ (.slice a 0 cap)) g m (us ++ [.slice a 0 cap])) := by
        intro a cap
        have := hB.next (by omega) (by rw [HG.out]; exact Nat.le_refl _) a cap
        rw [hk] at this
        exact this
      have hkm : (k : Int) < (m : Int) := by omega
      have hf1 : (f : Int) ≤ (cap : Int) := by omega
      clear hB hck hk
      go_wp2
      all_goals
        go_roundg (gk - 1)
        case measure => omega
        case rel => exact ⟨us ++ [_], by rw [List.length_append, HK.out]; simp; omega, by rw [List.length_append, HK.out]; go_num, HNX.out _ _⟩
    · have hkm : k = m := by omega
      subst hkm
      have hpost : NonePost w k (.returned (.slice (some ⟨g, 0, none⟩) k k)) wr := ⟨g, rfl, hB.1, by rw [HG.out]; exact Nat.le_refl _, hB.done hk⟩
      clear hB hgk hk
      go_wp2
      exact bodyPost_ret (v := .slice (some ⟨g, 0, none⟩) k k) (by simp [results, Tryz.results21, go_sem]) rfl hpost

set_option maxHeartbeats 2000000 in
set_option maxRecDepth 20000 in
/-- lists of nothing are joined: nothing changes -/
theorem qjoin0 (w : World) (gC base n : Nat) (D : Nat → Prop) (v : Value) (vs : List Value) (acc : List (List Int)) (hcm : CM w gC base vs acc) (hvl : vs.length = n) (hn : n ≤ 2) (hcb : gC < base) (hview : Nones w D v n) (hD : ∀ q, D q → q ≠ gC) :
    Calls Tryz.prog 20 #[.slice (some ⟨gC, 0, none⟩) n n, v] w fun e w' => e = .returned (.tuple #[]) ∧ w.grownBy w' (some gC) ∧ CM w' gC base vs acc := by
  obtain ⟨i0, hi, hz0, hz1, hz2⟩ := info_parts Tryz.info3
  obtain ⟨lg, lcap, rfl, hDl, _, hcells⟩ := hview
  have hlg := hD lg hDl
  have HC : Hid (∀ i, i < n → ∃ a cap, w.cell? ⟨lg, i, none⟩ = some (.slice a 0 cap)) := hcells
  have HCM : Hid (CM w gC base vs acc) := hcm
  have HVL : Hid (vs.length = n) := hvl
  have hinv : w.grownBy w (some gC) ∧ CM w gC base vs acc := ⟨grown_refl _ _, hcm⟩
  clear hcells hcm hvl
  go_enter Tryz.func20, Tryz.ntmps20
  go_wp2_with fail
  go_loopg [8] n (fun gq t8 wq => ∃ k : Nat, gq + k = n ∧ t8 = .int .i64 k ∧ w.grownBy wq (some gC) ∧ CM wq gC base vs acc)
  case atStart => exact ⟨0, rfl, rfl, hinv.1, hinv.2⟩
  case round =>
    clear hinv
    obtain ⟨k, hgq, rfl, hgr, hcm⟩ := hrel
    by_cases hk : k < n
    · obtain ⟨a1, cap1, hc1⟩ := HC.out k hk
      have hc1r : wr.cell? ⟨lg, k, none⟩ = some (.slice a1 0 cap1) := hgr.cell hc1 (by intro e; injection e with e; exact hlg e)
      have hkv : k < vs.length := by rw [HVL.out]; exact hk
      have hownk := hcm.own k hkv
      obtain ⟨a9, c9, hV⟩ := own_slice hownk
      obtain ⟨m1, hm1⟩ : ∃ m1, (acc.getD k []).length = m1 := ⟨_, rfl⟩
      rw [hm1] at hV
      have hcap : m1 ≤ c9 := by
        have h1 := hownk
        unfold Own at h1
        rw [hV, hm1] at h1
        rcases h1.2 with ⟨e, e2⟩ | ⟨g, cap, cur, e, _, _, h2, _⟩
        · omega
        · injection e with _ _ e; omega
      have ck : wr.cell? ⟨gC, k, none⟩ = some (.slice a9 m1 c9) := by
        rw [hcm.row.cell k, ← hV]
        simp [List.getD, hkv]
      have fk := hcm.row.fz k
      have hap : ∀ ty, (Builtin.append_ #[22, 22] ty #[.slice a9 m1 c9, .slice a1 0 cap1]).run Tryz.prog wr = .ok (.slice a9 m1 c9) wr := by
        intro ty
        cases a9 <;> cases a1 <;> simp [Builtin.append_, run_underlying Tryz.underlying22, Go.sizeOf, typeInfo, hi, hcap, Builtin.lenOf, Builtin.firstCells, loadCells, loadCellsFrom, storeCells, Result.andThen]
      have HAP : Hid _ := hap
      have hset : CM (wr.setCell ⟨gC, k, none⟩ (.slice a9 m1 c9)) gC base vs acc := by
        have hb := hcm.row.set k (.slice a9 m1 c9)
        have e : (vs.toArray.setIfInBounds k (.slice a9 m1 c9)) = vs.toArray := by
          rw [List.setIfInBounds_toArray]
          congr 1
          rw [← hV]
          refine List.ext_getElem? (fun j => ?_)
          rw [List.getElem?_set]
          by_cases hj : k = j
          · subst hj
            simp [hkv, List.getD]
          · simp [hj]
        rw [e] at hb
        have hgs := grown_set wr gC k (.slice a9 m1 c9)
        exact ⟨hb, hcm.len, fun i hi => (hcm.own i hi).kp (Kp.of hgs) (fun q hq e => by injection e with e; have := ((hcm.own i hi).lt q hq).1; omega), hcm.apartV⟩
      have HSET : Hid _ := hset
      have HG2 : Hid (w.grownBy (wr.setCell ⟨gC, k, none⟩ (.slice a9 m1 c9)) (some gC)) := grown_trans hgr (grown_set _ _ _ _)
      have tk : decide ((k : Int) < (n : Int)) = true := decide_eq_true (by omega)
      clear hset hgr hcm hV hm1 hownk hcap hc1 hap
      go_wp2_with (at_builtin; refine Lib.wpList_append_run _ rfl _ _ _ _ rfl _ _ rfl rfl _ _ (HAP.out _) ?_)
      go_roundg (gk - 1)
      case measure => omega
      case rel => exact ⟨k + 1, by omega, by go_num, HG2.out, HSET.out⟩
    · have tk : decide ((k : Int) < (n : Int)) = false := decide_eq_false (by omega)
      have HP : Hid (w.grownBy wr (some gC) ∧ CM wr gC base vs acc) := ⟨hgr, hcm⟩
      clear hgr hcm hgq
      go_wp2
      exact bodyPost_end (v := .tuple #[]) (by simp [results, Tryz.results20, go_sem]) rfl ⟨rfl, HP.out⟩
end Go.Proofs.YtncmgnmcggkhnaaGreat

namespace Go.Proofs.YtncmgnmcggkhnaaGreat
open Go.RowKit

/-- a place that is none -/
theorem rdr_seek_no (w : World) (gB gM : Nat) (h : Head) (l : List Fr) (pv : Value) (pos nM : Nat) (M : Int → Option Value) (KB : Nat → Prop) (hr : Rdr w gB gM h l pv pos nM M KB) (at_ : Int) (ha : at_ < 0 ∨ (h.total : Int) < at_) :
    Calls Tryz.prog 10 #[.pointer (some ⟨gB, 0, none⟩), .int .i64 at_] w fun e w' => e = .returned (.int .i64 1) ∧ w' = w := by
  have c4 : w.cell? ⟨gB, 4, none⟩ = some (.int .i64 h.total) := hr.box.cell 4
  clear hr
  rcases Int.lt_or_le at_ 0 with h0 | h0
  · have t0 : decide (at_ < 0) = true := decide_eq_true h0
    go_enter Tryz.func10, Tryz.ntmps10
    go_wp2
    go_ret
    exact ⟨rfl, rfl⟩
  · have t0 : decide (at_ < 0) = false := decide_eq_false (by omega)
    have t1 : decide ((h.total : Int) < at_) = true := decide_eq_true (by omega)
    clear ha
    go_enter Tryz.func10, Tryz.ntmps10
    go_wp2
    go_ret
    exact ⟨rfl, rfl⟩

theorem rdr_seek (w : World) (gB gM : Nat) (h : Head) (l : List Fr) (pv : Value) (pos nM : Nat) (M : Int → Option Value) (KB : Nat → Prop) (hr : Rdr w gB gM h l pv pos nM M KB) (p : Nat) (hp : p ≤ h.total) :
    Calls Tryz.prog 10 #[.pointer (some ⟨gB, 0, none⟩), .int .i64 p] w fun e w' => e = .returned (.int .i64 0) ∧ Rdr w' gB gM h l pv p nM M KB ∧ w.grownBy w' (some gB) := by
  have c4 : w.cell? ⟨gB, 4, none⟩ = some (.int .i64 h.total) := hr.box.cell 4
  have c6 : w.cell? ⟨gB, 6, none⟩ = some (.int .i64 pos) := hr.box.cell 6
  have f6 := hr.box.fz 6
  have HM : Hid _ := hr.move p
  have t0 : decide ((p : Int) < 0) = false := decide_eq_false (by omega)
  have t1 : decide ((h.total : Int) < (p : Int)) = false := decide_eq_false (by omega)
  clear hr
  go_enter Tryz.func10, Tryz.ntmps10
  go_wp2
  go_ret
  exact ⟨rfl, HM.out, grown_set _ _ _ _⟩

/-- less than nothing -/
theorem rdr_read_no (w : World) (g : Nat) (n : Int) (hn : n < 0) :
    Calls Tryz.prog 11 #[.pointer (some ⟨g, 0, none⟩), .int .i64 n] w fun e w' => e = .returned (.tuple #[.slice none 0 0, .int .i64 1]) ∧ w' = w := by
  have t0 : decide (n < 0) = true := decide_eq_true hn
  go_enter Tryz.func11, Tryz.ntmps11
  go_wp2
  exact bodyPost_ret (v := .tuple #[.slice none 0 0, .int .i64 1]) (by simp [results, Tryz.results11, go_sem]) rfl ⟨rfl, rfl⟩
end Go.Proofs.YtncmgnmcggkhnaaGreat

namespace Go.Proofs.YtncmgnmcggkhnaaGreat
open Go.RowKit

theorem Views.ins {w : World} {D : Nat → Prop} {v : Value} {ls : List (List Int)} (h : Views w D v ls) : Ins w D v ls := by
  obtain ⟨lg, lcap, h1, h2, h3, h4, h5⟩ := h
  refine .inr ⟨lg, lcap, h1, h3, h4, fun i hi => ?_⟩
  obtain ⟨g, off, cap, q1, q2, q3, q4, q5⟩ := h5 i hi
  refine ⟨_, q3, .inr ⟨g, off, cap, rfl, q4, q1, q2, fun j hj => ?_⟩⟩
  have := q5 j _ (map_get_int _ j hj)
  have e : (⟨g, off, none⟩ : Addr).add j = ⟨g, off + j, none⟩ := by
    unfold Addr.add
    split
    · rename_i e; rw [e, Nat.add_zero]
    · rfl
  rw [e] at this
  exact this

/-- lists, none of them empty, or all -/
def GV (w : World) (D : Nat → Prop) (v : Value) (ls : List (List Int)) : Prop :=
  (Views w D v ls ∧ ∀ j, j < ls.length → 1 ≤ (ls.getD j []).length) ∨ (Nones w D v ls.length ∧ ∀ j, j < ls.length → ls.getD j [] = [])

def BetAny (w : World) (D : Nat → Prop) (ls : List (List Int)) (e : Ending) (w' : World) : Prop :=
  ∃ g, e = .returned (.slice (some ⟨g, 0, none⟩) ls.length ls.length) ∧ w.grownBy w' none ∧ w.heap.size ≤ g ∧ g < w'.heap.size ∧ GV w' (fun q => D q ∨ q = g) (.slice (some ⟨g, 0, none⟩) ls.length ls.length) ls

theorem qbet (w : World) (D : Nat → Prop) (v : Value) (chs : List (List Int)) (n f t : Nat) (h : Views w D v chs) (hc1 : 1 ≤ chs.length) (hc2 : chs.length ≤ 2) (hn : ∀ i, i < chs.length → (chs.getD i []).length = n) (hft : f ≤ t) (htn : t ≤ n) :
    Calls Tryz.prog 21 #[v, .int .i64 f, .int .i64 t] w (BetAny w D (cutAll f t chs)) := by
  have hl : (cutAll f t chs).length = chs.length := by unfold cutAll; rw [List.length_map]
  rcases Nat.lt_or_ge f t with h1 | h1
  · refine (qbetween w D v chs n f t h.ins hc1 hc2 hn h1 htn).mono ?_
    rintro e w' ⟨g, h2, h3, h4, h5, h6⟩
    refine ⟨g, h2, h3, h4, h5, .inl ⟨h6, fun j hj => ?_⟩⟩
    rw [hl] at hj
    rw [cutAll_get f t chs j hj, List.length_take, List.length_drop, hn j hj]
    omega
  · obtain rfl : f = t := by omega
    refine (qbetween0 w D v chs n f h hc1 hc2 hn htn).mono ?_
    rintro e w' ⟨g, h2, h3, h4, h5⟩
    obtain ⟨lg, lcap, e1, hD, hlt, hcells⟩ := id h5
    have hgl : lg = g := hD
    subst hgl
    rw [← hl] at h2 h5
    refine ⟨lg, h2, h3, h4, hlt, .inr ⟨?_, fun j hj => ?_⟩⟩
    · obtain ⟨lg', lcap', e1', hD', hlt', hcells'⟩ := h5
      exact ⟨lg', lcap', e1', .inr hD', hlt', hcells'⟩
    · rw [hl] at hj
      rw [cutAll_get f f chs j hj, Nat.sub_self, List.take_zero]

theorem zip_nils : ∀ (acc ls : List (List Int)), acc.length = ls.length → (∀ j, j < ls.length → ls.getD j [] = []) → List.zipWith (· ++ ·) acc ls = acc
  | [], _, _, _ => by simp
  | a :: acc, [], h, _ => by simp at h
  | a :: acc, x :: ls, h, hz => by
    have h0 : x = [] := hz 0 (by simp)
    rw [List.zipWith_cons_cons, zip_nils acc ls (by simpa using h) (fun j hj => hz (j + 1) (by simpa using hj)), h0, List.append_nil]

theorem qjn (w : World) (gC base n : Nat) (D : Nat → Prop) (v : Value) (vs : List Value) (acc chs : List (List Int)) (hcm : CM w gC base vs acc) (hvl : vs.length = n) (hcl : chs.length = n) (hn : n ≤ 2) (hcb : gC < base) (hbw : base ≤ w.heap.size)
    (hview : GV w D v chs) (hD : ∀ q, D q → ¬ ownsB gC vs q ∧ q < w.heap.size) (hlen : ∀ j, j < n → (acc.getD j []).length + (chs.getD j []).length ≤ 1200) :
    Calls Tryz.prog 20 #[.slice (some ⟨gC, 0, none⟩) n n, v] w (JoinPost w gC base n vs acc chs) := by
  rcases hview with ⟨h1, h2⟩ | ⟨h1, h2⟩
  · exact qjoin w gC base n D v vs acc chs hcm hvl hcl hn hcb hbw h1 hD (fun j hj => ⟨h2 j (by omega), hlen j hj⟩)
  · rw [hcl] at h1
    refine (qjoin0 w gC base n D v vs acc hcm hvl hn hcb h1 (fun q hq e => (hD q hq).1 (.inl e))).mono ?_
    rintro e w' ⟨rfl, hg, hcm'⟩
    refine ⟨rfl, (Kp.of hg).mono (fun b hb => .inl (by injection hb with hb; exact .inl hb)), vs, ?_, hvl, fun b hb => .inl hb⟩
    rw [zip_nils acc chs (by rw [hcm.len, hvl, hcl]) h2]
    exact hcm'

/-- what one more frame gives -/
theorem cut_step (c : List Int) (pos fs B en : Nat) (h1 : fs < en) (h2 : pos ≤ en) (h3 : pos < fs + B) :
    (c.drop pos).take (min fs en - pos) ++ (((c.drop fs).take B).drop (pos - fs)).take (min (en - fs) B - (pos - fs)) = (c.drop pos).take (min (fs + B) en - pos) := by
  rw [Nat.min_eq_left (by omega : fs ≤ en)]
  rcases Nat.le_total pos fs with h | h
  · have e0 : pos - fs = 0 := by omega
    rw [e0, List.drop_zero, Nat.sub_zero, List.take_take, show min (min (en - fs) B) B = min (en - fs) B by omega]
    have e1 : c.drop fs = (c.drop pos).drop (fs - pos) := by rw [List.drop_drop]; congr 1; omega
    rw [e1, ← List.take_add]
    congr 1
    omega
  · have e0 : fs - pos = 0 := by omega
    rw [e0, List.take_zero, List.nil_append, List.drop_take, List.drop_drop, show fs + (pos - fs) = pos by omega, List.take_take]
    congr 1
    omega

theorem cutAll_step (chs ls : List (List Int)) (pos fs B en : Nat) (h1 : fs < en) (h2 : pos ≤ en) (h3 : pos < fs + B) (hl : ls.length = chs.length) (hls : ∀ j, j < chs.length → ls.getD j [] = ((chs.getD j []).drop fs).take B) :
    List.zipWith (· ++ ·) (cutAll pos (min fs en) chs) (cutAll (pos - fs) (min (en - fs) B) ls) = cutAll pos (min (fs + B) en) chs := by
  refine List.ext_getElem? (fun j => ?_)
  rcases Nat.lt_or_ge j chs.length with hj | hj
  · have e1 : chs[j]? = some (chs.getD j []) := getD_of_get chs j [] hj
    have e2 : ls[j]? = some (ls.getD j []) := getD_of_get ls j [] (by omega)
    unfold cutAll
    rw [List.getElem?_zipWith, List.getElem?_map, List.getElem?_map, List.getElem?_map, e1, e2, hls j hj]
    show some _ = some _
    rw [cut_step _ pos fs B en h1 h2 h3]
  · unfold cutAll
    rw [List.getElem?_eq_none (by rw [List.length_zipWith, List.length_map, List.length_map]; omega), List.getElem?_eq_none (by rw [List.length_map]; exact hj)]
end Go.Proofs.YtncmgnmcggkhnaaGreat

namespace Go.Proofs.YtncmgnmcggkhnaaGreat
open Go.RowKit

/-- what a reader's Read leaves -/
def RdrPost (w : World) (gB gM : Nat) (h : Head) (chs : List (List Int)) (l : List Fr) (pv : Value) (nM : Nat) (KB : Nat → Prop) (pos en : Nat) (e : Ending) (w' : World) : Prop :=
  ∃ lv vs M' KB', e = .returned (.tuple #[lv, .int .i64 0]) ∧ Kp w w' (fun b => b = gB ∨ b = gM) ∧ Rdr w' gB gM h l pv en (nM + 1300) M' KB' ∧ (∀ b, KB' b → KB b ∨ w.heap.size ≤ b) ∧ Subs w' w.heap.size lv vs (cutAll pos en chs) ∧
    ∀ b, (lv.ownBlock = some b ∨ ∃ i, i < vs.length ∧ (vs.getD i undef).ownBlock = some b) → ¬ KB' b

/-- the loop over the frames -/
structure RdI (w wr : World) (gB gM gC : Nat) (h : Head) (chs : List (List Int)) (l : List Fr) (pv : Value) (nM : Nat) (KB : Nat → Prop) (pos en k0 k : Nat) (vs : List Value) (M' : Int → Option Value) (KB' : Nat → Prop) : Prop where
  kp : Kp w wr (fun b => b = gM)
  rdr : Rdr wr gB gM h l pv pos (nM + (k - k0)) M' KB'
  sub : ∀ b, KB' b → KB b ∨ w.heap.size ≤ b
  cm : CM wr gC (gC + 1) vs (cutAll pos (min (k * h.block) en) chs)
  len : vs.length = h.channels
  own : ∀ b, ownsB gC vs b → w.heap.size ≤ b ∧ ¬ KB' b

/-- the next round's state -/
def RdNext (w : World) (gB gM gC : Nat) (h : Head) (chs : List (List Int)) (l : List Fr) (pv : Value) (nM : Nat) (KB : Nat → Prop) (pos en k0 k : Nat) (e : Ending) (wr : World) : Prop :=
  e = .returned (.tuple #[]) ∧ gC + 1 ≤ wr.heap.size ∧ ∃ vs M' KB', RdI w wr gB gM gC h chs l pv nM KB pos en k0 k vs M' KB'


theorem RdNext.pos {w wr : World} {gB gM gC : Nat} {h : Head} {chs : List (List Int)} {l : List Fr} {pv : Value} {nM : Nat} {KB : Nat → Prop} {pos en k0 k : Nat} {e : Ending} (hn : RdNext w gB gM gC h chs l pv nM KB pos en k0 k e wr) : wr.cell? ⟨gB, 6, none⟩ = some (.int .i64 pos) := by
  obtain ⟨_, _, vs, M', KB', hI⟩ := hn
  exact hI.rdr.box.cell 6

/-- what lies between, its length by name -/
def BetN (w : World) (D : Nat → Prop) (ls : List (List Int)) (nc : Nat) (e : Ending) (w' : World) : Prop :=
  ∃ g, e = .returned (.slice (some ⟨g, 0, none⟩) nc nc) ∧ w.grownBy w' none ∧ w.heap.size ≤ g ∧ g < w'.heap.size ∧ GV w' (fun q => D q ∨ q = g) (.slice (some ⟨g, 0, none⟩) nc nc) ls

theorem rd_join (w wr w2 w3 : World) (gB gM gC : Nat) (h : Head) (chs : List (List Int)) (l : List Fr) (pv : Value) (nM : Nat) (M : Int → Option Value) (KB : Nat → Prop) (pos en k0 k fs : Nat) (vs : List Value) (M' : Int → Option Value) (KB' : Nat → Prop) (KB2 : Nat → Prop) (M2 : Int → Option Value) (g : Nat)
    (hr : Rdr w gB gM h l pv pos nM M KB) (hf : FrOk h chs l) (hfs : k * h.block = fs) (hlt : fs < en) (hen : en ≤ h.total) (hpe : pos ≤ en) (hpf : pos < fs + h.block) (hkl : k < l.length) (hk0 : k0 ≤ k) (hgC : gC = w.heap.size) (hI : RdI w wr gB gM gC h chs l pv nM KB pos en k0 k vs M' KB') (hwr : gC + 1 ≤ wr.heap.size)
    (hg2 : wr.grownBy w2 (some gM)) (hr2 : Rdr w2 gB gM h l pv pos (nM + (k - k0) + 1) M2 KB2) (hs2 : ∀ b, KB2 b → KB' b ∨ wr.heap.size ≤ b) (hg3 : w2.grownBy w3 none) (hwg : w2.heap.size ≤ g) (hgl : g < w3.heap.size)
    (hgv : GV w3 (fun q => KB2 q ∨ q = g) (.slice (some ⟨g, 0, none⟩) (cutAll (pos - fs) (min (en - fs) h.block) (l.getD k ([], [])).2).length (cutAll (pos - fs) (min (en - fs) h.block) (l.getD k ([], [])).2).length) (cutAll (pos - fs) (min (en - fs) h.block) (l.getD k ([], [])).2)) :
    Calls Tryz.prog 20 #[.slice (some ⟨gC, 0, none⟩) h.channels h.channels, .slice (some ⟨g, 0, none⟩) (cutAll (pos - fs) (min (en - fs) h.block) (l.getD k ([], [])).2).length (cutAll (pos - fs) (min (en - fs) h.block) (l.getD k ([], [])).2).length] w3 (RdNext w gB gM gC h chs l pv nM KB pos en k0 (k + 1)) := by
  obtain ⟨b1, b2, b3, b4, b5, b6, b7, b8⟩ := headOk_parts hf.ok
  have hml := hr.lt
  have hbl := hr.box.lt
  have hwwr := hI.kp.size
  have hcmlt := hI.cm.ownsLt
  have hn : ∀ q, KB2 q ∨ q = g → ¬ ownsB gC vs q ∧ q < w3.heap.size := by
    intro q hq
    rcases hq with hq | rfl
    · refine ⟨fun e => ?_, Nat.lt_of_lt_of_le (hr2.kb q hq).2 hg3.size⟩
      rcases hs2 q hq with h1 | h1
      · exact (hI.own q e).2 h1
      · have := hcmlt q e; omega
    · refine ⟨fun e => ?_, hgl⟩
      have h1 := hcmlt q e
      have h2 := hg2.size
      omega
  have hk23 : Kp wr w3 (fun b => b = gM) := ((Kp.of hg2).mono (fun b hb => .inl (by injection hb))).trans (Kp.ofNone (S := fun _ => False) hg3) (fun b e => e.elim)
  have hcm3 := hI.cm.kp hk23 (fun b hb e => by have := (hI.own b hb).1; omega)
  obtain ⟨hl1, _⟩ := pFrame_spec (hf.frame k hkl)
  have hcl : (cutAll (pos - fs) (min (en - fs) h.block) (l.getD k ([], [])).2).length = h.channels := by unfold cutAll; rw [List.length_map]; exact hl1
  have hstep := cutAll_step chs (l.getD k ([], [])).2 pos fs h.block en hlt hpe hpf (by rw [hl1, hf.ch]) (fun j hj => by rw [hf.part k hkl j (by rw [← hf.ch]; exact hj), hfs])
  have hal : (cutAll pos (min fs en) chs).length = h.channels := by unfold cutAll; rw [List.length_map]; exact hf.ch
  have hlen : ∀ j, j < h.channels → ((cutAll pos (min fs en) chs).getD j []).length + ((cutAll (pos - fs) (min (en - fs) h.block) (l.getD k ([], [])).2).getD j []).length ≤ 1200 := by
    intro j hj
    have h1 := zip_append_get (cutAll pos (min fs en) chs) (cutAll (pos - fs) (min (en - fs) h.block) (l.getD k ([], [])).2) h.channels hal hcl j hj
    rw [hstep] at h1
    have h2 := congrArg List.length h1
    rw [List.length_append] at h2
    rw [← h2, cutAll_get _ _ _ j (by rw [hf.ch]; exact hj), List.length_take, List.length_drop, hf.total j hj]
    omega
  rw [hfs] at hcm3
  have hw13 : wr.heap.size ≤ w3.heap.size := hk23.size
  refine (qjn w3 gC (gC + 1) h.channels _ _ vs _ _ hcm3 hI.len hcl b5 (by omega) (by omega) hgv hn hlen).mono ?_
  rintro e w4 ⟨rfl, hk4, vs', hcm4, hvl4, hsub4⟩
  rw [hstep] at hcm4
  have e1 : fs + h.block = (k + 1) * h.block := by rw [Nat.succ_mul, hfs]
  rw [e1] at hcm4
  have hpvl : ∀ b, pv.ownBlock = some b → b < w.heap.size := fun b hb => (World.ownsRow.lt hr.row b hb).2
  refine ⟨rfl, by have := hk4.size; omega, vs', M2, KB2, ⟨?_, ?_, ?_, hcm4, hvl4, ?_⟩⟩
  · refine (hI.kp.trans hk23 (fun b hb => .inl hb)).trans hk4 (fun b hb => .inr (hI.own b hb).1)
  · have hr3 : Rdr w3 gB gM h l pv pos (nM + (k - k0) + 1) M2 KB2 := hr2.kp (Kp.ofNone (S := fun _ => False) hg3) (fun _ _ e => e)
    have hr4 := hr3.kp hk4 (fun b hb e => by
      have h1 := (hI.own b e).1
      rcases hb with rfl | rfl | hq | hq
      · omega
      · omega
      · have := hpvl b hq; omega
      · exact (hn b (.inl hq)).1 e)
    rw [show nM + (k + 1 - k0) = nM + (k - k0) + 1 by omega]
    exact hr4
  · intro b hb
    rcases hs2 b hb with h1 | h1
    · exact hI.sub b h1
    · exact .inr (by omega)
  · intro b hb
    rcases hsub4 b hb with h1 | h1
    · exact ⟨(hI.own b h1).1, fun e => (hn b (.inl e)).1 h1⟩
    · refine ⟨by omega, fun e => ?_⟩
      have h2 := (hr2.kb b e).2
      have h3 := hg3.size
      omega
end Go.Proofs.YtncmgnmcggkhnaaGreat

namespace Go.Proofs.YtncmgnmcggkhnaaGreat
open Go.RowKit

set_option maxHeartbeats 8000000 in
set_option maxRecDepth 20000 in
theorem rdr_read (w : World) (gB gM : Nat) (h : Head) (chs : List (List Int)) (l : List Fr) (pv : Value) (pos nM : Nat) (M : Int → Option Value) (KB : Nat → Prop) (hr : Rdr w gB gM h l pv pos nM M KB) (hf : FrOk h chs l) (hp : pos ≤ h.total) (n : Nat) (hn : n ≤ 9223372036854775807) (hnM : nM ≤ 9223372036854000000) :
    Calls Tryz.prog 11 #[.pointer (some ⟨gB, 0, none⟩), .int .i64 n] w (RdrPost w gB gM h chs l pv nM KB pos (pos + min n (h.total - pos))) := by
  obtain ⟨b1, b2, b3, b4, b5, b6, b7, b8⟩ := headOk_parts hf.ok
  obtain ⟨i1, hi, hz0, hz1, hz2⟩ := info_parts Tryz.info22
  have HI : Hid _ := hi
  have HZ0 : Hid _ := hz0
  have HZ1 : Hid _ := hz1
  have HZ2 : Hid _ := hz2
  clear hi hz0 hz1 hz2
  have c0 : w.cell? ⟨gB, 0, none⟩ = some (.int .i64 h.block) := hr.box.cell 0
  have c2 : w.cell? ⟨gB, 2, none⟩ = some (.int .i64 h.channels) := hr.box.cell 2
  have c4 : w.cell? ⟨gB, 4, none⟩ = some (.int .i64 h.total) := hr.box.cell 4
  have c6 : w.cell? ⟨gB, 6, none⟩ = some (.int .i64 pos) := hr.box.cell 6
  obtain ⟨en, hen⟩ : ∃ en, pos + min n (h.total - pos) = en := ⟨_, rfl⟩
  obtain ⟨rem, hrem⟩ : ∃ rem, h.total - pos = rem := ⟨_, rfl⟩
  have hremz : (h.total : Int) - (pos : Int) = (rem : Int) := by omega
  have HEN : Hid (pos + min n (h.total - pos) = en) := hen
  have hent : en ≤ h.total ∧ pos ≤ en := by omega
  have t0 : decide ((n : Int) < 0) = false := decide_eq_false (by omega)
  have HR : Hid (Rdr w gB gM h l pv pos nM M KB) := hr
  rw [hen]
  clear hr hen
  go_enter Tryz.func11, Tryz.ntmps11
  go_upto_region 4 with fail
  go_cut [7] (fun s7 wx => s7 = .int .i64 en ∧ wx = w.drew)
  case first =>
    go_region
    all_goals
      go_wp2
      all_goals
        go_meet
        case rel => exact ⟨by have := HEN.out; congr 1; omega, rfl⟩
  case rest =>
  obtain ⟨rfl, hwc⟩ := hcut
  have hgd : w.grownBy wc none := by rw [hwc]; exact grown_drew (grown_refl _ _)
  have hrw : Rdr wc gB gM h l pv pos nM M KB := HR.out.kp (Kp.ofNone (S := fun _ => False) hgd) (fun _ _ e => e)
  have hsz : wc.heap.size = w.heap.size := by rw [hwc]; rfl
  have HSZ : Hid (wc.heap.size = w.heap.size) := hsz
  clear hwc hsz c0 c2 c4 c6 hrem hremz t0
  have c0 : wc.cell? ⟨gB, 0, none⟩ = some (.int .i64 h.block) := hrw.box.cell 0
  have c2 : wc.cell? ⟨gB, 2, none⟩ = some (.int .i64 h.channels) := hrw.box.cell 2
  have c6 : wc.cell? ⟨gB, 6, none⟩ = some (.int .i64 pos) := hrw.box.cell 6
  go_wp2_with (first
    | (at_make; refine wpList_make_full _ rfl _ _ 23 rfl wc.heap.size 22 i1 (.slice none 0 0) 1 Tryz.underlying23 HI.out HZ0.out HZ1.out _ _ _ _ h.channels rfl rfl rfl rfl ?m1 ?m2 ?m3 ?_))
  case m1 => rw [HZ2.out]; omega
  case m2 => unfold maxLen; omega
  case m3 => exact Nat.le_refl _
  intro w1 hmade hg1
  have hboxC : Box w1 wc.heap.size (List.replicate h.channels (Value.slice none 0 0)).toArray 22 := by
    rcases hmade.2 with ⟨e, _⟩ | ⟨g, cap, cur, e, _, hblk, _, _, hcs, htake⟩
    · cases e
    · simp only [Value.slice.injEq, Option.some.injEq, Addr.mk.injEq, and_true, true_and] at e
      obtain ⟨rfl, rfl⟩ := e
      rw [Nat.mul_one] at hcs htake
      have hr := replicate_of_made hcs htake
      rw [← hr]
      exact hblk
  obtain ⟨gC, hgC⟩ : ∃ gC, wc.heap.size = gC := ⟨_, rfl⟩
  rw [hgC] at hboxC
  rw [hgC]
  have hgC2 : gC = w.heap.size := by rw [← hgC]; exact HSZ.out
  have hgg1 := grown_trans hgd hg1
  have hr1 : Rdr w1 gB gM h l pv pos nM M KB := hrw.kp (Kp.ofNone (S := fun _ => False) hg1) (fun _ _ e => e)
  have HR1 : Hid (Rdr w1 gB gM h l pv pos nM M KB) := hr1
  have HBC : Hid (Box w1 gC (List.replicate h.channels (Value.slice none 0 0)).toArray 22) := hboxC
  have HG1 : Hid (w.grownBy w1 none) := hgg1
  have HGC : Hid (gC = w.heap.size) := hgC2
  clear hmade hboxC hg1 hgd hrw c0 c2 c6 hgC hgC2 hgg1 HI HZ0 HZ1 HZ2
  have c6 : w1.cell? ⟨gB, 6, none⟩ = some (.int .i64 pos) := hr1.box.cell 6
  clear hr1
  obtain ⟨k0, hk0⟩ : ∃ k0, pos / h.block = k0 := ⟨_, rfl⟩
  have hk0z : wrap64 ((pos : Int) / (h.block : Int)) = (k0 : Int) := by
    rw [← hk0]
    have h1 : ((pos : Int) / (h.block : Int)) = ((pos / h.block : Nat) : Int) := by simp
    have h2 : pos / h.block ≤ pos := Nat.div_le_self _ _
    rw [h1]
    unfold wrap64
    omega
  have hk0b : k0 * h.block ≤ pos ∧ pos < k0 * h.block + h.block := by
    have h1 := Nat.div_add_mod pos h.block
    have h2 := Nat.mod_lt pos (show h.block > 0 by omega)
    rw [hk0, Nat.mul_comm] at h1
    omega
  have HK0 : Hid (k0 * h.block ≤ pos ∧ pos < k0 * h.block + h.block) := hk0b
  go_upto_region 7 with fail
  rw [hk0z]
  have hI0 : RdI w w1 gB gM gC h chs l pv nM KB pos en k0 k0 (List.replicate h.channels (.slice none 0 0)) M KB := by
    have hm := CM.start w1 gC (gC + 1) h.channels HBC.out
    have e1 : fillV h.channels [] = List.replicate h.channels (Value.slice none 0 0) := by simp [fillV]
    have e2 : fillX h.channels [] = cutAll pos (min (k0 * h.block) en) chs := by
      unfold fillX cutAll
      rw [List.nil_append, List.length_nil, Nat.sub_zero, ← hf.ch]
      have e3 : min (k0 * h.block) en - pos = 0 := by omega
      rw [e3]
      simp [List.map_const']
    rw [e1, e2] at hm
    refine ⟨Kp.ofNone HG1.out, by rw [Nat.sub_self]; exact HR1.out, fun b hb => .inl hb, hm, by simp, fun b hb => ?_⟩
    have hbC : b = gC := by
      rcases hb with e | ⟨i, hi, hq⟩
      · exact e
      · rw [List.length_replicate] at hi
        have e1 : (List.replicate h.channels (Value.slice none 0 0)).getD i undef = .slice none 0 0 := by simp [List.getD, hi]
        rw [e1] at hq
        cases hq
    rw [hbC, HGC.out]
    exact ⟨Nat.le_refl _, fun e => by have := (HR.out.kb _ e).2; omega⟩
  have hC1 : gC + 1 ≤ w1.heap.size := HBC.out.lt
  have HW1 : Hid (gC + 1 ≤ w1.heap.size) := hC1
  clear hk0z hk0 hk0b hC1 c6 HBC HR1
  go_loopg [9] 1300 (fun gk t9 wr => ∃ (k : Nat) (vs : List Value) (M' : Int → Option Value) (KB' : Nat → Prop), gk + k = k0 + 1300 ∧ k0 ≤ k ∧ t9 = .int .i64 k ∧ gC + 1 ≤ wr.heap.size ∧ RdI w wr gB gM gC h chs l pv nM KB pos en k0 k vs M' KB')
  case atStart => exact ⟨k0, _, M, KB, by omega, Nat.le_refl _, rfl, HW1.out, hI0⟩
  case round =>
    clear hI0 HW1
    obtain ⟨k, vs, M', KB', hgk, hk0k, rfl, hwr, hI⟩ := hrel
    obtain ⟨fs, hfs⟩ : ∃ fs, k * h.block = fs := ⟨_, rfl⟩
    have hfsz : (k : Int) * (h.block : Int) = (fs : Int) := by rw [← hfs]; simp
    by_cases hlt : fs < en
    · have tlt : decide ((fs : Int) < (en : Int)) = true := decide_eq_true (by omega)
      have hkl : k < l.length := (hf.num k).2 (by rw [hfs]; omega)
      have hk12 : k < 1200 := by
        have h1 : k * 1 ≤ k * h.block := Nat.mul_le_mul_left _ (by omega)
        omega
      have hll : l.length ≤ 6000 := by
        rcases Nat.lt_or_ge 6000 l.length with h1 | h1
        · have h2 := (hf.num 6000).1 h1
          have h3 : 6000 * 1 ≤ 6000 * h.block := Nat.mul_le_mul_left _ (by omega)
          omega
        · exact h1
      have hk0fs : pos < fs + h.block := by
        have h1 := HK0.out
        have h2 : k0 * h.block ≤ k * h.block := Nat.mul_le_mul_right _ hk0k
        omega
      obtain ⟨f, hf0⟩ : ∃ f, pos - fs = f := ⟨_, rfl⟩
      obtain ⟨t, ht⟩ : ∃ t, min (en - fs) h.block = t := ⟨_, rfl⟩
      obtain ⟨rm, hrm⟩ : ∃ rm, en - fs = rm := ⟨_, rfl⟩
      have hrmz : (en : Int) - (fs : Int) = (rm : Int) := by omega
      have c6 : wr.cell? ⟨gB, 6, none⟩ = some (.int .i64 pos) := hI.rdr.box.cell 6
      have E1 : Hid ((if IntKind.i64.wrap ((pos : Int) - (fs : Int)) < 0 then (0 : Int) else IntKind.i64.wrap ((pos : Int) - (fs : Int))) = (f : Int)) := by
        show _ = _
        rw [IntKind.wrap_i64]
        split <;> omega
      have E2 : Hid ((if (h.block : Int) < IntKind.i64.wrap (rm : Int) then (h.block : Int) else IntKind.i64.wrap (rm : Int)) = (t : Int)) := by
        show _ = _
        rw [IntKind.wrap_i64]
        split <;> omega
      have HI : Hid (RdI w wr gB gM gC h chs l pv nM KB pos en k0 k vs M' KB') := hI
      have HFR := qframeof wr.drew gB gM h chs l pv pos (nM + (k - k0)) M' KB' k (show Rdr wr.drew gB gM h l pv pos (nM + (k - k0)) M' KB' from ⟨hI.rdr.box, hI.rdr.row, hI.rdr.lt, hI.rdr.map, hI.rdr.kept, hI.rdr.kb⟩) hf hkl hll (by omega)
      have HBT : Hid (∀ (w2 : World) (KB2 : Nat → Prop) (v2 : Value), Views w2 KB2 v2 (l.getD k ([], [])).2 → Calls Tryz.prog 21 #[v2, .int .i64 f, .int .i64 t] w2 (BetAny w2 KB2 (cutAll f t (l.getD k ([], [])).2))) := by
        intro w2 KB2 v2 hv2
        obtain ⟨hl1, _⟩ := pFrame_spec (hf.frame k hkl)
        have hch1 := hf.ch1
        have hlen : ∀ i, i < (l.getD k ([], [])).2.length → ((l.getD k ([], [])).2.getD i []).length = min h.block (h.total - fs) := by
          intro i hi
          rw [hf.part k hkl i (by omega), hfs, List.length_take, List.length_drop, hf.total i (by omega)]
        exact qbet w2 KB2 v2 _ (min h.block (h.total - fs)) f t hv2 (by omega) (by omega) hlen (by omega) (by omega)
      have HJN : Hid (∀ (w2 w3 : World) (KB2 : Nat → Prop) (M2 : Int → Option Value) (g : Nat), wr.drew.grownBy w2 (some gM) → Rdr w2 gB gM h l pv pos (nM + (k - k0) + 1) M2 KB2 → (∀ b, KB2 b → KB' b ∨ wr.drew.heap.size ≤ b) → w2.grownBy w3 none → w2.heap.size ≤ g → g < w3.heap.size →
          GV w3 (fun q => KB2 q ∨ q = g) (.slice (some ⟨g, 0, none⟩) (cutAll f t (l.getD k ([], [])).2).length (cutAll f t (l.getD k ([], [])).2).length) (cutAll f t (l.getD k ([], [])).2) →
          Calls Tryz.prog 20 #[.slice (some ⟨gC, 0, none⟩) h.channels h.channels, .slice (some ⟨g, 0, none⟩) (cutAll f t (l.getD k ([], [])).2).length (cutAll f t (l.getD k ([], [])).2).length] w3 (RdNext w gB gM gC h chs l pv nM KB pos en k0 (k + 1))) := by
        rw [← hf0, ← ht]
        intro w2 w3 KB2 M2 g hg2 hr2 hs2 hg3 hwg hgl hgv
        exact rd_join w wr w2 w3 gB gM gC h chs l pv nM M KB pos en k0 k fs vs M' KB' KB2 M2 g HR.out hf hfs hlt hent.1 hent.2 hk0fs hkl hk0k HGC.out hI hwr ⟨hg2.os, hg2.tape, hg2.output, hg2.size, hg2.block⟩ hr2 hs2 hg3 hwg hgl hgv
      have HOM : Hid (gk + k = k0 + 1300 ∧ k < 1200 ∧ k0 ≤ k) := ⟨hgk, hk12, hk0k⟩
      have u1 : fs ≤ 1200 := by omega
      have u2 : pos ≤ 1200 := by omega
      have u3 : en ≤ 1200 := by omega
      have u4 : rm ≤ 1200 := by omega
      have u5 : k ≤ 1200 := by omega
      obtain ⟨cs, hcs⟩ : ∃ cs, cutAll f t (l.getD k ([], [])).2 = cs := ⟨_, rfl⟩
      rw [hcs] at HBT HJN
      obtain ⟨nc, hnc⟩ : ∃ nc, cs.length = nc := ⟨_, rfl⟩
      have HBT2 : Hid (∀ (w2 : World) (KB2 : Nat → Prop) (v2 : Value), Views w2 KB2 v2 (l.getD k ([], [])).2 → Calls Tryz.prog 21 #[v2, .int .i64 f, .int .i64 t] w2 (BetN w2 KB2 cs nc)) := by
        intro w2 KB2 v2 hv2
        refine (HBT.out w2 KB2 v2 hv2).mono ?_
        rintro e w' ⟨g, h1, h2, h3, h4, h5⟩
        rw [hnc] at h1 h5
        exact ⟨g, h1, h2, h3, h4, h5⟩
      rw [hnc] at HJN
      clear hI HBT hcs hnc hkl hll hk0fs hf0 ht hrm hf hwr hgk hk12 hk0k hfs hp hn hnM hent b1 b3 b4 b5 b6 b7 b8 HEN HR HSZ HG1 HGC HK0 HI
      go_upto_region 10 with fail
      have e1 := E1.out
      have e2 := E2.out
      go_region_held (fun w' => w'.cell? ⟨gB, 6, none⟩ = some (.int .i64 pos)) (go_keep) (first
        | (go_at_call 22; refine HFR.mono ?_; rintro e w2 ⟨v2, M2, KB2, rfl, hg2, hr2, hs2, hv2⟩; have c62 : w2.cell? ⟨gB, 6, none⟩ = some (.int .i64 pos) := hr2.box.cell 6; have HB2 := HBT2.out w2 KB2 v2 hv2; have HR2 : Hid _ := hr2; have HV2 : Hid _ := hv2; have HG2 : Hid _ := hg2; have HS2 : Hid _ := hs2; clear hr2 hv2 hg2 hs2)
        | (go_at_call 21; (try rw [E1.out]); (try rw [E2.out]); refine HB2.mono ?_; rintro e w3 ⟨g3, rfl, hg3, hwg3, hgl3, hgv3⟩; have c63 : w3.cell? ⟨gB, 6, none⟩ = some (.int .i64 pos) := hg3.cell c62 (by simp); have HJ3 := HJN.out w2 w3 KB2 M2 g3 HG2.out HR2.out HS2.out hg3 hwg3 hgl3 hgv3; clear hg3 hwg3 hgl3 hgv3)
        | (go_at_call 20; refine HJ3.mono ?_; intro e w4 hnx; obtain rfl := hnx.1; have c64 : w4.cell? ⟨gB, 6, none⟩ = some (.int .i64 pos) := hnx.pos))
      all_goals
        obtain ⟨_, hwr4, vs4, M4, KB4, hI4⟩ := hnx
        have HI4 : Hid (RdI w w4 gB gM gC h chs l pv nM KB pos en k0 (k + 1) vs4 M4 KB4) := hI4
        clear hI4
        have hom := HOM.out
        go_wp2
        go_roundg (gk - 1)
        case measure => omega
        case rel => exact ⟨k + 1, vs4, M4, KB4, by omega, by omega, by go_num, hwr4, HI4.out⟩
    · have tlt : decide ((fs : Int) < (en : Int)) = false := decide_eq_false (by omega)
      have hge : ¬ fs < en := hlt
      have tlt2 : decide (fs < en) = false := decide_eq_false hlt
      have hle : en ≤ fs := by omega
      have hk0p : k0 ≤ 1200 := by
        have h1 : k0 * 1 ≤ k0 * h.block := Nat.mul_le_mul_left _ (by omega)
        have h2 := HK0.out
        omega
      have hfsb : fs ≤ 640000 := by
        rw [← hfs]
        have h1 : k * h.block ≤ 2500 * 256 := Nat.mul_le_mul (by omega) b2
        omega
      have hmin : min fs en = en := by omega
      have hcm := hI.cm
      rw [hfs, hmin] at hcm
      have hgw : gC + 1 ≤ wr.heap.size := hwr
      have hbx := hI.rdr.box
      have c6 : wr.cell? ⟨gB, 6, none⟩ = some (.int .i64 pos) := hbx.cell 6
      have f6 := hbx.fz 6
      have hsubs := hcm.subs (base' := gC) (Nat.le_refl _) (by omega) (by rw [hI.len]; exact b5)
      have hmv := hI.rdr.move en
      have hgs := grown_set wr gB 6 (.int .i64 en)
      have hgBl : gB < gC := by have := HR.out.box.lt; have := HGC.out; omega
      have hml := HR.out.lt
      rw [hI.len] at hsubs
      have hpost : RdrPost w gB gM h chs l pv nM KB pos en (.returned (.tuple #[.slice (some ⟨gC, 0, none⟩) h.channels h.channels, .int .i64 0])) (wr.setCell ⟨gB, 6, none⟩ (.int .i64 en)) := by
        refine ⟨_, vs, M', KB', rfl, (hI.kp.mono (fun b hb => .inl (.inr hb))).trans (Kp.of hgs) (fun b hb => .inl (.inl (by injection hb))), ⟨hmv.box, hmv.row, hmv.lt, hmv.map.more (by omega), hmv.kept, hmv.kb⟩, hI.sub, ?_, fun b hb => ?_⟩
        · have := hsubs.kept hgs hgBl
          rw [← HGC.out]
          exact this
        · rcases hb with hb | ⟨i, hi, hb⟩
          · have e1 : gC = b := by simpa [Value.ownBlock] using hb
            exact (hI.own b (.inl e1.symm)).2
          · exact (hI.own b (.inr ⟨i, hi, hb⟩)).2
      clear hI hcm hsubs hmv hgs hbx hmin hgk hge hlt
      have HFS : Hid (k * h.block = fs) := hfs
      clear hfs
      go_wp2
      exact bodyPost_ret (v := .tuple #[.slice (some ⟨gC, 0, none⟩) h.channels h.channels, .int .i64 0]) (by simp [results, Tryz.results11, go_sem]) rfl hpost
end Go.Proofs.YtncmgnmcggkhnaaGreat
