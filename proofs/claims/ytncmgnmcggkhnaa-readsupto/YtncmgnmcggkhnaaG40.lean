import Derived.Test.YtncmgnmcggkhnaaG29
import Derived.Test.YtncmgnmcggkhnaaG21
import Derived.Deep.Upon
import Derived.Test.YtncmgnmcggkhnaaG39
import Derived.BigQuiet
namespace Go.Proofs.Ytncmgnmcggkhnaa
open Go.RowKit

/-- lists of nothing -/
def Nones (w : World) (D : Nat → Prop) (v : Value) (n : Nat) : Prop :=
  ∃ lg lcap, v = .slice (some ⟨lg, 0, none⟩) n lcap ∧ D lg ∧ lg < w.heap.size ∧ ∀ i, i < n → ∃ a cap, w.cell? ⟨lg, i, none⟩ = some (.slice a 0 cap)

def NonePost (w : World) (n : Nat) (e : Ending) (w' : World) : Prop :=
  ∃ g, e = .returned (.slice (some ⟨g, 0, none⟩) n n) ∧ w.grownBy w' none ∧ w.heap.size ≤ g ∧ Nones w' (fun q => q = g) (.slice (some ⟨g, 0, none⟩) n n) n

/-- the new list of lists of nothing, filled up to `us` -/
def NonI (w wr : World) (g n : Nat) (us : List Value) : Prop :=
  w.grownBy wr none ∧ Box wr g (fillV n us).toArray 30 ∧ ∀ u ∈ us, ∃ a cap, u = .slice a 0 cap

theorem NonI.next {w wr : World} {g n : Nat} {us : List Value} (h : NonI w wr g n us) (hk : us.length < n) (hwg : w.heap.size ≤ g) (a : Option Addr) (cap : Nat) : NonI w (wr.setCell ⟨g, us.length, none⟩ (.slice a 0 cap)) g n (us ++ [.slice a 0 cap]) := by
  obtain ⟨hg, hb, hi⟩ := h
  refine ⟨grown_new hg (grown_set _ _ _ _) (fun q e => by injection e with e; omega), ?_, fun u hu => ?_⟩
  · have := hb.set us.length (.slice a 0 cap)
    rw [List.setIfInBounds_toArray, fillV_set _ us _ hk] at this
    exact this
  · rcases List.mem_append.1 hu with hu | hu
    · exact hi u hu
    · exact ⟨a, cap, List.mem_singleton.1 hu⟩

theorem getD_of_get2 {α : Type} (l : List α) (i : Nat) (d : α) (hi : i < l.length) : l[i]? = some (l.getD i d) := by
  simp [List.getD, hi]

theorem NonI.done {w wr : World} {g n : Nat} {us : List Value} (h : NonI w wr g n us) (hl : us.length = n) : Nones wr (fun q => q = g) (.slice (some ⟨g, 0, none⟩) n n) n := by
  obtain ⟨hg, hb, hi⟩ := h
  have e : fillV n us = us := by simp [fillV, hl]
  rw [e] at hb
  refine ⟨g, n, rfl, rfl, hb.lt, fun i hlt => ?_⟩
  have hm : us.getD i undef ∈ us := by simp [List.getD, show i < us.length by omega]
  obtain ⟨a, cap, ha⟩ := hi _ hm
  refine ⟨a, cap, ?_⟩
  rw [hb.cell i, List.getElem?_toArray, getD_of_get2 us i undef (by omega), ha]

set_option maxHeartbeats 2000000 in
set_option maxRecDepth 20000 in
/-- where nothing lies between -/
theorem qbetween0 (w : World) (D : Nat → Prop) (v : Value) (chs : List (List Int)) (n f : Nat) (h : Views w D v chs) (hc1 : 1 ≤ chs.length) (hc2 : chs.length ≤ 2) (hn : ∀ i, i < chs.length → (chs.getD i []).length = n) (hft : f ≤ n) :
    Calls Try.prog 50 #[v, .int .i64 f, .int .i64 f] w (NonePost w chs.length) := by
  obtain ⟨i1, hi, hz0, hz1, hz2⟩ := info_parts Try.info30
  obtain ⟨lg, lcap, rfl, _, _, _, hcells⟩ := h
  obtain ⟨m, hm⟩ : ∃ m, chs.length = m := ⟨_, rfl⟩
  have HC : Hid (∀ i, i < m → ∃ b off cap, w.cell? ⟨lg, i, none⟩ = some (.slice (some ⟨b, off, none⟩) n cap) ∧ n ≤ cap) := by
    intro i hi'
    obtain ⟨b, off, cap, _, _, h1, h2, _⟩ := hcells i (by omega)
    rw [hn i (by omega)] at h1 h2
    exact ⟨b, off, cap, h1, h2⟩
  rw [hm] at hc1 hc2 ⊢
  clear hm hcells hn
  go_enter Try.func50, Try.ntmps50
  go_wp2_with (first
    | (at_make; refine wpList_make_full _ rfl _ _ 24 rfl w.heap.size 30 i1 (.slice none 0 0) 1 Try.underlying24 hi hz0 hz1 _ _ _ _ m rfl rfl rfl rfl ?m1 ?m2 ?m3 ?_))
  case m1 => rw [hz2]; omega
  case m2 => unfold maxLen; omega
  case m3 => exact Nat.le_refl _
  intro w1 hmade hg1
  have hboxC : Box w1 w.heap.size (List.replicate m (Value.slice none 0 0)).toArray 30 := by
    rcases hmade.2 with ⟨e, _⟩ | ⟨g, cap, cur, e, _, hblk, _, _, hcs, htake⟩
    · cases e
    · simp only [Value.slice.injEq, Option.some.injEq, Addr.mk.injEq, and_true, true_and] at e
      obtain ⟨rfl, rfl⟩ := e
      rw [Nat.mul_one] at hcs htake
      have hr := replicate_of_made hcs htake
      rw [← hr]
      exact hblk
  have hB0 : NonI w w1 w.heap.size m [] := ⟨hg1, by simpa [fillV] using hboxC, fun u hu => by cases hu⟩
  obtain ⟨g, hg⟩ : ∃ g, w.heap.size = g := ⟨_, rfl⟩
  rw [hg] at hB0
  rw [hg]
  have HG : Hid (w.heap.size = g) := hg
  clear hmade hboxC hi hz0 hz1 hz2 hg hg1
  go_wp2_with fail
  go_loopg [15] m (fun gk t15 wr => ∃ us : List Value, gk + us.length = m ∧ t15 = .int .i64 us.length ∧ NonI w wr g m us)
  case atStart => exact ⟨[], rfl, rfl, hB0⟩
  case round =>
    clear hB0
    obtain ⟨us, hgk, rfl, hB⟩ := hrel
    obtain ⟨k, hk⟩ : ∃ k, us.length = k := ⟨_, rfl⟩
    have HK : Hid (us.length = k) := hk
    rw [hk] at hgk ⊢
    by_cases hlt : k < m
    · obtain ⟨b, off, cap, hck, hcap⟩ := HC.out k hlt
      have hckr : wr.cell? ⟨lg, k, none⟩ = some (.slice (some ⟨b, off, none⟩) n cap) := hB.1.cell hck (by simp)
      have fz := hB.2.1.fz k
      have hgc : wr.cell? ⟨g, k, none⟩ = some (.slice none 0 0) := by
        rw [hB.2.1.cell k]
        unfold fillV
        rw [List.getElem?_toArray, List.getElem?_append_right (by omega), hk, Nat.sub_self, List.getElem?_replicate, if_pos (by omega)]
      have HNX : Hid (∀ a cap, NonI w (wr.setCell ⟨g, k, none⟩ (.slice a 0 cap)) g m (us ++ [.slice a 0 cap])) := by
        intro a cap
        have := hB.next (by omega) (by rw [HG.out]; exact Nat.le_refl _) a cap
        rw [hk] at this
        exact this
      have hkm : (k : Int) < (m : Int) := by omega
      have hf1 : (f : Int) ≤ (cap : Int) := by omega
      clear hB hck hk
      go_wp2
      all_goals
        go_roundg (gk - 1)
        case measure => omega
        case rel => exact ⟨us ++ [_], by rw [List.length_append, HK.out]; simp; omega, by rw [List.length_append, HK.out]; go_num, HNX.out _ _⟩
    · have hkm : k = m := by omega
      subst hkm
      have hpost : NonePost w k (.returned (.slice (some ⟨g, 0, none⟩) k k)) wr := ⟨g, rfl, hB.1, by rw [HG.out]; exact Nat.le_refl _, hB.done hk⟩
      clear hB hgk hk
      go_wp2
      exact bodyPost_ret (v := .slice (some ⟨g, 0, none⟩) k k) (by simp [results, Try.results50, go_sem]) rfl hpost

set_option maxHeartbeats 2000000 in
set_option maxRecDepth 20000 in
/-- lists of nothing are joined: nothing changes -/
theorem qjoin0 (w : World) (gC base n : Nat) (D : Nat → Prop) (v : Value) (vs : List Value) (acc : List (List Int)) (hcm : CM w gC base vs acc) (hvl : vs.length = n) (hn : n ≤ 2) (hcb : gC < base) (hview : Nones w D v n) (hD : ∀ q, D q → q ≠ gC) :
    Calls Try.prog 43 #[.slice (some ⟨gC, 0, none⟩) n n, v] w fun e w' => e = .returned (.tuple #[]) ∧ w.grownBy w' (some gC) ∧ CM w' gC base vs acc := by
  obtain ⟨i0, hi, hz0, hz1, hz2⟩ := info_parts Try.info3
  obtain ⟨lg, lcap, rfl, hDl, _, hcells⟩ := hview
  have hlg := hD lg hDl
  have HC : Hid (∀ i, i < n → ∃ a cap, w.cell? ⟨lg, i, none⟩ = some (.slice a 0 cap)) := hcells
  have HCM : Hid (CM w gC base vs acc) := hcm
  have HVL : Hid (vs.length = n) := hvl
  have hinv : w.grownBy w (some gC) ∧ CM w gC base vs acc := ⟨grown_refl _ _, hcm⟩
  clear hcells hcm hvl
  go_enter Try.func43, Try.ntmps43
  go_wp2_with fail
  go_loopg [8] n (fun gq t8 wq => ∃ k : Nat, gq + k = n ∧ t8 = .int .i64 k ∧ w.grownBy wq (some gC) ∧ CM wq gC base vs acc)
  case atStart => exact ⟨0, rfl, rfl, hinv.1, hinv.2⟩
  case round =>
    clear hinv
    obtain ⟨k, hgq, rfl, hgr, hcm⟩ := hrel
    by_cases hk : k < n
    · obtain ⟨a1, cap1, hc1⟩ := HC.out k hk
      have hc1r : wr.cell? ⟨lg, k, none⟩ = some (.slice a1 0 cap1) := hgr.cell hc1 (by intro e; injection e with e; exact hlg e)
      have hkv : k < vs.length := by rw [HVL.out]; exact hk
      have hownk := hcm.own k hkv
      obtain ⟨a9, c9, hV⟩ := own_slice hownk
      obtain ⟨m1, hm1⟩ : ∃ m1, (acc.getD k []).length = m1 := ⟨_, rfl⟩
      rw [hm1] at hV
      have hcap : m1 ≤ c9 := by
        have h1 := hownk
        unfold Own at h1
        rw [hV, hm1] at h1
        rcases h1.2 with ⟨e, e2⟩ | ⟨g, cap, cur, e, _, _, h2, _⟩
        · omega
        · injection e with _ _ e; omega
      have ck : wr.cell? ⟨gC, k, none⟩ = some (.slice a9 m1 c9) := by
        rw [hcm.row.cell k, ← hV]
        simp [List.getD, hkv]
      have fk := hcm.row.fz k
      have hap : ∀ ty, (Builtin.append_ #[30, 30] ty #[.slice a9 m1 c9, .slice a1 0 cap1]).run Try.prog wr = .ok (.slice a9 m1 c9) wr := by
        intro ty
        cases a9 <;> cases a1 <;> simp [Builtin.append_, run_underlying Try.underlying30, Go.sizeOf, typeInfo, hi, hcap, Builtin.lenOf, Builtin.firstCells, loadCells, loadCellsFrom, storeCells, Result.andThen]
      have HAP : Hid _ := hap
      have hset : CM (wr.setCell ⟨gC, k, none⟩ (.slice a9 m1 c9)) gC base vs acc := by
        have hb := hcm.row.set k (.slice a9 m1 c9)
        have e : (vs.toArray.setIfInBounds k (.slice a9 m1 c9)) = vs.toArray := by
          rw [List.setIfInBounds_toArray]
          congr 1
          rw [← hV]
          refine List.ext_getElem? (fun j => ?_)
          rw [List.getElem?_set]
          by_cases hj : k = j
          · subst hj
            simp [hkv, List.getD]
          · simp [hj]
        rw [e] at hb
        have hgs := grown_set wr gC k (.slice a9 m1 c9)
        exact ⟨hb, hcm.len, fun i hi => (hcm.own i hi).kp (Kp.of hgs) (fun q hq e => by injection e with e; have := ((hcm.own i hi).lt q hq).1; omega), hcm.apartV⟩
      have HSET : Hid _ := hset
      have HG2 : Hid (w.grownBy (wr.setCell ⟨gC, k, none⟩ (.slice a9 m1 c9)) (some gC)) := grown_trans hgr (grown_set _ _ _ _)
      have tk : decide ((k : Int) < (n : Int)) = true := decide_eq_true (by omega)
      clear hset hgr hcm hV hm1 hownk hcap hc1 hap
      go_wp2_with (at_builtin; refine Lib.wpList_append_run _ rfl _ _ _ _ rfl _ _ rfl rfl _ _ (HAP.out _) ?_)
      go_roundg (gk - 1)
      case measure => omega
      case rel => exact ⟨k + 1, by omega, by go_num, HG2.out, HSET.out⟩
    · have tk : decide ((k : Int) < (n : Int)) = false := decide_eq_false (by omega)
      have HP : Hid (w.grownBy wr (some gC) ∧ CM wr gC base vs acc) := ⟨hgr, hcm⟩
      clear hgr hcm hgq
      go_wp2
      exact bodyPost_end (v := .tuple #[]) (by simp [results, Try.results43, go_sem]) rfl ⟨rfl, HP.out⟩
end Go.Proofs.Ytncmgnmcggkhnaa

namespace Go.Proofs.Ytncmgnmcggkhnaa
open Go.RowKit

theorem rdr_total (w : World) (gB gM : Nat) (h : Head) (l : List Fr) (pv : Value) (pos nM : Nat) (M : Int → Option Value) (KB : Nat → Prop) (hr : Rdr w gB gM h l pv pos nM M KB) :
    Calls Try.prog 28 #[.pointer (some ⟨gB, 0, none⟩)] w fun e w' => e = .returned (.int .i64 h.total) ∧ w' = w := by
  have c4 : w.cell? ⟨gB, 4, none⟩ = some (.int .i64 h.total) := hr.box.cell 4
  clear hr
  go_enter Try.func28, Try.ntmps28
  go_wp2
  go_ret
  exact ⟨rfl, rfl⟩

theorem rdr_tell (w : World) (gB gM : Nat) (h : Head) (l : List Fr) (pv : Value) (pos nM : Nat) (M : Int → Option Value) (KB : Nat → Prop) (hr : Rdr w gB gM h l pv pos nM M KB) :
    Calls Try.prog 34 #[.pointer (some ⟨gB, 0, none⟩)] w fun e w' => e = .returned (.int .i64 pos) ∧ w' = w := by
  have c4 : w.cell? ⟨gB, 6, none⟩ = some (.int .i64 pos) := hr.box.cell 6
  clear hr
  go_enter Try.func34, Try.ntmps34
  go_wp2
  go_ret
  exact ⟨rfl, rfl⟩

/-- a place that is none -/
theorem rdr_seek_no (w : World) (gB gM : Nat) (h : Head) (l : List Fr) (pv : Value) (pos nM : Nat) (M : Int → Option Value) (KB : Nat → Prop) (hr : Rdr w gB gM h l pv pos nM M KB) (at_ : Int) (ha : at_ < 0 ∨ (h.total : Int) < at_) :
    Calls Try.prog 35 #[.pointer (some ⟨gB, 0, none⟩), .int .i64 at_] w fun e w' => e = .returned (.int .i64 1) ∧ w' = w := by
  have c4 : w.cell? ⟨gB, 4, none⟩ = some (.int .i64 h.total) := hr.box.cell 4
  clear hr
  rcases Int.lt_or_le at_ 0 with h0 | h0
  · have t0 : decide (at_ < 0) = true := decide_eq_true h0
    go_enter Try.func35, Try.ntmps35
    go_wp2
    go_ret
    exact ⟨rfl, rfl⟩
  · have t0 : decide (at_ < 0) = false := decide_eq_false (by omega)
    have t1 : decide ((h.total : Int) < at_) = true := decide_eq_true (by omega)
    clear ha
    go_enter Try.func35, Try.ntmps35
    go_wp2
    go_ret
    exact ⟨rfl, rfl⟩

theorem rdr_seek (w : World) (gB gM : Nat) (h : Head) (l : List Fr) (pv : Value) (pos nM : Nat) (M : Int → Option Value) (KB : Nat → Prop) (hr : Rdr w gB gM h l pv pos nM M KB) (p : Nat) (hp : p ≤ h.total) :
    Calls Try.prog 35 #[.pointer (some ⟨gB, 0, none⟩), .int .i64 p] w fun e w' => e = .returned (.int .i64 0) ∧ Rdr w' gB gM h l pv p nM M KB ∧ w.grownBy w' (some gB) := by
  have c4 : w.cell? ⟨gB, 4, none⟩ = some (.int .i64 h.total) := hr.box.cell 4
  have c6 : w.cell? ⟨gB, 6, none⟩ = some (.int .i64 pos) := hr.box.cell 6
  have f6 := hr.box.fz 6
  have HM : Hid _ := hr.move p
  have t0 : decide ((p : Int) < 0) = false := decide_eq_false (by omega)
  have t1 : decide ((h.total : Int) < (p : Int)) = false := decide_eq_false (by omega)
  clear hr
  go_enter Try.func35, Try.ntmps35
  go_wp2
  go_ret
  exact ⟨rfl, HM.out, grown_set _ _ _ _⟩

/-- less than nothing -/
theorem rdr_read_no (w : World) (g : Nat) (n : Int) (hn : n < 0) :
    Calls Try.prog 36 #[.pointer (some ⟨g, 0, none⟩), .int .i64 n] w fun e w' => e = .returned (.tuple #[.slice none 0 0, .int .i64 1]) ∧ w' = w := by
  have t0 : decide (n < 0) = true := decide_eq_true hn
  go_enter Try.func36, Try.ntmps36
  go_wp2
  exact bodyPost_ret (v := .tuple #[.slice none 0 0, .int .i64 1]) (by simp [results, Try.results36, go_sem]) rfl ⟨rfl, rfl⟩
end Go.Proofs.Ytncmgnmcggkhnaa

namespace Go.Proofs.Ytncmgnmcggkhnaa
open Go.RowKit

theorem Views.ins {w : World} {D : Nat → Prop} {v : Value} {ls : List (List Int)} (h : Views w D v ls) : Ins w D v ls := by
  obtain ⟨lg, lcap, h1, h2, h3, h4, h5⟩ := h
  refine .inr ⟨lg, lcap, h1, h3, h4, fun i hi => ?_⟩
  obtain ⟨g, off, cap, q1, q2, q3, q4, q5⟩ := h5 i hi
  refine ⟨_, q3, .inr ⟨g, off, cap, rfl, q4, q1, q2, fun j hj => ?_⟩⟩
  have := q5 j _ (map_get_int _ j hj)
  have e : (⟨g, off, none⟩ : Addr).add j = ⟨g, off + j, none⟩ := by
    unfold Addr.add
    split
    · rename_i e; rw [e, Nat.add_zero]
    · rfl
  rw [e] at this
  exact this

/-- lists, none of them empty, or all -/
def GV (w : World) (D : Nat → Prop) (v : Value) (ls : List (List Int)) : Prop :=
  (Views w D v ls ∧ ∀ j, j < ls.length → 1 ≤ (ls.getD j []).length) ∨ (Nones w D v ls.length ∧ ∀ j, j < ls.length → ls.getD j [] = [])

def BetAny (w : World) (D : Nat → Prop) (ls : List (List Int)) (e : Ending) (w' : World) : Prop :=
  ∃ g, e = .returned (.slice (some ⟨g, 0, none⟩) ls.length ls.length) ∧ w.grownBy w' none ∧ w.heap.size ≤ g ∧ g < w'.heap.size ∧ GV w' (fun q => D q ∨ q = g) (.slice (some ⟨g, 0, none⟩) ls.length ls.length) ls

theorem qbet (w : World) (D : Nat → Prop) (v : Value) (chs : List (List Int)) (n f t : Nat) (h : Views w D v chs) (hc1 : 1 ≤ chs.length) (hc2 : chs.length ≤ 2) (hn : ∀ i, i < chs.length → (chs.getD i []).length = n) (hft : f ≤ t) (htn : t ≤ n) :
    Calls Try.prog 50 #[v, .int .i64 f, .int .i64 t] w (BetAny w D (cutAll f t chs)) := by
  have hl : (cutAll f t chs).length = chs.length := by unfold cutAll; rw [List.length_map]
  rcases Nat.lt_or_ge f t with h1 | h1
  · refine (qbetween w D v chs n f t h.ins hc1 hc2 hn h1 htn).mono ?_
    rintro e w' ⟨g, h2, h3, h4, h5, h6⟩
    refine ⟨g, h2, h3, h4, h5, .inl ⟨h6, fun j hj => ?_⟩⟩
    rw [hl] at hj
    rw [cutAll_get f t chs j hj, List.length_take, List.length_drop, hn j hj]
    omega
  · obtain rfl : f = t := by omega
    refine (qbetween0 w D v chs n f h hc1 hc2 hn htn).mono ?_
    rintro e w' ⟨g, h2, h3, h4, h5⟩
    obtain ⟨lg, lcap, e1, hD, hlt, hcells⟩ := id h5
    have hgl : lg = g := hD
    subst hgl
    rw [← hl] at h2 h5
    refine ⟨lg, h2, h3, h4, hlt, .inr ⟨?_, fun j hj => ?_⟩⟩
    · obtain ⟨lg', lcap', e1', hD', hlt', hcells'⟩ := h5
      exact ⟨lg', lcap', e1', .inr hD', hlt', hcells'⟩
    · rw [hl] at hj
      rw [cutAll_get f f chs j hj, Nat.sub_self, List.take_zero]

theorem zip_nils : ∀ (acc ls : List (List Int)), acc.length = ls.length → (∀ j, j < ls.length → ls.getD j [] = []) → List.zipWith (· ++ ·) acc ls = acc
  | [], _, _, _ => by simp
  | a :: acc, [], h, _ => by simp at h
  | a :: acc, x :: ls, h, hz => by
    have h0 : x = [] := hz 0 (by simp)
    rw [List.zipWith_cons_cons, zip_nils acc ls (by simpa using h) (fun j hj => hz (j + 1) (by simpa using hj)), h0, List.append_nil]

theorem qjn (w : World) (gC base n : Nat) (D : Nat → Prop) (v : Value) (vs : List Value) (acc chs : List (List Int)) (hcm : CM w gC base vs acc) (hvl : vs.length = n) (hcl : chs.length = n) (hn : n ≤ 2) (hcb : gC < base) (hbw : base ≤ w.heap.size)
    (hview : GV w D v chs) (hD : ∀ q, D q → ¬ ownsB gC vs q ∧ q < w.heap.size) (hlen : ∀ j, j < n → (acc.getD j []).length + (chs.getD j []).length ≤ 1200) :
    Calls Try.prog 43 #[.slice (some ⟨gC, 0, none⟩) n n, v] w (JoinPost w gC base n vs acc chs) := by
  rcases hview with ⟨h1, h2⟩ | ⟨h1, h2⟩
  · exact qjoin w gC base n D v vs acc chs hcm hvl hcl hn hcb hbw h1 hD (fun j hj => ⟨h2 j (by omega), hlen j hj⟩)
  · rw [hcl] at h1
    refine (qjoin0 w gC base n D v vs acc hcm hvl hn hcb h1 (fun q hq e => (hD q hq).1 (.inl e))).mono ?_
    rintro e w' ⟨rfl, hg, hcm'⟩
    refine ⟨rfl, (Kp.of hg).mono (fun b hb => .inl (by injection hb with hb; exact .inl hb)), vs, ?_, hvl, fun b hb => .inl hb⟩
    rw [zip_nils acc chs (by rw [hcm.len, hvl, hcl]) h2]
    exact hcm'

/-- what one more frame gives -/
theorem cut_step (c : List Int) (pos fs B en : Nat) (h1 : fs < en) (h2 : pos ≤ en) (h3 : pos < fs + B) :
    (c.drop pos).take (min fs en - pos) ++ (((c.drop fs).take B).drop (pos - fs)).take (min (en - fs) B - (pos - fs)) = (c.drop pos).take (min (fs + B) en - pos) := by
  rw [Nat.min_eq_left (by omega : fs ≤ en)]
  rcases Nat.le_total pos fs with h | h
  · have e0 : pos - fs = 0 := by omega
    rw [e0, List.drop_zero, Nat.sub_zero, List.take_take, show min (min (en - fs) B) B = min (en - fs) B by omega]
    have e1 : c.drop fs = (c.drop pos).drop (fs - pos) := by rw [List.drop_drop]; congr 1; omega
    rw [e1, ← List.take_add]
    congr 1
    omega
  · have e0 : fs - pos = 0 := by omega
    rw [e0, List.take_zero, List.nil_append, List.drop_take, List.drop_drop, show fs + (pos - fs) = pos by omega, List.take_take]
    congr 1
    omega

theorem cutAll_step (chs ls : List (List Int)) (pos fs B en : Nat) (h1 : fs < en) (h2 : pos ≤ en) (h3 : pos < fs + B) (hl : ls.length = chs.length) (hls : ∀ j, j < chs.length → ls.getD j [] = ((chs.getD j []).drop fs).take B) :
    List.zipWith (· ++ ·) (cutAll pos (min fs en) chs) (cutAll (pos - fs) (min (en - fs) B) ls) = cutAll pos (min (fs + B) en) chs := by
  refine List.ext_getElem? (fun j => ?_)
  rcases Nat.lt_or_ge j chs.length with hj | hj
  · have e1 : chs[j]? = some (chs.getD j []) := getD_of_get chs j [] hj
    have e2 : ls[j]? = some (ls.getD j []) := getD_of_get ls j [] (by omega)
    unfold cutAll
    rw [List.getElem?_zipWith, List.getElem?_map, List.getElem?_map, List.getElem?_map, e1, e2, hls j hj]
    show some _ = some _
    rw [cut_step _ pos fs B en h1 h2 h3]
  · unfold cutAll
    rw [List.getElem?_eq_none (by rw [List.length_zipWith, List.length_map, List.length_map]; omega), List.getElem?_eq_none (by rw [List.length_map]; exact hj)]
end Go.Proofs.Ytncmgnmcggkhnaa

namespace Go.Proofs.Ytncmgnmcggkhnaa
open Go.RowKit

/-- what a reader's Read leaves -/
def RdrPost (w : World) (gB gM : Nat) (h : Head) (chs : List (List Int)) (l : List Fr) (pv : Value) (nM : Nat) (KB : Nat → Prop) (pos en : Nat) (e : Ending) (w' : World) : Prop :=
  ∃ lv vs M' KB', e = .returned (.tuple #[lv, .int .i64 0]) ∧ Kp w w' (fun b => b = gB ∨ b = gM) ∧ Rdr w' gB gM h l pv en (nM + 1300) M' KB' ∧ (∀ b, KB' b → KB b ∨ w.heap.size ≤ b) ∧ Subs w' w.heap.size lv vs (cutAll pos en chs) ∧
    ∀ b, (lv.ownBlock = some b ∨ ∃ i, i < vs.length ∧ (vs.getD i undef).ownBlock = some b) → ¬ KB' b

/-- the loop over the frames -/
structure RdI (w wr : World) (gB gM gC : Nat) (h : Head) (chs : List (List Int)) (l : List Fr) (pv : Value) (nM : Nat) (KB : Nat → Prop) (pos en k0 k : Nat) (vs : List Value) (M' : Int → Option Value) (KB' : Nat → Prop) : Prop where
  kp : Kp w wr (fun b => b = gM)
  rdr : Rdr wr gB gM h l pv pos (nM + (k - k0)) M' KB'
  sub : ∀ b, KB' b → KB b ∨ w.heap.size ≤ b
  cm : CM wr gC (gC + 1) vs (cutAll pos (min (k * h.block) en) chs)
  len : vs.length = h.channels
  own : ∀ b, ownsB gC vs b → w.heap.size ≤ b ∧ ¬ KB' b

/-- the next round's state -/
def RdNext (w : World) (gB gM gC : Nat) (h : Head) (chs : List (List Int)) (l : List Fr) (pv : Value) (nM : Nat) (KB : Nat → Prop) (pos en k0 k : Nat) (e : Ending) (wr : World) : Prop :=
  e = .returned (.tuple #[]) ∧ gC + 1 ≤ wr.heap.size ∧ ∃ vs M' KB', RdI w wr gB gM gC h chs l pv nM KB pos en k0 k vs M' KB'


theorem RdNext.pos {w wr : World} {gB gM gC : Nat} {h : Head} {chs : List (List Int)} {l : List Fr} {pv : Value} {nM : Nat} {KB : Nat → Prop} {pos en k0 k : Nat} {e : Ending} (hn : RdNext w gB gM gC h chs l pv nM KB pos en k0 k e wr) : wr.cell? ⟨gB, 6, none⟩ = some (.int .i64 pos) := by
  obtain ⟨_, _, vs, M', KB', hI⟩ := hn
  exact hI.rdr.box.cell 6

/-- what lies between, its length by name -/
def BetN (w : World) (D : Nat → Prop) (ls : List (List Int)) (nc : Nat) (e : Ending) (w' : World) : Prop :=
  ∃ g, e = .returned (.slice (some ⟨g, 0, none⟩) nc nc) ∧ w.grownBy w' none ∧ w.heap.size ≤ g ∧ g < w'.heap.size ∧ GV w' (fun q => D q ∨ q = g) (.slice (some ⟨g, 0, none⟩) nc nc) ls

theorem rd_join (w wr w2 w3 : World) (gB gM gC : Nat) (h : Head) (chs : List (List Int)) (l : List Fr) (pv : Value) (nM : Nat) (M : Int → Option Value) (KB : Nat → Prop) (pos en k0 k fs : Nat) (vs : List Value) (M' : Int → Option Value) (KB' : Nat → Prop) (KB2 : Nat → Prop) (M2 : Int → Option Value) (g : Nat)
    (hr : Rdr w gB gM h l pv pos nM M KB) (hf : FrOk h chs l) (hfs : k * h.block = fs) (hlt : fs < en) (hen : en ≤ h.total) (hpe : pos ≤ en) (hpf : pos < fs + h.block) (hkl : k < l.length) (hk0 : k0 ≤ k) (hgC : gC = w.heap.size) (hI : RdI w wr gB gM gC h chs l pv nM KB pos en k0 k vs M' KB') (hwr : gC + 1 ≤ wr.heap.size)
    (hg2 : wr.grownBy w2 (some gM)) (hr2 : Rdr w2 gB gM h l pv pos (nM + (k - k0) + 1) M2 KB2) (hs2 : ∀ b, KB2 b → KB' b ∨ wr.heap.size ≤ b) (hg3 : w2.grownBy w3 none) (hwg : w2.heap.size ≤ g) (hgl : g < w3.heap.size)
    (hgv : GV w3 (fun q => KB2 q ∨ q = g) (.slice (some ⟨g, 0, none⟩) (cutAll (pos - fs) (min (en - fs) h.block) (l.getD k ([], [])).2).length (cutAll (pos - fs) (min (en - fs) h.block) (l.getD k ([], [])).2).length) (cutAll (pos - fs) (min (en - fs) h.block) (l.getD k ([], [])).2)) :
    Calls Try.prog 43 #[.slice (some ⟨gC, 0, none⟩) h.channels h.channels, .slice (some ⟨g, 0, none⟩) (cutAll (pos - fs) (min (en - fs) h.block) (l.getD k ([], [])).2).length (cutAll (pos - fs) (min (en - fs) h.block) (l.getD k ([], [])).2).length] w3 (RdNext w gB gM gC h chs l pv nM KB pos en k0 (k + 1)) := by
  obtain ⟨b1, b2, b3, b4, b5, b6, b7, b8⟩ := headOk_parts hf.ok
  have hml := hr.lt
  have hbl := hr.box.lt
  have hwwr := hI.kp.size
  have hcmlt := hI.cm.ownsLt
  have hn : ∀ q, KB2 q ∨ q = g → ¬ ownsB gC vs q ∧ q < w3.heap.size := by
    intro q hq
    rcases hq with hq | rfl
    · refine ⟨fun e => ?_, Nat.lt_of_lt_of_le (hr2.kb q hq).2 hg3.size⟩
      rcases hs2 q hq with h1 | h1
      · exact (hI.own q e).2 h1
      · have := hcmlt q e; omega
    · refine ⟨fun e => ?_, hgl⟩
      have h1 := hcmlt q e
      have h2 := hg2.size
      omega
  have hk23 : Kp wr w3 (fun b => b = gM) := ((Kp.of hg2).mono (fun b hb => .inl (by injection hb))).trans (Kp.ofNone (S := fun _ => False) hg3) (fun b e => e.elim)
  have hcm3 := hI.cm.kp hk23 (fun b hb e => by have := (hI.own b hb).1; omega)
  obtain ⟨hl1, _⟩ := pFrame_spec (hf.frame k hkl)
  have hcl : (cutAll (pos - fs) (min (en - fs) h.block) (l.getD k ([], [])).2).length = h.channels := by unfold cutAll; rw [List.length_map]; exact hl1
  have hstep := cutAll_step chs (l.getD k ([], [])).2 pos fs h.block en hlt hpe hpf (by rw [hl1, hf.ch]) (fun j hj => by rw [hf.part k hkl j (by rw [← hf.ch]; exact hj), hfs])
  have hal : (cutAll pos (min fs en) chs).length = h.channels := by unfold cutAll; rw [List.length_map]; exact hf.ch
  have hlen : ∀ j, j < h.channels → ((cutAll pos (min fs en) chs).getD j []).length + ((cutAll (pos - fs) (min (en - fs) h.block) (l.getD k ([], [])).2).getD j []).length ≤ 1200 := by
    intro j hj
    have h1 := zip_append_get (cutAll pos (min fs en) chs) (cutAll (pos - fs) (min (en - fs) h.block) (l.getD k ([], [])).2) h.channels hal hcl j hj
    rw [hstep] at h1
    have h2 := congrArg List.length h1
    rw [List.length_append] at h2
    rw [← h2, cutAll_get _ _ _ j (by rw [hf.ch]; exact hj), List.length_take, List.length_drop, hf.total j hj]
    omega
  rw [hfs] at hcm3
  have hw13 : wr.heap.size ≤ w3.heap.size := hk23.size
  refine (qjn w3 gC (gC + 1) h.channels _ _ vs _ _ hcm3 hI.len hcl b5 (by omega) (by omega) hgv hn hlen).mono ?_
  rintro e w4 ⟨rfl, hk4, vs', hcm4, hvl4, hsub4⟩
  rw [hstep] at hcm4
  have e1 : fs + h.block = (k + 1) * h.block := by rw [Nat.succ_mul, hfs]
  rw [e1] at hcm4
  have hpvl : ∀ b, pv.ownBlock = some b → b < w.heap.size := fun b hb => (World.ownsRow.lt hr.row b hb).2
  refine ⟨rfl, by have := hk4.size; omega, vs', M2, KB2, ⟨?_, ?_, ?_, hcm4, hvl4, ?_⟩⟩
  · refine (hI.kp.trans hk23 (fun b hb => .inl hb)).trans hk4 (fun b hb => .inr (hI.own b hb).1)
  · have hr3 : Rdr w3 gB gM h l pv pos (nM + (k - k0) + 1) M2 KB2 := hr2.kp (Kp.ofNone (S := fun _ => False) hg3) (fun _ _ e => e)
    have hr4 := hr3.kp hk4 (fun b hb e => by
      have h1 := (hI.own b e).1
      rcases hb with rfl | rfl | hq | hq
      · omega
      · omega
      · have := hpvl b hq; omega
      · exact (hn b (.inl hq)).1 e)
    rw [show nM + (k + 1 - k0) = nM + (k - k0) + 1 by omega]
    exact hr4
  · intro b hb
    rcases hs2 b hb with h1 | h1
    · exact hI.sub b h1
    · exact .inr (by omega)
  · intro b hb
    rcases hsub4 b hb with h1 | h1
    · exact ⟨(hI.own b h1).1, fun e => (hn b (.inl e)).1 h1⟩
    · refine ⟨by omega, fun e => ?_⟩
      have h2 := (hr2.kb b e).2
      have h3 := hg3.size
      omega
end Go.Proofs.Ytncmgnmcggkhnaa
