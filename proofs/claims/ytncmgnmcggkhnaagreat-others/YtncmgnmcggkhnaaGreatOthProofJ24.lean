import Derived.Test.YtncmgnmcggkhnaaGreatOthProofJ22
import Derived.Lib.Builder
import Derived.Lib.AppendStr
import Derived.Lib.UnsafeStr
import Derived.Laws.Externs
namespace Go.Proofs.YtncmgnmcggkhnaaGreat
open Go.RowKit

theorem bldSize : (Tryz.prog.info? 67).map (·.size) = some 2 := by kernel_rfl
theorem bldLies : liesAt Tryz.prog Tryz.prog.depth 67 (2 / Tryz.prog.cellsOf 67) 0 67 1 = true := by kernel_rfl
theorem bldPtr : Tryz.prog.underlying 65 = some (.pointer 67) := by kernel_rfl
theorem bldUns : Tryz.prog.underlying 113 = some .unsafePointer := by kernel_rfl
theorem bldByteP : Tryz.prog.underlying 95 = some (.pointer 5) := by kernel_rfl
theorem bldCells : Tryz.prog.cellsOf 5 = 1 := by kernel_rfl

/-- a builder in memory -/
structure BldS (w : World) (gb base : Nat) (p v : Value) (bs : List UInt8) : Prop where
  box : Box w gb #[p, v] 67
  row : w.ownsRow base 5 1 v bs.length (bs.map byteV)
  lt : gb < base
  ptr : p = .pointer none ∨ p = .pointer (some ⟨gb, 0, none⟩)

theorem Box.shape {w : World} {g : Nat} {cs : Array Value} {t : TypeId} (h : Box w g cs t) : w.shape? g = some (t, cs.size) := by
  unfold Box at h
  simp [World.shape?, h]

set_option maxHeartbeats 1000000 in
set_option maxRecDepth 100000 in
theorem qcopycheck (w : World) (gb : Nat) (p v : Value) (hb : Box w gb #[p, v] 67) (hp : p = .pointer none ∨ p = .pointer (some ⟨gb, 0, none⟩)) :
    Calls Tryz.prog 34 #[.pointer (some ⟨gb, 0, none⟩)] w fun e w' => e = .returned (.tuple #[]) ∧ Box w' gb #[.pointer (some ⟨gb, 0, none⟩), v] 67 ∧ w.grownBy w' (some gb) := by
  obtain ⟨j, hj, hjs⟩ := Option.map_eq_some_iff.1 bldSize
  rcases hp with rfl | rfl
  · have h0 : w.cell? ⟨gb, 0, none⟩ = some (.pointer none) := hb.cell 0
    have hf := hb.fz 0
    have hsh := hb.shape
    have hset := hb.set 0 (.pointer (some ⟨gb, 0, none⟩))
    go_enter Tryz.func34, Tryz.ntmps34
    go_wp2
    rw [Lib.run_to_unsafe w ⟨gb, 0, none⟩ bldPtr bldUns hj (by rw [hjs]; decide) hsh (by simp)]
    simp only [Result.andThen]
    rw [Oper.upon_value]
    go_wp2
    rw [run_callFunc_extern Tryz.func55 (by kernel_rfl) (by kernel_rfl) (by kernel_rfl) (e := Extern.AbiNoEscape.same) (by kernel_rfl)]
    rw [Lib.run_noEscape]
    simp only [Result.andThen]
    rw [Oper.upon_value]
    go_wp2
    rw [Lib.run_from_unsafe w ⟨gb, 0, none⟩ bldUns bldPtr hj hsh bldLies]
    simp only [Result.andThen]
    rw [Oper.upon_value]
    go_wp2
    exact bodyPost_end (v := .tuple #[]) (by simp [results, Tryz.results34, go_sem]) rfl ⟨rfl, hset, grown_set _ _ _ _⟩
  · have h0 : w.cell? ⟨gb, 0, none⟩ = some (.pointer (some ⟨gb, 0, none⟩)) := hb.cell 0
    go_enter Tryz.func34, Tryz.ntmps34
    go_wp2
    rw [Lib.run_neq_ptr_same w _ bldPtr hj]
    go_wp2
    exact bodyPost_end (v := .tuple #[]) (by simp [results, Tryz.results34, go_sem]) rfl ⟨rfl, hb, grown_refl _ _⟩

def BldPost (w : World) (gb base : Nat) (bs : List UInt8) (w' : World) : Prop := ∃ v, BldS w' gb base (.pointer (some ⟨gb, 0, none⟩)) v bs ∧ Kp w w' (fun b => b = gb ∨ base ≤ b)

theorem strCells_bytes (s : ByteArray) : Lib.strCells s = s.data.toList.map byteV := by
  unfold Lib.strCells byteV
  rfl

set_option maxHeartbeats 2000000 in
set_option maxRecDepth 100000 in
theorem qbwrite (w : World) (gb base : Nat) (p v : Value) (bs : List UInt8) (s : ByteArray) (h : BldS w gb base p v bs) (hb : base ≤ w.heap.size) (hl : bs.length ≤ 1099511627776) (hs : s.size ≤ 1099511627776) :
    Calls Tryz.prog 24 #[.pointer (some ⟨gb, 0, none⟩), .string s] w fun e w' => e = .returned (.tuple #[.int .i64 s.size, .nilIface]) ∧ BldPost w gb base (bs ++ s.data.toList) w' := by
  obtain ⟨i0, hi, hz0, hz1, hz2⟩ := info_parts infoU8
  have HCC := qcopycheck w gb p v h.box h.ptr
  obtain ⟨a, cp, rfl⟩ := row_slice h.row
  have hrow := h.row
  have hlt := h.lt
  obtain ⟨n, hn⟩ : ∃ n, bs.length = n := ⟨_, rfl⟩
  rw [hn] at HCC hrow hl
  have HN : Hid (bs.length = n) := hn
  have hnow : ∀ q, (Value.slice a n cp).ownBlock = some q → base ≤ q ∧ q < w.heap.size := fun q hq => World.ownsRow.lt hrow q hq
  clear h hn
  go_enter Tryz.func24, Tryz.ntmps24
  go_wp2_with fail
  refine HCC.mono ?_
  rintro e w1 ⟨rfl, hbx, hg1⟩
  have hrow1 := World.ownsRow.kept hrow hg1 (by
    cases hq : (Value.slice a n cp).ownBlock with
    | none => exact .inl rfl
    | some q => exact .inr (fun e => by injection e with e; have := (hnow q hq).1; omega))
  have c1 : w1.cell? ⟨gb, 1, none⟩ = some (.slice a n cp) := hbx.cell 1
  clear HCC hrow
  go_wp2_with (at_builtin; refine Lib.wpList_append_own_string _ rfl _ _ 30 9 rfl base 5 i0 Tryz.underlying30 Tryz.underlying9 hi hz0 hz1 hz2 _ _ _ rfl hrow1 s rfl ?c3 ?c4 ?c5 ?_)
  case c3 => unfold maxLen; omega
  case c4 => omega
  case c5 => have := hg1.size; omega
  intro v' w2 hown' hgrow _
  obtain ⟨a', cp', rfl⟩ := row_slice hown'
  have hbx2 := hbx.kept hgrow (fun e => by have := (hnow gb e.symm).1; omega)
  have d1 : w2.cell? ⟨gb, 1, none⟩ = some (.slice a n cp) := hbx2.cell 1
  have f1 := hbx2.fz 1
  have hset := hbx2.set 1 (.slice a' (n + s.size) cp')
  have hsg := grown_set w2 gb 1 (.slice a' (n + s.size) cp')
  have hrow3 := World.ownsRow.kept hown' hsg (by
    cases hq : (Value.slice a' (n + s.size) cp').ownBlock with
    | none => exact .inl rfl
    | some q => exact .inr (fun e => by injection e with e; have := (World.ownsRow.lt hown' q hq).1; omega))
  have hk : Kp w (w2.setCell ⟨gb, 1, none⟩ (.slice a' (n + s.size) cp')) (fun b => b = gb ∨ base ≤ b) := by
    refine ((Kp.mono (Kp.of hg1) (fun b hb => .inl (.inl (by injection hb)))).trans (Kp.of hgrow) (fun b hb => .inl (.inr (hnow b hb.symm).1))).trans (Kp.of hsg) (fun b hb => .inl (.inl (by injection hb)))
  have hpost : BldPost w gb base (bs ++ s.data.toList) (w2.setCell ⟨gb, 1, none⟩ (.slice a' (n + s.size) cp')) := by
    refine ⟨_, ⟨hset, ?_, hlt, .inr rfl⟩, hk⟩
    have hln : (bs ++ s.data.toList).length = n + s.size := by rw [List.length_append, HN.out]; simp
    rw [hln, List.map_append, ← strCells_bytes]
    exact hrow3
  clear hset hrow3 hk hown' hgrow hsg hrow1 hbx hbx2 hg1 hi hz0 hz1 hz2 c1
  go_wp2
  exact bodyPost_ret (v := .tuple #[.int .i64 s.size, .nilIface]) (by simp [results, Tryz.results24, go_sem]) rfl ⟨rfl, hpost⟩

set_option maxHeartbeats 1000000 in
set_option maxRecDepth 100000 in
theorem qbstring (w : World) (gb base : Nat) (p v : Value) (bs : List UInt8) (h : BldS w gb base p v bs) (h0 : bs ≠ []) :
    Calls Tryz.prog 27 #[.pointer (some ⟨gb, 0, none⟩)] w fun e w' => e = .returned (.string ⟨bs.toArray⟩) ∧ Below base w w' := by
  have hl0 : 1 ≤ bs.length := List.length_pos_iff.mpr h0
  have hrow := h.row
  obtain ⟨g, cap, cur, rfl, hbg, hg, hnc, hcm, hcs, htake⟩ : ∃ g cap cur, v = .slice (some ⟨g, 0, none⟩) bs.length cap ∧ base ≤ g ∧ w.heap[g]? = some (.cells cur 5 (0, 0)) ∧ bs.length ≤ cap ∧ cap ≤ maxLen ∧ cur.size = cap * 1 ∧ cur.toList.take (bs.length * 1) = bs.map byteV := by
    rcases hrow.2 with ⟨_, hz⟩ | ⟨g, cap, cur, hv, r⟩
    · omega
    · exact ⟨g, cap, cur, hv, r⟩
  have c1 : w.cell? ⟨gb, 1, none⟩ = some (.slice (some ⟨g, 0, none⟩) bs.length cap) := h.box.cell 1
  have hSD : (Builtin.unsafeSliceData_ #[30] 95 #[.slice (some ⟨g, 0, none⟩) bs.length cap]).run Tryz.prog w.drew = .ok (.pointer (some ⟨g, 0, none⟩)) w.drew :=
    Lib.run_unsafeSliceData_row _ _ _ _ _ _ (by omega)
  have hUS : (Builtin.unsafeString_ #[95, 3] 9 #[.pointer (some ⟨g, 0, none⟩), .int .i64 bs.length]).run Tryz.prog w.drew = .ok (.string ⟨bs.toArray⟩) (w.drew.freeze ⟨g, 0, none⟩ bs.length) := by
    refine Lib.run_unsafeString_row w.drew 95 3 9 5 bldByteP bldCells g cur.size (by have hg' : w.drew.heap[g]? = some (.cells cur 5 (0, 0)) := hg; simp [World.shape?, hg']) bs h0 (by omega) (by unfold maxLen at hcm; omega) ?_
    intro j x hx
    have hj : j < bs.length := by
      rcases Nat.lt_or_ge j bs.length with h1 | h1
      · exact h1
      · rw [List.getElem?_eq_none h1] at hx; cases hx
    have e : (⟨g, 0, none⟩ : Addr).add j = ⟨g, j, none⟩ := addr_add g j
    rw [e]
    show w.cell? ⟨g, j, none⟩ = _
    rw [World.ownsRow.cellAt hrow j (by omega), List.getElem?_map, hx]
    rfl
  clear hrow hcs htake h
  go_enter Tryz.func27, Tryz.ntmps27
  go_wp2
  go_region
  all_goals
    go_wp2
    exact bodyPost_ret (v := .string ⟨bs.toArray⟩) (by simp [results, Tryz.results27, go_sem]) rfl ⟨rfl, Lib.below_freeze (Below.drew (Below.refl base w)) (p := ⟨g, 0, none⟩) hbg _⟩
end Go.Proofs.YtncmgnmcggkhnaaGreat

namespace Go.Proofs.YtncmgnmcggkhnaaGreat
open Go.RowKit

def BetPost (w : World) (D : Nat → Prop) (ls : List (List Int)) (e : Ending) (w' : World) : Prop :=
  ∃ g, e = .returned (.slice (some ⟨g, 0, none⟩) ls.length ls.length) ∧ w.grownBy w' none ∧ w.heap.size ≤ g ∧ g < w'.heap.size ∧ Views w' (fun q => D q ∨ q = g) (.slice (some ⟨g, 0, none⟩) ls.length ls.length) ls

/-- the new list of lists, filled up to `k` -/
def BetI (w : World) (D : Nat → Prop) (wr : World) (g n : Nat) (ls : List (List Int)) (k : Nat) (us : List Value) : Prop :=
  w.grownBy wr none ∧ us.length = k ∧ Box wr g (fillV n us).toArray 22 ∧ ∀ i, i < k → ∃ b off cap, us.getD i undef = .slice (some ⟨b, off, none⟩) (ls.getD i []).length cap ∧ (ls.getD i []).length ≤ cap ∧ D b ∧ b < w.heap.size ∧ ∀ j, j < (ls.getD i []).length → w.cell? ⟨b, off + j, none⟩ = some (.int .i64 ((ls.getD i []).getD j 0))

theorem fillV_set (n : Nat) (us : List Value) (x : Value) (h : us.length < n) : (fillV n us).set us.length x = fillV n (us ++ [x]) := fill_set' n us x _ h

theorem BetI.start {w w1 : World} (D : Nat → Prop) {g n : Nat} (ls : List (List Int)) (hg : w.grownBy w1 none) (hb : Box w1 g (List.replicate n (Value.slice none 0 0)).toArray 22) : BetI w D w1 g n ls 0 [] :=
  ⟨hg, rfl, by simpa [fillV] using hb, fun i hi => by omega⟩

theorem BetI.views {w wr : World} {D : Nat → Prop} {g : Nat} {ls : List (List Int)} {us : List Value} (h : BetI w D wr g ls.length ls ls.length us) : Views wr (fun q => D q ∨ q = g) (.slice (some ⟨g, 0, none⟩) ls.length ls.length) ls := by
  obtain ⟨hg, hul, hb, hi⟩ := h
  refine ⟨g, ls.length, rfl, Nat.le_refl _, .inr rfl, hb.lt, fun i hlt => ?_⟩
  obtain ⟨b, off, cap, hu, hcap, hD, hbl, hc⟩ := hi i hlt
  refine ⟨b, off, cap, .inl hD, Nat.lt_of_lt_of_le hbl hg.size, ?_, hcap, fun j u hj => ?_⟩
  · rw [hb.cell i, ← hu]
    simp [fillV, List.getD, hul, hlt]
  · have hjl : j < (ls.getD i []).length := by
      rcases Nat.lt_or_ge j (ls.getD i []).length with h1 | h1
      · exact h1
      · rw [List.getElem?_eq_none (by rw [List.length_map]; exact h1)] at hj; cases hj
    have e : (⟨b, off, none⟩ : Addr).add j = ⟨b, off + j, none⟩ := by
      unfold Addr.add
      split
      · rename_i e; rw [e, Nat.add_zero]
      · rfl
    rw [e, hg.cell (hc j hjl) (by simp), ← hj, map_get_int _ j hjl]

theorem BetI.next {w wr : World} {D : Nat → Prop} {g n k b off cap : Nat} {ls : List (List Int)} {us : List Value} (h : BetI w D wr g n ls k us) (hk : k < n) (hwg : w.heap.size ≤ g) (hcap : (ls.getD k []).length ≤ cap) (hD : D b) (hbl : b < w.heap.size)
    (hc : ∀ j, j < (ls.getD k []).length → w.cell? ⟨b, off + j, none⟩ = some (.int .i64 ((ls.getD k []).getD j 0))) :
    BetI w D (wr.setCell ⟨g, k, none⟩ (.slice (some ⟨b, off, none⟩) (ls.getD k []).length cap)) g n ls (k + 1) (us ++ [.slice (some ⟨b, off, none⟩) (ls.getD k []).length cap]) := by
  obtain ⟨hg, hul, hb, hi⟩ := h
  refine ⟨grown_new hg (grown_set _ _ _ _) (fun q e => by injection e with e; omega), by rw [List.length_append, hul]; rfl, ?_, fun i hlt => ?_⟩
  · have := hb.set k (.slice (some ⟨b, off, none⟩) (ls.getD k []).length cap)
    rw [List.setIfInBounds_toArray] at this
    have e := fillV_set n us (.slice (some ⟨b, off, none⟩) (ls.getD k []).length cap) (by omega)
    rw [hul] at e
    rw [e] at this
    exact this
  · rcases (show i < k ∨ i = k by omega) with h1 | rfl
    · rw [getD_snoc_lt _ _ _ _ (by omega)]
      exact hi i h1
    · refine ⟨b, off, cap, ?_, hcap, hD, hbl, hc⟩
      have := getD_snoc_eq us (.slice (some ⟨b, off, none⟩) (ls.getD i []).length cap) undef
      rw [hul] at this
      exact this

set_option maxHeartbeats 2000000 in
set_option maxRecDepth 20000 in
theorem qbetween (w : World) (D : Nat → Prop) (v : Value) (chs : List (List Int)) (n f t : Nat) (h : Ins w D v chs) (hc1 : 1 ≤ chs.length) (hc2 : chs.length ≤ 2) (hn : ∀ i, i < chs.length → (chs.getD i []).length = n) (hft : f < t) (htn : t ≤ n) :
    Calls Tryz.prog 21 #[v, .int .i64 f, .int .i64 t] w (BetPost w D (cutAll f t chs)) := by
  obtain ⟨i1, hi, hz0, hz1, hz2⟩ := info_parts Tryz.info22
  obtain ⟨a, c, rfl⟩ := h.slice
  obtain ⟨m, hm⟩ : ∃ m, chs.length = m := ⟨_, rfl⟩
  obtain ⟨ls, hls⟩ : ∃ ls, cutAll f t chs = ls := ⟨_, rfl⟩
  have hlm : ls.length = m := by rw [← hls, ← hm]; unfold cutAll; rw [List.length_map]
  have HLS : Hid (∀ i, i < m → (ls.getD i []).length = t - f ∧ ∀ j, j < t - f → (ls.getD i []).getD j 0 = (chs.getD i []).getD (f + j) 0) := by
    intro i hi'
    rw [← hls, cutAll_get f t chs i (by omega)]
    have hni := hn i (by omega)
    refine ⟨by rw [List.length_take, List.length_drop]; omega, fun j hj => ?_⟩
    simp [List.getD, hj]
  rw [hls]
  rw [hm] at h hc1 hc2 ⊢
  have HM : Hid (chs.length = m) := hm
  have HLM : Hid (ls.length = m) := hlm
  clear hm hls hlm
  go_enter Tryz.func21, Tryz.ntmps21
  go_wp2_with (first
    | (at_make; refine wpList_make_full _ rfl _ _ 23 rfl w.heap.size 22 i1 (.slice none 0 0) 1 Tryz.underlying23 hi hz0 hz1 _ _ _ _ m rfl rfl rfl rfl ?m1 ?m2 ?m3 ?_))
  case m1 => rw [hz2]; omega
  case m2 => unfold maxLen; omega
  case m3 => exact Nat.le_refl _
  intro w1 hmade hg1
  have hboxC : Box w1 w.heap.size (List.replicate m (Value.slice none 0 0)).toArray 22 := by
    rcases hmade.2 with ⟨e, _⟩ | ⟨g, cap, cur, e, _, hblk, _, _, hcs, htake⟩
    · cases e
    · simp only [Value.slice.injEq, Option.some.injEq, Addr.mk.injEq, and_true, true_and] at e
      obtain ⟨rfl, rfl⟩ := e
      rw [Nat.mul_one] at hcs htake
      have hr := replicate_of_made hcs htake
      rw [← hr]
      exact hblk
  have hB0 := BetI.start D ls hg1 hboxC
  obtain ⟨g, hg⟩ : ∃ g, w.heap.size = g := ⟨_, rfl⟩
  rw [hg] at hB0
  rw [hg]
  have HG : Hid (w.heap.size = g) := hg
  clear hmade hboxC hi hz0 hz1 hz2 hg hg1
  go_wp2_with fail
  go_loopg [15] m (fun gk t15 wr => ∃ (k : Nat) (us : List Value), gk + k = m ∧ t15 = .int .i64 k ∧ BetI w D wr g m ls k us)
  case atStart => exact ⟨0, [], rfl, rfl, hB0⟩
  case round =>
    clear hB0
    obtain ⟨k, us, hgk, rfl, hB⟩ := hrel
    by_cases hlt : k < m
    · obtain ⟨lg, vi, rfl, hck, hlo⟩ := h.at k (by rw [HM.out]; exact hlt)
      have hnk := hn k (by rw [HM.out]; exact hlt)
      rcases hlo with ⟨_, e0⟩ | ⟨b, off, cap, rfl, hcap, hD, hbl, hcells⟩
      · rw [e0] at hnk; simp at hnk; omega
      rw [hnk] at hck hcap
      obtain ⟨hl1, hl2⟩ := HLS.out k hlt
      have hckr : wr.cell? ⟨lg, k, none⟩ = some (.slice (some ⟨b, off, none⟩) n cap) := hB.1.cell hck (by simp)
      have hnext := hB.next hlt (by rw [HG.out]; exact Nat.le_refl _) (b := b) (off := off + f) (cap := cap - f) (by rw [hl1]; omega) hD hbl (fun j hj => by
        rw [hl1] at hj
        rw [hl2 j hj, Nat.add_assoc]
        exact hcells (f + j) (by omega))
      rw [hl1] at hnext
      have fz := hB.2.2.1.fz k
      have hgc : wr.cell? ⟨g, k, none⟩ = some (.slice none 0 0) := by
        rw [hB.2.2.1.cell k]
        have hul := hB.2.1
        unfold fillV
        rw [List.getElem?_toArray, List.getElem?_append_right (by omega), hul, Nat.sub_self, List.getElem?_replicate, if_pos (by omega)]
      have hkm : (k : Int) < (m : Int) := by omega
      have hf1 : (f : Int) ≤ (t : Int) := by omega
      have hf2 : (t : Int) ≤ (cap : Int) := by omega
      have HNX : Hid _ := hnext
      clear hnext hB hck hl1 hl2 hcells hnk h
      go_wp2
      go_roundg (gk - 1)
      case measure => omega
      case rel => exact ⟨k + 1, _, by omega, by go_num, HNX.out⟩
    · have hkm : k = m := by omega
      subst hkm
      have hpost : BetPost w D ls (.returned (.slice (some ⟨g, 0, none⟩) k k)) wr := by
        have h1 := hB
        rw [← HLM.out] at h1
        have h2 := h1.views
        rw [HLM.out] at h2
        exact ⟨g, by rw [HLM.out], hB.1, by rw [HG.out]; exact Nat.le_refl _, hB.2.2.1.lt, by rw [HLM.out]; exact h2⟩
      clear hB hgk hn h
      go_wp2
      exact bodyPost_ret (v := .slice (some ⟨g, 0, none⟩) k k) (by simp [results, Tryz.results21, go_sem]) rfl hpost
end Go.Proofs.YtncmgnmcggkhnaaGreat

namespace Go.Proofs.YtncmgnmcggkhnaaGreat
open Go.RowKit

theorem head_str (l : List UInt8) : (⟨#[102, 76, 97, 67]⟩ : ByteArray) ++ ⟨l.toArray⟩ = ⟨([102, 76, 97, 67] ++ l).toArray⟩ := by
  apply ByteArray.ext
  rw [ByteArray.data_append]
  simp

set_option maxHeartbeats 4000000 in
set_option maxRecDepth 20000 in
theorem qblwrite (w : World) (h : Head) (hok : headOk h = true) (hc1 : 1 ≤ h.channels) :
    Calls Tryz.prog 25 #[.agg (headC h)] w (FrWPost w (headBytes h)) := by
  obtain ⟨p1, p2, p3, p4, p5, p6, p7, p8⟩ := headOk_parts hok
  have hm1 : (h.channels : Int) - 1 = ((h.channels - 1 : Nat) : Int) := by omega
  have hm2 : (h.bits : Int) - 1 = ((h.bits - 1 : Nat) : Int) := by omega
  obtain ⟨wi, hwi⟩ : ∃ wi, w.alloc (.cells (headC h) 46) = wi := ⟨_, rfl⟩
  have hgi : w.grownBy wi none := by rw [← hwi]; exact grown_alloc (grown_refl _ _) _
  have hbi : Box wi w.heap.size (headC h) 46 := by rw [← hwi]; exact Box.new _ _ _
  obtain ⟨gi, hgi0⟩ : ∃ gi, w.heap.size = gi := ⟨_, rfl⟩
  have hsi : wi.heap.size = gi + 1 := by rw [← hwi, ← hgi0]; simp
  obtain ⟨w0, hw0⟩ : ∃ w0, wi.alloc (.cells #[.slice none 0 0, .int .i64 0] 85) = w0 := ⟨_, rfl⟩
  have hg0 : wi.grownBy w0 none := by rw [← hw0]; exact grown_alloc (grown_refl _ _) _
  have hW0 := WrS.start wi
  rw [hw0, hsi] at hW0
  have HNEW : Hid (∀ wr v', Wrote w0 wr (gi + 1) (.slice none 0 0) v' → w.grownBy wr none ∧ Box wr gi (headC h) 46) := fun wr v' h9 => by
    rw [← hsi] at h9
    have h1 := wrote_new hw0 h9
    exact ⟨grown_trans hgi h1, by rw [← hgi0]; exact hbi.kept h1 (by simp)⟩
  have hb0 : gi + 1 + 1 ≤ w0.heap.size := by rw [← hw0]; simp; omega
  have HWI : Hid (w.alloc (.cells #[Value.int .i64 h.block, .int .i64 h.rate, .int .i64 h.channels, .int .i64 h.bits, .int .i64 h.total] 46) = wi) := hwi
  have HGI : Hid (w.heap.size = gi) := hgi0
  have HSI : Hid (wi.heap.size = gi + 1) := hsi
  have HW0 : Hid (wi.alloc (.cells #[.slice none 0 0, .int .i64 0] 85) = w0) := hw0
  have hwz : Wrote w0 w0 (gi + 1) (.slice none 0 0) (.slice none 0 0) := Wrote.refl _ _ _
  clear hwi hgi hbi hgi0 hsi hw0 hg0
  unfold headC
  go_enter Tryz.func25, Tryz.ntmps25
  go_upto_region 1 with fail
  rw [HWI.out, HGI.out]
  go_upto_region 2 with fail
  rw [HW0.out, HSI.out]
  clear HWI HW0 HSI
  have H1 : Calls _ _ #[_, .int .i64 1, .int .i64 1] _ _ := qwnum w0 (gi + 1) (gi + 1 + 1) (.slice none 0 0) _ ((1 : Nat) : Int) 1 hW0 hb0 (by simp) (by omega) (by omega)
  go_wp2_with fail
  refine H1.mono ?_
  rintro e w1 ⟨rfl, v1, hs1, hw1⟩
  have hb1 := Nat.le_trans hb0 hw1.kp.size
  have hz1 := hwz.trans hw1
  clear H1
  have H2 : Calls _ _ #[_, .int .i64 0, .int .i64 7] _ _ := qwnum w1 (gi + 1) (gi + 1 + 1) v1 _ ((0 : Nat) : Int) 7 hs1 hb1 (by simp [numBits_length]) (by omega) (by omega)
  go_wp2_with fail
  refine H2.mono ?_
  rintro e w2 ⟨rfl, v2, hs2, hw2⟩
  have hb2 := Nat.le_trans hb1 hw2.kp.size
  have hz2 := hz1.trans hw2
  clear H2
  have H3 : Calls _ _ #[_, .int .i64 34, .int .i64 24] _ _ := qwnum w2 (gi + 1) (gi + 1 + 1) v2 _ ((34 : Nat) : Int) 24 hs2 hb2 (by simp [numBits_length]) (by omega) (by omega)
  go_wp2_with fail
  refine H3.mono ?_
  rintro e w3 ⟨rfl, v3, hs3, hw3⟩
  have hb3 := Nat.le_trans hb2 hw3.kp.size
  have hz3 := hz2.trans hw3
  clear H3
  have H4 : Calls _ _ #[_, .int .i64 h.block, .int .i64 16] _ _ := qwnum w3 (gi + 1) (gi + 1 + 1) v3 _ (h.block : Int) 16 hs3 hb3 (by simp [numBits_length]) (by omega) (by omega)
  have kf4 : w3.cell? ⟨gi, 0, none⟩ = some (.int .i64 h.block) := (HNEW.out w3 _ hz3).2.cell 0
  go_wp2_with fail
  refine H4.mono ?_
  rintro e w4 ⟨rfl, v4, hs4, hw4⟩
  have hb4 := Nat.le_trans hb3 hw4.kp.size
  have hz4 := hz3.trans hw4
  clear H4 kf4
  have H5 : Calls _ _ #[_, .int .i64 h.block, .int .i64 16] _ _ := qwnum w4 (gi + 1) (gi + 1 + 1) v4 _ (h.block : Int) 16 hs4 hb4 (by simp [numBits_length]) (by omega) (by omega)
  have kf5 : w4.cell? ⟨gi, 0, none⟩ = some (.int .i64 h.block) := (HNEW.out w4 _ hz4).2.cell 0
  go_wp2_with fail
  refine H5.mono ?_
  rintro e w5 ⟨rfl, v5, hs5, hw5⟩
  have hb5 := Nat.le_trans hb4 hw5.kp.size
  have hz5 := hz4.trans hw5
  clear H5 kf5
  have H6 : Calls _ _ #[_, .int .i64 0, .int .i64 24] _ _ := qwnum w5 (gi + 1) (gi + 1 + 1) v5 _ ((0 : Nat) : Int) 24 hs5 hb5 (by simp [numBits_length]) (by omega) (by omega)
  go_wp2_with fail
  refine H6.mono ?_
  rintro e w6 ⟨rfl, v6, hs6, hw6⟩
  have hb6 := Nat.le_trans hb5 hw6.kp.size
  have hz6 := hz5.trans hw6
  clear H6
  have H7 : Calls _ _ #[_, .int .i64 0, .int .i64 24] _ _ := qwnum w6 (gi + 1) (gi + 1 + 1) v6 _ ((0 : Nat) : Int) 24 hs6 hb6 (by simp [numBits_length]) (by omega) (by omega)
  go_wp2_with fail
  refine H7.mono ?_
  rintro e w7 ⟨rfl, v7, hs7, hw7⟩
  have hb7 := Nat.le_trans hb6 hw7.kp.size
  have hz7 := hz6.trans hw7
  clear H7
  have H8 : Calls _ _ #[_, .int .i64 h.rate, .int .i64 20] _ _ := qwnum w7 (gi + 1) (gi + 1 + 1) v7 _ (h.rate : Int) 20 hs7 hb7 (by simp [numBits_length]) (by omega) (by omega)
  have kf8 : w7.cell? ⟨gi, 1, none⟩ = some (.int .i64 h.rate) := (HNEW.out w7 _ hz7).2.cell 1
  go_wp2_with fail
  refine H8.mono ?_
  rintro e w8 ⟨rfl, v8, hs8, hw8⟩
  have hb8 := Nat.le_trans hb7 hw8.kp.size
  have hz8 := hz7.trans hw8
  clear H8 kf8
  have H9 : Calls _ _ #[_, .int .i64 ((h.channels - 1 : Nat) : Int), .int .i64 3] _ _ := qwnum w8 (gi + 1) (gi + 1 + 1) v8 _ ((h.channels - 1 : Nat) : Int) 3 hs8 hb8 (by simp [numBits_length]) (by omega) (by omega)
  have kf9 : w8.cell? ⟨gi, 2, none⟩ = some (.int .i64 h.channels) := (HNEW.out w8 _ hz8).2.cell 2
  go_wp2_with fail
  refine H9.mono ?_
  rintro e w9 ⟨rfl, v9, hs9, hw9⟩
  have hb9 := Nat.le_trans hb8 hw9.kp.size
  have hz9 := hz8.trans hw9
  clear H9 kf9
  have H10 : Calls _ _ #[_, .int .i64 ((h.bits - 1 : Nat) : Int), .int .i64 5] _ _ := qwnum w9 (gi + 1) (gi + 1 + 1) v9 _ ((h.bits - 1 : Nat) : Int) 5 hs9 hb9 (by simp [numBits_length]) (by omega) (by omega)
  have kf10 : w9.cell? ⟨gi, 3, none⟩ = some (.int .i64 h.bits) := (HNEW.out w9 _ hz9).2.cell 3
  go_wp2_with fail
  refine H10.mono ?_
  rintro e w10 ⟨rfl, v10, hs10, hw10⟩
  have hb10 := Nat.le_trans hb9 hw10.kp.size
  have hz10 := hz9.trans hw10
  clear H10 kf10
  have H11 : Calls _ _ #[_, .int .i64 h.total, .int .i64 36] _ _ := qwnum w10 (gi + 1) (gi + 1 + 1) v10 _ (h.total : Int) 36 hs10 hb10 (by simp [numBits_length]) (by omega) (by omega)
  have kf11 : w10.cell? ⟨gi, 4, none⟩ = some (.int .i64 h.total) := (HNEW.out w10 _ hz10).2.cell 4
  go_wp2_with fail
  refine H11.mono ?_
  rintro e w11 ⟨rfl, v11, hs11, hw11⟩
  have hb11 := Nat.le_trans hb10 hw11.kp.size
  have hz11 := hz10.trans hw11
  clear H11 kf11
  have H12 : Calls _ _ #[_, .int .i64 0, .int .i64 128] _ _ := qwnum w11 (gi + 1) (gi + 1 + 1) v11 _ ((0 : Nat) : Int) 128 hs11 hb11 (by simp [numBits_length]) (by omega) (by omega)
  go_wp2_with fail
  refine H12.mono ?_
  rintro e w12 ⟨rfl, v12, hs12, hw12⟩
  have hb12 := Nat.le_trans hb11 hw12.kp.size
  have hz12 := hz11.trans hw12
  clear H12
  have hL : (((((((((((([] : List Bool) ++ numBits ((1 : Nat) : Int) 1) ++ numBits ((0 : Nat) : Int) 7) ++ numBits ((34 : Nat) : Int) 24) ++ numBits (h.block : Int) 16) ++ numBits (h.block : Int) 16) ++ numBits ((0 : Nat) : Int) 24) ++ numBits ((0 : Nat) : Int) 24) ++ numBits (h.rate : Int) 20) ++ numBits ((h.channels - 1 : Nat) : Int) 3) ++ numBits ((h.bits - 1 : Nat) : Int) 5) ++ numBits (h.total : Int) 36) ++ numBits ((0 : Nat) : Int) 128 = infoBits h := by
    unfold infoBits
    simp only [List.append_assoc, List.nil_append]
  rw [hL] at hs12
  have HST := qwstring w12 (gi + 1) (gi + 1 + 1) v12 _ hs12 (by rw [infoBits_length]; omega)
  have hgf := (HNEW.out w12 v12 hz12).1
  have hstr := head_str (pack (infoBits h))
  have hsz : (⟨(pack (infoBits h)).toArray⟩ : ByteArray).size = 38 := by show (pack (infoBits h)).toArray.size = 38; rw [List.size_toArray, pack_length, infoBits_length]
  have hpost : FrWPost w (headBytes h) (.returned (.string ⟨(headBytes h).toArray⟩)) w12 := ⟨rfl, hgf⟩
  have HSTR : Hid ((⟨#[102, 76, 97, 67]⟩ : ByteArray) ++ ⟨(pack (infoBits h)).toArray⟩ = ⟨(headBytes h).toArray⟩) := hstr
  clear hs1 hs2 hs3 hs4 hs5 hs6 hs7 hs8 hs9 hs10 hs11 hs12 hL hgf hstr hw1 hw2 hw3 hw4 hw5 hw6 hw7 hw8 hw9 hw10 hw11 hw12 hz1 hz2 hz3 hz4 hz5 hz6 hz7 hz8 hz9 hz10 hz11 hz12
  go_wp2_with (go_at_call 36; refine HST.mono ?_; rintro e w13 ⟨rfl, rfl⟩)
  rw [HSTR.out]
  exact bodyPost_ret (v := .string ⟨(headBytes h).toArray⟩) (by simp [results, Tryz.results25, go_sem]) rfl hpost
end Go.Proofs.YtncmgnmcggkhnaaGreat
