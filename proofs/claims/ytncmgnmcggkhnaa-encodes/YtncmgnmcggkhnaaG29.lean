import Derived.Test.YtncmgnmcggkhnaaG28
import Derived.Lib.Builder
import Derived.Lib.AppendStr
import Derived.Lib.UnsafeStr
import Derived.Laws.Externs
namespace Go.Proofs.Ytncmgnmcggkhnaa
open Go.RowKit

def BetPost (w : World) (D : Nat → Prop) (ls : List (List Int)) (e : Ending) (w' : World) : Prop :=
  ∃ g, e = .returned (.slice (some ⟨g, 0, none⟩) ls.length ls.length) ∧ w.grownBy w' none ∧ w.heap.size ≤ g ∧ g < w'.heap.size ∧ Views w' (fun q => D q ∨ q = g) (.slice (some ⟨g, 0, none⟩) ls.length ls.length) ls

/-- the new list of lists, filled up to `k` -/
def BetI (w : World) (D : Nat → Prop) (wr : World) (g n : Nat) (ls : List (List Int)) (k : Nat) (us : List Value) : Prop :=
  w.grownBy wr none ∧ us.length = k ∧ Box wr g (fillV n us).toArray 30 ∧ ∀ i, i < k → ∃ b off cap, us.getD i undef = .slice (some ⟨b, off, none⟩) (ls.getD i []).length cap ∧ (ls.getD i []).length ≤ cap ∧ D b ∧ b < w.heap.size ∧ ∀ j, j < (ls.getD i []).length → w.cell? ⟨b, off + j, none⟩ = some (.int .i64 ((ls.getD i []).getD j 0))

theorem fillV_set (n : Nat) (us : List Value) (x : Value) (h : us.length < n) : (fillV n us).set us.length x = fillV n (us ++ [x]) := fill_set' n us x _ h

theorem BetI.start {w w1 : World} (D : Nat → Prop) {g n : Nat} (ls : List (List Int)) (hg : w.grownBy w1 none) (hb : Box w1 g (List.replicate n (Value.slice none 0 0)).toArray 30) : BetI w D w1 g n ls 0 [] :=
  ⟨hg, rfl, by simpa [fillV] using hb, fun i hi => by omega⟩

theorem BetI.views {w wr : World} {D : Nat → Prop} {g : Nat} {ls : List (List Int)} {us : List Value} (h : BetI w D wr g ls.length ls ls.length us) : Views wr (fun q => D q ∨ q = g) (.slice (some ⟨g, 0, none⟩) ls.length ls.length) ls := by
  obtain ⟨hg, hul, hb, hi⟩ := h
  refine ⟨g, ls.length, rfl, Nat.le_refl _, .inr rfl, hb.lt, fun i hlt => ?_⟩
  obtain ⟨b, off, cap, hu, hcap, hD, hbl, hc⟩ := hi i hlt
  refine ⟨b, off, cap, .inl hD, Nat.lt_of_lt_of_le hbl hg.size, ?_, hcap, fun j u hj => ?_⟩
  · rw [hb.cell i, ← hu]
    simp [fillV, List.getD, hul, hlt]
  · have hjl : j < (ls.getD i []).length := by
      rcases Nat.lt_or_ge j (ls.getD i []).length with h1 | h1
      · exact h1
      · rw [List.getElem?_eq_none (by rw [List.length_map]; exact h1)] at hj; cases hj
    have e : (⟨b, off, none⟩ : Addr).add j = ⟨b, off + j, none⟩ := by
      unfold Addr.add
      split
      · rename_i e; rw [e, Nat.add_zero]
      · rfl
    rw [e, hg.cell (hc j hjl) (by simp), ← hj, map_get_int _ j hjl]

theorem BetI.next {w wr : World} {D : Nat → Prop} {g n k b off cap : Nat} {ls : List (List Int)} {us : List Value} (h : BetI w D wr g n ls k us) (hk : k < n) (hwg : w.heap.size ≤ g) (hcap : (ls.getD k []).length ≤ cap) (hD : D b) (hbl : b < w.heap.size)
    (hc : ∀ j, j < (ls.getD k []).length → w.cell? ⟨b, off + j, none⟩ = some (.int .i64 ((ls.getD k []).getD j 0))) :
    BetI w D (wr.setCell ⟨g, k, none⟩ (.slice (some ⟨b, off, none⟩) (ls.getD k []).length cap)) g n ls (k + 1) (us ++ [.slice (some ⟨b, off, none⟩) (ls.getD k []).length cap]) := by
  obtain ⟨hg, hul, hb, hi⟩ := h
  refine ⟨grown_new hg (grown_set _ _ _ _) (fun q e => by injection e with e; omega), by rw [List.length_append, hul]; rfl, ?_, fun i hlt => ?_⟩
  · have := hb.set k (.slice (some ⟨b, off, none⟩) (ls.getD k []).length cap)
    rw [List.setIfInBounds_toArray] at this
    have e := fillV_set n us (.slice (some ⟨b, off, none⟩) (ls.getD k []).length cap) (by omega)
    rw [hul] at e
    rw [e] at this
    exact this
  · rcases (show i < k ∨ i = k by omega) with h1 | rfl
    · rw [getD_snoc_lt _ _ _ _ (by omega)]
      exact hi i h1
    · refine ⟨b, off, cap, ?_, hcap, hD, hbl, hc⟩
      have := getD_snoc_eq us (.slice (some ⟨b, off, none⟩) (ls.getD i []).length cap) undef
      rw [hul] at this
      exact this

set_option maxHeartbeats 2000000 in
set_option maxRecDepth 20000 in
theorem qbetween (w : World) (D : Nat → Prop) (v : Value) (chs : List (List Int)) (n f t : Nat) (h : Ins w D v chs) (hc1 : 1 ≤ chs.length) (hc2 : chs.length ≤ 2) (hn : ∀ i, i < chs.length → (chs.getD i []).length = n) (hft : f < t) (htn : t ≤ n) :
    Calls Try.prog 50 #[v, .int .i64 f, .int .i64 t] w (BetPost w D (cutAll f t chs)) := by
  obtain ⟨i1, hi, hz0, hz1, hz2⟩ := info_parts Try.info30
  obtain ⟨a, c, rfl⟩ := h.slice
  obtain ⟨m, hm⟩ : ∃ m, chs.length = m := ⟨_, rfl⟩
  obtain ⟨ls, hls⟩ : ∃ ls, cutAll f t chs = ls := ⟨_, rfl⟩
  have hlm : ls.length = m := by rw [← hls, ← hm]; unfold cutAll; rw [List.length_map]
  have HLS : Hid (∀ i, i < m → (ls.getD i []).length = t - f ∧ ∀ j, j < t - f → (ls.getD i []).getD j 0 = (chs.getD i []).getD (f + j) 0) := by
    intro i hi'
    rw [← hls, cutAll_get f t chs i (by omega)]
    have hni := hn i (by omega)
    refine ⟨by rw [List.length_take, List.length_drop]; omega, fun j hj => ?_⟩
    simp [List.getD, hj]
  rw [hls]
  rw [hm] at h hc1 hc2 ⊢
  have HM : Hid (chs.length = m) := hm
  have HLM : Hid (ls.length = m) := hlm
  clear hm hls hlm
  go_enter Try.func50, Try.ntmps50
  go_wp2_with (first
    | (at_make; refine wpList_make_full _ rfl _ _ 24 rfl w.heap.size 30 i1 (.slice none 0 0) 1 Try.underlying24 hi hz0 hz1 _ _ _ _ m rfl rfl rfl rfl ?m1 ?m2 ?m3 ?_))
  case m1 => rw [hz2]; omega
  case m2 => unfold maxLen; omega
  case m3 => exact Nat.le_refl _
  intro w1 hmade hg1
  have hboxC : Box w1 w.heap.size (List.replicate m (Value.slice none 0 0)).toArray 30 := by
    rcases hmade.2 with ⟨e, _⟩ | ⟨g, cap, cur, e, _, hblk, _, _, hcs, htake⟩
    · cases e
    · simp only [Value.slice.injEq, Option.some.injEq, Addr.mk.injEq, and_true, true_and] at e
      obtain ⟨rfl, rfl⟩ := e
      rw [Nat.mul_one] at hcs htake
      have hr := replicate_of_made hcs htake
      rw [← hr]
      exact hblk
  have hB0 := BetI.start D ls hg1 hboxC
  obtain ⟨g, hg⟩ : ∃ g, w.heap.size = g := ⟨_, rfl⟩
  rw [hg] at hB0
  rw [hg]
  have HG : Hid (w.heap.size = g) := hg
  clear hmade hboxC hi hz0 hz1 hz2 hg hg1
  go_wp2_with fail
  go_loopg [15] m (fun gk t15 wr => ∃ (k : Nat) (us : List Value), gk + k = m ∧ t15 = .int .i64 k ∧ BetI w D wr g m ls k us)
  case atStart => exact ⟨0, [], rfl, rfl, hB0⟩
  case round =>
    clear hB0
    obtain ⟨k, us, hgk, rfl, hB⟩ := hrel
    by_cases hlt : k < m
    · obtain ⟨lg, vi, rfl, hck, hlo⟩ := h.at k (by rw [HM.out]; exact hlt)
      have hnk := hn k (by rw [HM.out]; exact hlt)
      rcases hlo with ⟨_, e0⟩ | ⟨b, off, cap, rfl, hcap, hD, hbl, hcells⟩
      · rw [e0] at hnk; simp at hnk; omega
      rw [hnk] at hck hcap
      obtain ⟨hl1, hl2⟩ := HLS.out k hlt
      have hckr : wr.cell? ⟨lg, k, none⟩ = some (.slice (some ⟨b, off, none⟩) n cap) := hB.1.cell hck (by simp)
      have hnext := hB.next hlt (by rw [HG.out]; exact Nat.le_refl _) (b := b) (off := off + f) (cap := cap - f) (by rw [hl1]; omega) hD hbl (fun j hj => by
        rw [hl1] at hj
        rw [hl2 j hj, Nat.add_assoc]
        exact hcells (f + j) (by omega))
      rw [hl1] at hnext
      have fz := hB.2.2.1.fz k
      have hgc : wr.cell? ⟨g, k, none⟩ = some (.slice none 0 0) := by
        rw [hB.2.2.1.cell k]
        have hul := hB.2.1
        unfold fillV
        rw [List.getElem?_toArray, List.getElem?_append_right (by omega), hul, Nat.sub_self, List.getElem?_replicate, if_pos (by omega)]
      have hkm : (k : Int) < (m : Int) := by omega
      have hf1 : (f : Int) ≤ (t : Int) := by omega
      have hf2 : (t : Int) ≤ (cap : Int) := by omega
      have HNX : Hid _ := hnext
      clear hnext hB hck hl1 hl2 hcells hnk h
      go_wp2
      go_roundg (gk - 1)
      case measure => omega
      case rel => exact ⟨k + 1, _, by omega, by go_num, HNX.out⟩
    · have hkm : k = m := by omega
      subst hkm
      have hpost : BetPost w D ls (.returned (.slice (some ⟨g, 0, none⟩) k k)) wr := by
        have h1 := hB
        rw [← HLM.out] at h1
        have h2 := h1.views
        rw [HLM.out] at h2
        exact ⟨g, by rw [HLM.out], hB.1, by rw [HG.out]; exact Nat.le_refl _, hB.2.2.1.lt, by rw [HLM.out]; exact h2⟩
      clear hB hgk hn h
      go_wp2
      exact bodyPost_ret (v := .slice (some ⟨g, 0, none⟩) k k) (by simp [results, Try.results50, go_sem]) rfl hpost
end Go.Proofs.Ytncmgnmcggkhnaa

namespace Go.Proofs.Ytncmgnmcggkhnaa
open Go.RowKit

theorem bldSize : (Try.prog.info? 95).map (·.size) = some 2 := by kernel_rfl
theorem bldLies : liesAt Try.prog Try.prog.depth 95 (2 / Try.prog.cellsOf 95) 0 95 1 = true := by kernel_rfl
theorem bldPtr : Try.prog.underlying 93 = some (.pointer 95) := by kernel_rfl
theorem bldUns : Try.prog.underlying 153 = some .unsafePointer := by kernel_rfl
theorem bldByteP : Try.prog.underlying 133 = some (.pointer 5) := by kernel_rfl
theorem bldCells : Try.prog.cellsOf 5 = 1 := by kernel_rfl

/-- a builder in memory -/
structure BldS (w : World) (gb base : Nat) (p v : Value) (bs : List UInt8) : Prop where
  box : Box w gb #[p, v] 95
  row : w.ownsRow base 5 1 v bs.length (bs.map byteV)
  lt : gb < base
  ptr : p = .pointer none ∨ p = .pointer (some ⟨gb, 0, none⟩)

theorem Box.shape {w : World} {g : Nat} {cs : Array Value} {t : TypeId} (h : Box w g cs t) : w.shape? g = some (t, cs.size) := by
  unfold Box at h
  simp [World.shape?, h]

set_option maxHeartbeats 1000000 in
set_option maxRecDepth 100000 in
theorem qcopycheck (w : World) (gb : Nat) (p v : Value) (hb : Box w gb #[p, v] 95) (hp : p = .pointer none ∨ p = .pointer (some ⟨gb, 0, none⟩)) :
    Calls Try.prog 71 #[.pointer (some ⟨gb, 0, none⟩)] w fun e w' => e = .returned (.tuple #[]) ∧ Box w' gb #[.pointer (some ⟨gb, 0, none⟩), v] 95 ∧ w.grownBy w' (some gb) := by
  obtain ⟨j, hj, hjs⟩ := Option.map_eq_some_iff.1 bldSize
  rcases hp with rfl | rfl
  · have h0 : w.cell? ⟨gb, 0, none⟩ = some (.pointer none) := hb.cell 0
    have hf := hb.fz 0
    have hsh := hb.shape
    have hset := hb.set 0 (.pointer (some ⟨gb, 0, none⟩))
    go_enter Try.func71, Try.ntmps71
    go_wp2
    rw [Lib.run_to_unsafe w ⟨gb, 0, none⟩ bldPtr bldUns hj (by rw [hjs]; decide) hsh (by simp)]
    simp only [Result.andThen]
    rw [Oper.upon_value]
    go_wp2
    rw [run_callFunc_extern Try.func99 (by kernel_rfl) (by kernel_rfl) (by kernel_rfl) (e := Extern.AbiNoEscape.same) (by kernel_rfl)]
    rw [Lib.run_noEscape]
    simp only [Result.andThen]
    rw [Oper.upon_value]
    go_wp2
    rw [Lib.run_from_unsafe w ⟨gb, 0, none⟩ bldUns bldPtr hj hsh bldLies]
    simp only [Result.andThen]
    rw [Oper.upon_value]
    go_wp2
    exact bodyPost_end (v := .tuple #[]) (by simp [results, Try.results71, go_sem]) rfl ⟨rfl, hset, grown_set _ _ _ _⟩
  · have h0 : w.cell? ⟨gb, 0, none⟩ = some (.pointer (some ⟨gb, 0, none⟩)) := hb.cell 0
    go_enter Try.func71, Try.ntmps71
    go_wp2
    rw [Lib.run_neq_ptr_same w _ bldPtr hj]
    go_wp2
    exact bodyPost_end (v := .tuple #[]) (by simp [results, Try.results71, go_sem]) rfl ⟨rfl, hb, grown_refl _ _⟩

def BldPost (w : World) (gb base : Nat) (bs : List UInt8) (w' : World) : Prop := ∃ v, BldS w' gb base (.pointer (some ⟨gb, 0, none⟩)) v bs ∧ Kp w w' (fun b => b = gb ∨ base ≤ b)

theorem strCells_bytes (s : ByteArray) : Lib.strCells s = s.data.toList.map byteV := by
  unfold Lib.strCells byteV
  rfl

set_option maxHeartbeats 2000000 in
set_option maxRecDepth 100000 in
theorem qbwrite (w : World) (gb base : Nat) (p v : Value) (bs : List UInt8) (s : ByteArray) (h : BldS w gb base p v bs) (hb : base ≤ w.heap.size) (hl : bs.length ≤ 1099511627776) (hs : s.size ≤ 1099511627776) :
    Calls Try.prog 48 #[.pointer (some ⟨gb, 0, none⟩), .string s] w fun e w' => e = .returned (.tuple #[.int .i64 s.size, .nilIface]) ∧ BldPost w gb base (bs ++ s.data.toList) w' := by
  obtain ⟨i0, hi, hz0, hz1, hz2⟩ := info_parts infoU8
  have HCC := qcopycheck w gb p v h.box h.ptr
  obtain ⟨a, cp, rfl⟩ := row_slice h.row
  have hrow := h.row
  have hlt := h.lt
  obtain ⟨n, hn⟩ : ∃ n, bs.length = n := ⟨_, rfl⟩
  rw [hn] at HCC hrow hl
  have HN : Hid (bs.length = n) := hn
  have hnow : ∀ q, (Value.slice a n cp).ownBlock = some q → base ≤ q ∧ q < w.heap.size := fun q hq => World.ownsRow.lt hrow q hq
  clear h hn
  go_enter Try.func48, Try.ntmps48
  go_wp2_with fail
  refine HCC.mono ?_
  rintro e w1 ⟨rfl, hbx, hg1⟩
  have hrow1 := World.ownsRow.kept hrow hg1 (by
    cases hq : (Value.slice a n cp).ownBlock with
    | none => exact .inl rfl
    | some q => exact .inr (fun e => by injection e with e; have := (hnow q hq).1; omega))
  have c1 : w1.cell? ⟨gb, 1, none⟩ = some (.slice a n cp) := hbx.cell 1
  clear HCC hrow
  go_wp2_with (at_builtin; refine Lib.wpList_append_own_string _ rfl _ _ 59 9 rfl base 5 i0 Try.underlying59 Try.underlying9 hi hz0 hz1 hz2 _ _ _ rfl hrow1 s rfl ?c3 ?c4 ?c5 ?_)
  case c3 => unfold maxLen; omega
  case c4 => omega
  case c5 => have := hg1.size; omega
  intro v' w2 hown' hgrow _
  obtain ⟨a', cp', rfl⟩ := row_slice hown'
  have hbx2 := hbx.kept hgrow (fun e => by have := (hnow gb e.symm).1; omega)
  have d1 : w2.cell? ⟨gb, 1, none⟩ = some (.slice a n cp) := hbx2.cell 1
  have f1 := hbx2.fz 1
  have hset := hbx2.set 1 (.slice a' (n + s.size) cp')
  have hsg := grown_set w2 gb 1 (.slice a' (n + s.size) cp')
  have hrow3 := World.ownsRow.kept hown' hsg (by
    cases hq : (Value.slice a' (n + s.size) cp').ownBlock with
    | none => exact .inl rfl
    | some q => exact .inr (fun e => by injection e with e; have := (World.ownsRow.lt hown' q hq).1; omega))
  have hk : Kp w (w2.setCell ⟨gb, 1, none⟩ (.slice a' (n + s.size) cp')) (fun b => b = gb ∨ base ≤ b) := by
    refine ((Kp.mono (Kp.of hg1) (fun b hb => .inl (.inl (by injection hb)))).trans (Kp.of hgrow) (fun b hb => .inl (.inr (hnow b hb.symm).1))).trans (Kp.of hsg) (fun b hb => .inl (.inl (by injection hb)))
  have hpost : BldPost w gb base (bs ++ s.data.toList) (w2.setCell ⟨gb, 1, none⟩ (.slice a' (n + s.size) cp')) := by
    refine ⟨_, ⟨hset, ?_, hlt, .inr rfl⟩, hk⟩
    have hln : (bs ++ s.data.toList).length = n + s.size := by rw [List.length_append, HN.out]; simp
    rw [hln, List.map_append, ← strCells_bytes]
    exact hrow3
  clear hset hrow3 hk hown' hgrow hsg hrow1 hbx hbx2 hg1 hi hz0 hz1 hz2 c1
  go_wp2
  exact bodyPost_ret (v := .tuple #[.int .i64 s.size, .nilIface]) (by simp [results, Try.results48, go_sem]) rfl ⟨rfl, hpost⟩

set_option maxHeartbeats 1000000 in
set_option maxRecDepth 100000 in
theorem qbstring (w : World) (gb base : Nat) (p v : Value) (bs : List UInt8) (h : BldS w gb base p v bs) (h0 : bs ≠ []) :
    Calls Try.prog 52 #[.pointer (some ⟨gb, 0, none⟩)] w fun e w' => e = .returned (.string ⟨bs.toArray⟩) ∧ Below base w w' := by
  have hl0 : 1 ≤ bs.length := List.length_pos_iff.mpr h0
  have hrow := h.row
  obtain ⟨g, cap, cur, rfl, hbg, hg, hnc, hcm, hcs, htake⟩ : ∃ g cap cur, v = .slice (some ⟨g, 0, none⟩) bs.length cap ∧ base ≤ g ∧ w.heap[g]? = some (.cells cur 5 (0, 0)) ∧ bs.length ≤ cap ∧ cap ≤ maxLen ∧ cur.size = cap * 1 ∧ cur.toList.take (bs.length * 1) = bs.map byteV := by
    rcases hrow.2 with ⟨_, hz⟩ | ⟨g, cap, cur, hv, r⟩
    · omega
    · exact ⟨g, cap, cur, hv, r⟩
  have c1 : w.cell? ⟨gb, 1, none⟩ = some (.slice (some ⟨g, 0, none⟩) bs.length cap) := h.box.cell 1
  have hSD : (Builtin.unsafeSliceData_ #[59] 133 #[.slice (some ⟨g, 0, none⟩) bs.length cap]).run Try.prog w.drew = .ok (.pointer (some ⟨g, 0, none⟩)) w.drew :=
    Lib.run_unsafeSliceData_row _ _ _ _ _ _ (by omega)
  have hUS : (Builtin.unsafeString_ #[133, 3] 9 #[.pointer (some ⟨g, 0, none⟩), .int .i64 bs.length]).run Try.prog w.drew = .ok (.string ⟨bs.toArray⟩) (w.drew.freeze ⟨g, 0, none⟩ bs.length) := by
    refine Lib.run_unsafeString_row w.drew 133 3 9 5 bldByteP bldCells g cur.size (by have hg' : w.drew.heap[g]? = some (.cells cur 5 (0, 0)) := hg; simp [World.shape?, hg']) bs h0 (by omega) (by unfold maxLen at hcm; omega) ?_
    intro j x hx
    have hj : j < bs.length := by
      rcases Nat.lt_or_ge j bs.length with h1 | h1
      · exact h1
      · rw [List.getElem?_eq_none h1] at hx; cases hx
    have e : (⟨g, 0, none⟩ : Addr).add j = ⟨g, j, none⟩ := addr_add g j
    rw [e]
    show w.cell? ⟨g, j, none⟩ = _
    rw [World.ownsRow.cellAt hrow j (by omega), List.getElem?_map, hx]
    rfl
  clear hrow hcs htake h
  go_enter Try.func52, Try.ntmps52
  go_wp2
  go_region
  all_goals
    go_wp2
    exact bodyPost_ret (v := .string ⟨bs.toArray⟩) (by simp [results, Try.results52, go_sem]) rfl ⟨rfl, Lib.below_freeze (Below.drew (Below.refl base w)) (p := ⟨g, 0, none⟩) hbg _⟩
end Go.Proofs.Ytncmgnmcggkhnaa
