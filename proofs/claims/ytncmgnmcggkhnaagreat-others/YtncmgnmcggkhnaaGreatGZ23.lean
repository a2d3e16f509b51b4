import Derived.Test.YtncmgnmcggkhnaaGreatGZ21
import Derived.Test.YtncmgnmcggkhnaaGreatGZ20
import Derived.Test.YtncmgnmcggkhnaaGreatGZ13
import Derived.Test.YtncmgnmcggkhnaaGreatGZ11
import Derived.BigQuiet
import Derived.Test.YtncmgnmcggkhnaaGreatGZ12
namespace Go.Proofs.YtncmgnmcggkhnaaGreat
open Go.RowKit

def BetPost (w : World) (D : Nat → Prop) (ls : List (List Int)) (e : Ending) (w' : World) : Prop :=
  ∃ g, e = .returned (.slice (some ⟨g, 0, none⟩) ls.length ls.length) ∧ w.grownBy w' none ∧ w.heap.size ≤ g ∧ g < w'.heap.size ∧ Views w' (fun q => D q ∨ q = g) (.slice (some ⟨g, 0, none⟩) ls.length ls.length) ls

/-- the new list of lists, filled up to `k` -/
def BetI (w : World) (D : Nat → Prop) (wr : World) (g n : Nat) (ls : List (List Int)) (k : Nat) (us : List Value) : Prop :=
  w.grownBy wr none ∧ us.length = k ∧ Box wr g (fillV n us).toArray 22 ∧ ∀ i, i < k → ∃ b off cap, us.getD i undef = .slice (some ⟨b, off, none⟩) (ls.getD i []).length cap ∧ (ls.getD i []).length ≤ cap ∧ D b ∧ b < w.heap.size ∧ ∀ j, j < (ls.getD i []).length → w.cell? ⟨b, off + j, none⟩ = some (.int .i64 ((ls.getD i []).getD j 0))

theorem fillV_set (n : Nat) (us : List Value) (x : Value) (h : us.length < n) : (fillV n us).set us.length x = fillV n (us ++ [x]) := fill_set' n us x _ h

theorem BetI.start {w w1 : World} (D : Nat → Prop) {g n : Nat} (ls : List (List Int)) (hg : w.grownBy w1 none) (hb : Box w1 g (List.replicate n (Value.slice none 0 0)).toArray 22) : BetI w D w1 g n ls 0 [] :=
  ⟨hg, rfl, by simpa [fillV] using hb, fun i hi => by omega⟩

theorem BetI.views {w wr : World} {D : Nat → Prop} {g : Nat} {ls : List (List Int)} {us : List Value} (h : BetI w D wr g ls.length ls ls.length us) : Views wr (fun q => D q ∨ q = g) (.slice (some ⟨g, 0, none⟩) ls.length ls.length) ls := by
  obtain ⟨hg, hul, hb, hi⟩ := h
  refine ⟨g, ls.length, rfl, Nat.le_refl _, .inr rfl, hb.lt, fun i hlt => ?_⟩
  obtain ⟨b, off, cap, hu, hcap, hD, hbl, hc⟩ := hi i hlt
  refine ⟨b, off, cap, .inl hD, Nat.lt_of_lt_of_le hbl hg.size, ?_, hcap, fun j u hj => ?_⟩
  · rw [hb.cell i, ← hu]
    simp [fillV, List.getD, hul, hlt]
  · have hjl : j < (ls.getD i []).length := by
      rcases Nat.lt_or_ge j (ls.getD i []).length with h1 | h1
      · exact h1
      · rw [List.getElem?_eq_none (by rw [List.length_map]; exact h1)] at hj; cases hj
    have e : (⟨b, off, none⟩ : Addr).add j = ⟨b, off + j, none⟩ := by
      unfold Addr.add
      split
      · rename_i e; rw [e, Nat.add_zero]
      · rfl
    rw [e, hg.cell (hc j hjl) (by simp), ← hj, map_get_int _ j hjl]

theorem BetI.next {w wr : World} {D : Nat → Prop} {g n k b off cap : Nat} {ls : List (List Int)} {us : List Value} (h : BetI w D wr g n ls k us) (hk : k < n) (hwg : w.heap.size ≤ g) (hcap : (ls.getD k []).length ≤ cap) (hD : D b) (hbl : b < w.heap.size)
    (hc : ∀ j, j < (ls.getD k []).length → w.cell? ⟨b, off + j, none⟩ = some (.int .i64 ((ls.getD k []).getD j 0))) :
    BetI w D (wr.setCell ⟨g, k, none⟩ (.slice (some ⟨b, off, none⟩) (ls.getD k []).length cap)) g n ls (k + 1) (us ++ [.slice (some ⟨b, off, none⟩) (ls.getD k []).length cap]) := by
  obtain ⟨hg, hul, hb, hi⟩ := h
  refine ⟨grown_new hg (grown_set _ _ _ _) (fun q e => by injection e with e; omega), by rw [List.length_append, hul]; rfl, ?_, fun i hlt => ?_⟩
  · have := hb.set k (.slice (some ⟨b, off, none⟩) (ls.getD k []).length cap)
    rw [List.setIfInBounds_toArray] at this
    have e := fillV_set n us (.slice (some ⟨b, off, none⟩) (ls.getD k []).length cap) (by omega)
    rw [hul] at e
    rw [e] at this
    exact this
  · rcases (show i < k ∨ i = k by omega) with h1 | rfl
    · rw [getD_snoc_lt _ _ _ _ (by omega)]
      exact hi i h1
    · refine ⟨b, off, cap, ?_, hcap, hD, hbl, hc⟩
      have := getD_snoc_eq us (.slice (some ⟨b, off, none⟩) (ls.getD i []).length cap) undef
      rw [hul] at this
      exact this

set_option maxHeartbeats 2000000 in
set_option maxRecDepth 20000 in
theorem qbetween (w : World) (D : Nat → Prop) (v : Value) (chs : List (List Int)) (n f t : Nat) (h : Ins w D v chs) (hc1 : 1 ≤ chs.length) (hc2 : chs.length ≤ 2) (hn : ∀ i, i < chs.length → (chs.getD i []).length = n) (hft : f < t) (htn : t ≤ n) :
    Calls Tryz.prog 21 #[v, .int .i64 f, .int .i64 t] w (BetPost w D (cutAll f t chs)) := by
  obtain ⟨i1, hi, hz0, hz1, hz2⟩ := info_parts Tryz.info22
  obtain ⟨a, c, rfl⟩ := h.slice
  obtain ⟨m, hm⟩ : ∃ m, chs.length = m := ⟨_, rfl⟩
  obtain ⟨ls, hls⟩ : ∃ ls, cutAll f t chs = ls := ⟨_, rfl⟩
  have hlm : ls.length = m := by rw [← hls, ← hm]; unfold cutAll; rw [List.length_map]
  have HLS : Hid (∀ i, i < m → (ls.getD i []).length = t - f ∧ ∀ j, j < t - f → (ls.getD i []).getD j 0 = (chs.getD i []).getD (f + j) 0) := by
    intro i hi'
    rw [← hls, cutAll_get f t chs i (by omega)]
    have hni := hn i (by omega)
    refine ⟨by rw [List.length_take, List.length_drop]; omega, fun j hj => ?_⟩
    simp [List.getD, hj]
  rw [hls]
  rw [hm] at h hc1 hc2 ⊢
  have HM : Hid (chs.length = m) := hm
  have HLM : Hid (ls.length = m) := hlm
  clear hm hls hlm
  go_enter Tryz.func21, Tryz.ntmps21
  go_wp2_with (first
    | (at_make; refine wpList_make_full _ rfl _ _ 23 rfl w.heap.size 22 i1 (.slice none 0 0) 1 Tryz.underlying23 hi hz0 hz1 _ _ _ _ m rfl rfl rfl rfl ?m1 ?m2 ?m3 ?_))
  case m1 => rw [hz2]; omega
  case m2 => unfold maxLen; omega
  case m3 => exact Nat.le_refl _
  intro w1 hmade hg1
  have hboxC : Box w1 w.heap.size (List.replicate m (Value.slice none 0 0)).toArray 22 := by
    rcases hmade.2 with ⟨e, _⟩ | ⟨g, cap, cur, e, _, hblk, _, _, hcs, htake⟩
    · cases e
    · simp only [Value.slice.injEq, Option.some.injEq, Addr.mk.injEq, and_true, true_and] at e
      obtain ⟨rfl, rfl⟩ := e
      rw [Nat.mul_one] at hcs htake
      have hr := replicate_of_made hcs htake
      rw [← hr]
      exact hblk
  have hB0 := BetI.start D ls hg1 hboxC
  obtain ⟨g, hg⟩ : ∃ g, w.heap.size = g := ⟨_, rfl⟩
  rw [hg] at hB0
  rw [hg]
  have HG : Hid (w.heap.size = g) := hg
  clear hmade hboxC hi hz0 hz1 hz2 hg hg1
  go_wp2_with fail
  go_loopg [15] m (fun gk t15 wr => ∃ (k : Nat) (us : List Value), gk + k = m ∧ t15 = .int .i64 k ∧ BetI w D wr g m ls k us)
  case atStart => exact ⟨0, [], rfl, rfl, hB0⟩
  case round =>
    clear hB0
    obtain ⟨k, us, hgk, rfl, hB⟩ := hrel
    by_cases hlt : k < m
    · obtain ⟨lg, vi, rfl, hck, hlo⟩ := h.at k (by rw [HM.out]; exact hlt)
      have hnk := hn k (by rw [HM.out]; exact hlt)
      rcases hlo with ⟨_, e0⟩ | ⟨b, off, cap, rfl, hcap, hD, hbl, hcells⟩
      · rw [e0] at hnk; simp at hnk; omega
      rw [hnk] at hck hcap
      obtain ⟨hl1, hl2⟩ := HLS.out k hlt
      have hckr : wr.cell? ⟨lg, k, none⟩ = some (.slice (some ⟨b, off, none⟩) n cap) := hB.1.cell hck (by simp)
      have hnext := hB.next hlt (by rw [HG.out]; exact Nat.le_refl _) (b := b) (off := off + f) (cap := cap - f) (by rw [hl1]; omega) hD hbl (fun j hj => by
        rw [hl1] at hj
        rw [hl2 j hj, Nat.add_assoc]
        exact hcells (f + j) (by omega))
      rw [hl1] at hnext
      have fz := hB.2.2.1.fz k
      have hgc : wr.cell? ⟨g, k, none⟩ = some (.slice none 0 0) := by
        rw [hB.2.2.1.cell k]
        have hul := hB.2.1
        unfold fillV
        rw [List.getElem?_toArray, List.getElem?_append_right (by omega), hul, Nat.sub_self, List.getElem?_replicate, if_pos (by omega)]
      have hkm : (k : Int) < (m : Int) := by omega
      have hf1 : (f : Int) ≤ (t : Int) := by omega
      have hf2 : (t : Int) ≤ (cap : Int) := by omega
      have HNX : Hid _ := hnext
      clear hnext hB hck hl1 hl2 hcells hnk h
      go_wp2
      go_roundg (gk - 1)
      case measure => omega
      case rel => exact ⟨k + 1, _, by omega, by go_num, HNX.out⟩
    · have hkm : k = m := by omega
      subst hkm
      have hpost : BetPost w D ls (.returned (.slice (some ⟨g, 0, none⟩) k k)) wr := by
        have h1 := hB
        rw [← HLM.out] at h1
        have h2 := h1.views
        rw [HLM.out] at h2
        exact ⟨g, by rw [HLM.out], hB.1, by rw [HG.out]; exact Nat.le_refl _, hB.2.2.1.lt, by rw [HLM.out]; exact h2⟩
      clear hB hgk hn h
      go_wp2
      exact bodyPost_ret (v := .slice (some ⟨g, 0, none⟩) k k) (by simp [results, Tryz.results21, go_sem]) rfl hpost
end Go.Proofs.YtncmgnmcggkhnaaGreat

namespace Go.Proofs.YtncmgnmcggkhnaaGreat
open Go.RowKit

theorem head_str (l : List UInt8) : (⟨#[102, 76, 97, 67]⟩ : ByteArray) ++ ⟨l.toArray⟩ = ⟨([102, 76, 97, 67] ++ l).toArray⟩ := by
  apply ByteArray.ext
  rw [ByteArray.data_append]
  simp

set_option maxHeartbeats 4000000 in
set_option maxRecDepth 20000 in
theorem qblwrite (w : World) (h : Head) (hok : headOk h = true) (hc1 : 1 ≤ h.channels) :
    Calls Tryz.prog 25 #[.agg (headC h)] w (FrWPost w (headBytes h)) := by
  obtain ⟨p1, p2, p3, p4, p5, p6, p7, p8⟩ := headOk_parts hok
  have hm1 : (h.channels : Int) - 1 = ((h.channels - 1 : Nat) : Int) := by omega
  have hm2 : (h.bits : Int) - 1 = ((h.bits - 1 : Nat) : Int) := by omega
  obtain ⟨wi, hwi⟩ : ∃ wi, w.alloc (.cells (headC h) 46) = wi := ⟨_, rfl⟩
  have hgi : w.grownBy wi none := by rw [← hwi]; exact grown_alloc (grown_refl _ _) _
  have hbi : Box wi w.heap.size (headC h) 46 := by rw [← hwi]; exact Box.new _ _ _
  obtain ⟨gi, hgi0⟩ : ∃ gi, w.heap.size = gi := ⟨_, rfl⟩
  have hsi : wi.heap.size = gi + 1 := by rw [← hwi, ← hgi0]; simp
  obtain ⟨w0, hw0⟩ : ∃ w0, wi.alloc (.cells #[.slice none 0 0, .int .i64 0] 85) = w0 := ⟨_, rfl⟩
  have hg0 : wi.grownBy w0 none := by rw [← hw0]; exact grown_alloc (grown_refl _ _) _
  have hW0 := WrS.start wi
  rw [hw0, hsi] at hW0
  have HNEW : Hid (∀ wr v', Wrote w0 wr (gi + 1) (.slice none 0 0) v' → w.grownBy wr none ∧ Box wr gi (headC h) 46) := fun wr v' h9 => by
    rw [← hsi] at h9
    have h1 := wrote_new hw0 h9
    exact ⟨grown_trans hgi h1, by rw [← hgi0]; exact hbi.kept h1 (by simp)⟩
  have hb0 : gi + 1 + 1 ≤ w0.heap.size := by rw [← hw0]; simp; omega
  have HWI : Hid (w.alloc (.cells #[Value.int .i64 h.block, .int .i64 h.rate, .int .i64 h.channels, .int .i64 h.bits, .int .i64 h.total] 46) = wi) := hwi
  have HGI : Hid (w.heap.size = gi) := hgi0
  have HSI : Hid (wi.heap.size = gi + 1) := hsi
  have HW0 : Hid (wi.alloc (.cells #[.slice none 0 0, .int .i64 0] 85) = w0) := hw0
  have hwz : Wrote w0 w0 (gi + 1) (.slice none 0 0) (.slice none 0 0) := Wrote.refl _ _ _
  clear hwi hgi hbi hgi0 hsi hw0 hg0
  unfold headC
  go_enter Tryz.func25, Tryz.ntmps25
  go_upto_region 1 with fail
  rw [HWI.out, HGI.out]
  go_upto_region 2 with fail
  rw [HW0.out, HSI.out]
  clear HWI HW0 HSI
  have H1 : Calls _ _ #[_, .int .i64 1, .int .i64 1] _ _ := qwnum w0 (gi + 1) (gi + 1 + 1) (.slice none 0 0) _ ((1 : Nat) : Int) 1 hW0 hb0 (by simp) (by omega) (by omega)
  go_wp2_with fail
  refine H1.mono ?_
  rintro e w1 ⟨rfl, v1, hs1, hw1⟩
  have hb1 := Nat.le_trans hb0 hw1.kp.size
  have hz1 := hwz.trans hw1
  clear H1
  have H2 : Calls _ _ #[_, .int .i64 0, .int .i64 7] _ _ := qwnum w1 (gi + 1) (gi + 1 + 1) v1 _ ((0 : Nat) : Int) 7 hs1 hb1 (by simp [numBits_length]) (by omega) (by omega)
  go_wp2_with fail
  refine H2.mono ?_
  rintro e w2 ⟨rfl, v2, hs2, hw2⟩
  have hb2 := Nat.le_trans hb1 hw2.kp.size
  have hz2 := hz1.trans hw2
  clear H2
  have H3 : Calls _ _ #[_, .int .i64 34, .int .i64 24] _ _ := qwnum w2 (gi + 1) (gi + 1 + 1) v2 _ ((34 : Nat) : Int) 24 hs2 hb2 (by simp [numBits_length]) (by omega) (by omega)
  go_wp2_with fail
  refine H3.mono ?_
  rintro e w3 ⟨rfl, v3, hs3, hw3⟩
  have hb3 := Nat.le_trans hb2 hw3.kp.size
  have hz3 := hz2.trans hw3
  clear H3
  have H4 : Calls _ _ #[_, .int .i64 h.block, .int .i64 16] _ _ := qwnum w3 (gi + 1) (gi + 1 + 1) v3 _ (h.block : Int) 16 hs3 hb3 (by simp [numBits_length]) (by omega) (by omega)
  have kf4 : w3.cell? ⟨gi, 0, none⟩ = some (.int .i64 h.block) := (HNEW.out w3 _ hz3).2.cell 0
  go_wp2_with fail
  refine H4.mono ?_
  rintro e w4 ⟨rfl, v4, hs4, hw4⟩
  have hb4 := Nat.le_trans hb3 hw4.kp.size
  have hz4 := hz3.trans hw4
  clear H4 kf4
  have H5 : Calls _ _ #[_, .int .i64 h.block, .int .i64 16] _ _ := qwnum w4 (gi + 1) (gi + 1 + 1) v4 _ (h.block : Int) 16 hs4 hb4 (by simp [numBits_length]) (by omega) (by omega)
  have kf5 : w4.cell? ⟨gi, 0, none⟩ = some (.int .i64 h.block) := (HNEW.out w4 _ hz4).2.cell 0
  go_wp2_with fail
  refine H5.mono ?_
  rintro e w5 ⟨rfl, v5, hs5, hw5⟩
  have hb5 := Nat.le_trans hb4 hw5.kp.size
  have hz5 := hz4.trans hw5
  clear H5 kf5
  have H6 : Calls _ _ #[_, .int .i64 0, .int .i64 24] _ _ := qwnum w5 (gi + 1) (gi + 1 + 1) v5 _ ((0 : Nat) : Int) 24 hs5 hb5 (by simp [numBits_length]) (by omega) (by omega)
  go_wp2_with fail
  refine H6.mono ?_
  rintro e w6 ⟨rfl, v6, hs6, hw6⟩
  have hb6 := Nat.le_trans hb5 hw6.kp.size
  have hz6 := hz5.trans hw6
  clear H6
  have H7 : Calls _ _ #[_, .int .i64 0, .int .i64 24] _ _ := qwnum w6 (gi + 1) (gi + 1 + 1) v6 _ ((0 : Nat) : Int) 24 hs6 hb6 (by simp [numBits_length]) (by omega) (by omega)
  go_wp2_with fail
  refine H7.mono ?_
  rintro e w7 ⟨rfl, v7, hs7, hw7⟩
  have hb7 := Nat.le_trans hb6 hw7.kp.size
  have hz7 := hz6.trans hw7
  clear H7
  have H8 : Calls _ _ #[_, .int .i64 h.rate, .int .i64 20] _ _ := qwnum w7 (gi + 1) (gi + 1 + 1) v7 _ (h.rate : Int) 20 hs7 hb7 (by simp [numBits_length]) (by omega) (by omega)
  have kf8 : w7.cell? ⟨gi, 1, none⟩ = some (.int .i64 h.rate) := (HNEW.out w7 _ hz7).2.cell 1
  go_wp2_with fail
  refine H8.mono ?_
  rintro e w8 ⟨rfl, v8, hs8, hw8⟩
  have hb8 := Nat.le_trans hb7 hw8.kp.size
  have hz8 := hz7.trans hw8
  clear H8 kf8
  have H9 : Calls _ _ #[_, .int .i64 ((h.channels - 1 : Nat) : Int), .int .i64 3] _ _ := qwnum w8 (gi + 1) (gi + 1 + 1) v8 _ ((h.channels - 1 : Nat) : Int) 3 hs8 hb8 (by simp [numBits_length]) (by omega) (by omega)
  have kf9 : w8.cell? ⟨gi, 2, none⟩ = some (.int .i64 h.channels) := (HNEW.out w8 _ hz8).2.cell 2
  go_wp2_with fail
  refine H9.mono ?_
  rintro e w9 ⟨rfl, v9, hs9, hw9⟩
  have hb9 := Nat.le_trans hb8 hw9.kp.size
  have hz9 := hz8.trans hw9
  clear H9 kf9
  have H10 : Calls _ _ #[_, .int .i64 ((h.bits - 1 : Nat) : Int), .int .i64 5] _ _ := qwnum w9 (gi + 1) (gi + 1 + 1) v9 _ ((h.bits - 1 : Nat) : Int) 5 hs9 hb9 (by simp [numBits_length]) (by omega) (by omega)
  have kf10 : w9.cell? ⟨gi, 3, none⟩ = some (.int .i64 h.bits) := (HNEW.out w9 _ hz9).2.cell 3
  go_wp2_with fail
  refine H10.mono ?_
  rintro e w10 ⟨rfl, v10, hs10, hw10⟩
  have hb10 := Nat.le_trans hb9 hw10.kp.size
  have hz10 := hz9.trans hw10
  clear H10 kf10
  have H11 : Calls _ _ #[_, .int .i64 h.total, .int .i64 36] _ _ := qwnum w10 (gi + 1) (gi + 1 + 1) v10 _ (h.total : Int) 36 hs10 hb10 (by simp [numBits_length]) (by omega) (by omega)
  have kf11 : w10.cell? ⟨gi, 4, none⟩ = some (.int .i64 h.total) := (HNEW.out w10 _ hz10).2.cell 4
  go_wp2_with fail
  refine H11.mono ?_
  rintro e w11 ⟨rfl, v11, hs11, hw11⟩
  have hb11 := Nat.le_trans hb10 hw11.kp.size
  have hz11 := hz10.trans hw11
  clear H11 kf11
  have H12 : Calls _ _ #[_, .int .i64 0, .int .i64 128] _ _ := qwnum w11 (gi + 1) (gi + 1 + 1) v11 _ ((0 : Nat) : Int) 128 hs11 hb11 (by simp [numBits_length]) (by omega) (by omega)
  go_wp2_with fail
  refine H12.mono ?_
  rintro e w12 ⟨rfl, v12, hs12, hw12⟩
  have hb12 := Nat.le_trans hb11 hw12.kp.size
  have hz12 := hz11.trans hw12
  clear H12
  have hL : (((((((((((([] : List Bool) ++ numBits ((1 : Nat) : Int) 1) ++ numBits ((0 : Nat) : Int) 7) ++ numBits ((34 : Nat) : Int) 24) ++ numBits (h.block : Int) 16) ++ numBits (h.block : Int) 16) ++ numBits ((0 : Nat) : Int) 24) ++ numBits ((0 : Nat) : Int) 24) ++ numBits (h.rate : Int) 20) ++ numBits ((h.channels - 1 : Nat) : Int) 3) ++ numBits ((h.bits - 1 : Nat) : Int) 5) ++ numBits (h.total : Int) 36) ++ numBits ((0 : Nat) : Int) 128 = infoBits h := by
    unfold infoBits
    simp only [List.append_assoc, List.nil_append]
  rw [hL] at hs12
  have HST := qwstring w12 (gi + 1) (gi + 1 + 1) v12 _ hs12 (by rw [infoBits_length]; omega)
  have hgf := (HNEW.out w12 v12 hz12).1
  have hstr := head_str (pack (infoBits h))
  have hsz : (⟨(pack (infoBits h)).toArray⟩ : ByteArray).size = 38 := by show (pack (infoBits h)).toArray.size = 38; rw [List.size_toArray, pack_length, infoBits_length]
  have hpost : FrWPost w (headBytes h) (.returned (.string ⟨(headBytes h).toArray⟩)) w12 := ⟨rfl, hgf⟩
  have HSTR : Hid ((⟨#[102, 76, 97, 67]⟩ : ByteArray) ++ ⟨(pack (infoBits h)).toArray⟩ = ⟨(headBytes h).toArray⟩) := hstr
  clear hs1 hs2 hs3 hs4 hs5 hs6 hs7 hs8 hs9 hs10 hs11 hs12 hL hgf hstr hw1 hw2 hw3 hw4 hw5 hw6 hw7 hw8 hw9 hw10 hw11 hw12 hz1 hz2 hz3 hz4 hz5 hz6 hz7 hz8 hz9 hz10 hz11 hz12
  go_wp2_with (go_at_call 36; refine HST.mono ?_; rintro e w13 ⟨rfl, rfl⟩)
  rw [HSTR.out]
  exact bodyPost_ret (v := .string ⟨(headBytes h).toArray⟩) (by simp [results, Tryz.results25, go_sem]) rfl hpost
end Go.Proofs.YtncmgnmcggkhnaaGreat

namespace Go.Proofs.YtncmgnmcggkhnaaGreat
open Go.RowKit

def noHead : Value := .agg #[.int .i64 0, .int .i64 0, .int .i64 0, .int .i64 0, .int .i64 0]

def PHead (w : World) (s : ByteArray) (e : Ending) (w' : World) : Prop :=
  w.grownBy w' none ∧ ∃ (hv : Value) (d : ByteArray) (er : Nat), e = .returned (.tuple #[hv, .string d, .int .i64 er]) ∧
    ((er = 2 ∧ hv = noHead ∧ 6000 < s.size) ∨ (er = 3 ∧ hv = noHead ∧ s.size ≤ 6000 ∧ pBlocks (bitsOf s.data.toList) = none) ∨
     (er = 0 ∧ s.size ≤ 6000 ∧ ∃ (h : Head) (at' : Nat), at' ≤ s.size ∧ hv = .agg (headC h) ∧ d = s.extract at' s.size ∧ pBlocks (bitsOf s.data.toList) = some (h, bitsOf (s.data.toList.drop at'))))

theorem five_cells (w : World) (g : Nat) (z0 z1 z2 z3 z4 : Value) (t : TypeId) (v0 v1 v2 v3 v4 : Value) (h : Box w g #[z0, z1, z2, z3, z4] t) :
    Box (((((w.setCell ⟨g, 0, none⟩ v0).setCell ⟨g, 1, none⟩ v1).setCell ⟨g, 2, none⟩ v2).setCell ⟨g, 3, none⟩ v3).setCell ⟨g, 4, none⟩ v4) g #[v0, v1, v2, v3, v4] t ∧
    w.grownBy (((((w.setCell ⟨g, 0, none⟩ v0).setCell ⟨g, 1, none⟩ v1).setCell ⟨g, 2, none⟩ v2).setCell ⟨g, 3, none⟩ v3).setCell ⟨g, 4, none⟩ v4) (some g) :=
  ⟨((((h.set 0 v0).set 1 v1).set 2 v2).set 3 v3).set 4 v4, grown_trans (grown_trans (grown_trans (grown_trans (grown_set _ _ _ _) (grown_set _ _ _ _)) (grown_set _ _ _ _)) (grown_set _ _ _ _)) (grown_set _ _ _ _)⟩

set_option maxHeartbeats 4000000 in
set_option maxRecDepth 20000 in
theorem qphead (w : World) (s : ByteArray) (hsz : s.size ≤ maxLen) :
    Calls Tryz.prog 14 #[.string s] w (PHead w s) := by
  have hmax : s.size ≤ 9223372036854775807 := hsz
  by_cases hlong : 6000 < s.size
  · go_enter Tryz.func14, Tryz.ntmps14
    go_wp2
    exact bodyPost_ret (v := .tuple #[noHead, .string ⟨#[]⟩, .int .i64 2]) (by simp [results, Tryz.results14, go_sem, noHead]) rfl ⟨grown_alloc (grown_refl _ _) _, _, _, 2, rfl, .inl ⟨rfl, rfl, hlong⟩⟩
  have hs : s.size ≤ 6000 := by omega
  clear hlong hmax hsz
  go_enter Tryz.func14, Tryz.ntmps14
  go_wp2_with fail
  have hbr0 := Box.new w #[Value.int .i64 0, .int .i64 0, .int .i64 0, .int .i64 0, .int .i64 0] 46
  obtain ⟨r, hr⟩ : ∃ r, w.heap.size = r := ⟨_, rfl⟩
  obtain ⟨wa, hwa⟩ : ∃ wa, w.alloc (.cells #[Value.int .i64 0, .int .i64 0, .int .i64 0, .int .i64 0, .int .i64 0] 46) = wa := ⟨_, rfl⟩
  have hga : w.grownBy wa none := by rw [← hwa]; exact grown_alloc (grown_refl _ _) _
  rw [hwa, hr] at hbr0
  rw [hwa, hr]
  refine (qread wa s hs).mono ?_
  rintro e w1 ⟨hg1, h, at', ok, rfl, hcase⟩
  have hbr2 := hbr0.kept hg1 (by simp)
  have hgg1 := grown_trans hga hg1
  obtain ⟨w2, hw2⟩ : ∃ w2, w1.alloc (.cells #[Value.int .i64 h.block, .int .i64 h.rate, .int .i64 h.channels, .int .i64 h.bits, .int .i64 h.total] 46) = w2 := ⟨_, rfl⟩
  have hg2 : w1.grownBy w2 none := by rw [← hw2]; exact grown_alloc (grown_refl _ _) _
  have hgg2 := grown_trans hgg1 hg2
  have hbr3 := hbr2.kept hg2 (by simp)
  obtain ⟨gH, hgH⟩ : ∃ gH, w1.heap.size = gH := ⟨_, rfl⟩
  have hbh3 : Box w2 gH (headC h) 46 := by rw [← hgH, ← hw2]; exact Box.new _ _ _
  have hrlt := hbr2.lt
  rw [hgH] at hrlt
  have HR : Hid (w.heap.size = r) := hr
  have HW2 : Hid (w1.alloc (.cells #[Value.int .i64 h.block, .int .i64 h.rate, .int .i64 h.channels, .int .i64 h.bits, .int .i64 h.total] 46) = w2) := hw2
  have HGH : Hid (w1.heap.size = gH) := hgH
  clear hbr0 hbr2 hgg1 hga hwa hg1 hw2 hgH hg2 hr
  unfold headV
  go_upto_region 4 with fail
  rw [HW2.out, HGH.out]
  clear HW2 HGH
  have z0 : w2.cell? ⟨r, 0, none⟩ = some (.int .i64 0) := hbr3.cell 0
  have z1 : w2.cell? ⟨r, 1, none⟩ = some (.int .i64 0) := hbr3.cell 1
  have z2 : w2.cell? ⟨r, 2, none⟩ = some (.int .i64 0) := hbr3.cell 2
  have z3 : w2.cell? ⟨r, 3, none⟩ = some (.int .i64 0) := hbr3.cell 3
  have z4 : w2.cell? ⟨r, 4, none⟩ = some (.int .i64 0) := hbr3.cell 4
  have y0 := hbr3.fz 0
  have y1 := hbr3.fz 1
  have y2 := hbr3.fz 2
  have y3 := hbr3.fz 3
  have y4 := hbr3.fz 4
  rcases hcase with ⟨rfl, hat, hpb⟩ | ⟨rfl, hnone⟩
  rotate_left
  · have h5 := five_cells w2 r _ _ _ _ _ _ (.int .i64 0) (.int .i64 0) (.int .i64 0) (.int .i64 0) (.int .i64 0) hbr3
    have hfin : ∀ wf, w2.grownBy wf (some r) → PHead w s (.returned (.tuple #[noHead, .string ⟨#[]⟩, .int .i64 3])) wf := fun wf hgf =>
      ⟨grown_new hgg2 hgf (fun g e => by injection e with e; rw [HR.out]; omega), _, _, 3, rfl, .inr (.inl ⟨rfl, rfl, hs, hnone⟩)⟩
    clear hnone
    go_wp2
    generalize (World.setCell _ _ _) = wf at h5 ⊢
    have x0 := h5.1.cell 0
    have x1 := h5.1.cell 1
    have x2 := h5.1.cell 2
    have x3 := h5.1.cell 3
    have x4 := h5.1.cell 4
    exact bodyPost_ret (v := .tuple #[noHead, .string ⟨#[]⟩, .int .i64 3]) (by simp [results, Tryz.results14, go_sem, x0, x1, x2, x3, x4, noHead]) rfl (hfin wf h5.2)
  have h5 := five_cells w2 r _ _ _ _ _ _ (.int .i64 h.block) (.int .i64 h.rate) (.int .i64 h.channels) (.int .i64 h.bits) (.int .i64 h.total) hbr3
  have hfin : ∀ wf, w2.grownBy wf (some r) → PHead w s (.returned (.tuple #[.agg (headC h), .string (s.extract at' s.size), .int .i64 0])) wf.drew := fun wf hgf =>
    ⟨grown_drew (grown_new hgg2 hgf (fun g e => by injection e with e; rw [HR.out]; omega)), _, _, 0, rfl, .inr (.inr ⟨rfl, hs, h, at', hat, rfl, rfl, hpb⟩)⟩
  have e0 : w2.cell? ⟨gH, 0, none⟩ = some (.int .i64 h.block) := hbh3.cell 0
  have e1 : w2.cell? ⟨gH, 1, none⟩ = some (.int .i64 h.rate) := hbh3.cell 1
  have e2 : w2.cell? ⟨gH, 2, none⟩ = some (.int .i64 h.channels) := hbh3.cell 2
  have e3 : w2.cell? ⟨gH, 3, none⟩ = some (.int .i64 h.bits) := hbh3.cell 3
  have e4 : w2.cell? ⟨gH, 4, none⟩ = some (.int .i64 h.total) := hbh3.cell 4
  have HFIN : Hid _ := hfin
  have H5 : Hid _ := h5
  clear hpb hfin h5
  go_upto_region 6 with fail
  go_region
  all_goals
    go_wp2
    have h5 := H5.out
    generalize (World.setCell _ _ _) = wf at h5 ⊢
    have x0 := h5.1.cell 0
    have x1 := h5.1.cell 1
    have x2 := h5.1.cell 2
    have x3 := h5.1.cell 3
    have x4 := h5.1.cell 4
    exact bodyPost_ret (v := .tuple #[.agg (headC h), .string (s.extract at' s.size), .int .i64 0]) (by simp [results, Tryz.results14, go_sem, x0, x1, x2, x3, x4, headC]) rfl (HFIN.out wf h5.2)
end Go.Proofs.YtncmgnmcggkhnaaGreat

namespace Go.Proofs.YtncmgnmcggkhnaaGreat
open Go.RowKit

/-- what the program tells of a sound that is right -/
def RightIn (rate bits block : Int) (chs : List (List Int)) (h : Head) : Prop := (h.rate : Int) = rate ∧ (h.bits : Int) = bits ∧ (h.block : Int) = block ∧ RightS h chs

def InfoOfPost (w : World) (rate bits block : Int) (chs : List (List Int)) (e : Ending) (w' : World) : Prop :=
  w.grownBy w' none ∧ ∃ (b1 b2 b3 b4 b5 : Int) (ok : Bool), e = .returned (.tuple #[.agg #[.int .i64 b1, .int .i64 b2, .int .i64 b3, .int .i64 b4, .int .i64 b5], .bool ok]) ∧
    ((ok = false ∧ ∀ h, ¬ RightIn rate bits block chs h) ∨ (ok = true ∧ ∃ h, RightIn rate bits block chs h ∧ b1 = h.block ∧ b2 = h.rate ∧ b3 = h.channels ∧ b4 = h.bits ∧ b5 = h.total))

theorem right_maybe {rate bits block : Int} {chs : List (List Int)} {h : Head} (hr : RightIn rate bits block chs h) : mayBe block rate chs.length bits (chs.headD []).length = true ∧ h.total = (chs.headD []).length := by
  obtain ⟨h1, h2, h3, hs⟩ := hr
  obtain ⟨p1, p2, p3, p4, p5, p6, p7, p8⟩ := headOk_parts hs.ok
  have hl := hs.head_len
  have hc := hs.ch
  have hc1 := hs.ch1
  refine ⟨?_, hl.symm⟩
  unfold mayBe
  simp only [Bool.and_eq_true, decide_eq_true_eq]
  omega

set_option maxHeartbeats 4000000 in
set_option maxRecDepth 20000 in
theorem qinfoof (w : World) (D : Nat → Prop) (v : Value) (rate bits block : Int) (chs : List (List Int)) (h : Ins w D v chs) (hcl : chs.length ≤ 17592186044416) (hlen : ∀ c ∈ chs, c.length ≤ 17592186044416) :
    Calls Tryz.prog 23 #[.agg #[.int .i64 rate, .int .i64 bits, v], .int .i64 block] w (InfoOfPost w rate bits block chs) := by
  obtain ⟨a, c, rfl⟩ := h.slice
  obtain ⟨n, hn⟩ : ∃ n, chs.length = n := ⟨_, rfl⟩
  rw [hn] at h hcl ⊢
  have HN : Hid (chs.length = n) := hn
  obtain ⟨w0, hw0⟩ : ∃ w0, w.alloc (.cells #[.int .i64 rate, .int .i64 bits, .slice a n c] 25) = w0 := ⟨_, rfl⟩
  have hg0 : w.grownBy w0 none := by rw [← hw0]; exact grown_alloc (grown_refl _ _) _
  obtain ⟨gS, hgS⟩ : ∃ gS, w.heap.size = gS := ⟨_, rfl⟩
  have hbS0 : Box w0 gS #[.int .i64 rate, .int .i64 bits, .slice a n c] 25 := by rw [← hgS, ← hw0]; exact Box.new _ _ _
  have hs0 : w0.heap.size = gS + 1 := by rw [← hw0, ← hgS]; simp
  obtain ⟨w1, hw1⟩ : ∃ w1, w0.alloc (.cells #[Value.int .i64 0, .int .i64 0, .int .i64 0, .int .i64 0, .int .i64 0] 46) = w1 := ⟨_, rfl⟩
  have hg1 : w0.grownBy w1 none := by rw [← hw1]; exact grown_alloc (grown_refl _ _) _
  have hbR1 : Box w1 (gS + 1) #[Value.int .i64 0, .int .i64 0, .int .i64 0, .int .i64 0, .int .i64 0] 46 := by rw [← hs0, ← hw1]; exact Box.new _ _ _
  have hs1 : w1.heap.size = gS + 2 := by rw [← hw1]; simp; omega
  obtain ⟨w2, hw2⟩ : ∃ w2, w1.alloc (.cells #[Value.int .i64 block, .int .i64 rate, .int .i64 n, .int .i64 bits, .int .i64 0] 46) = w2 := ⟨_, rfl⟩
  have hg2 : w1.grownBy w2 none := by rw [← hw2]; exact grown_alloc (grown_refl _ _) _
  have hbI2 : Box w2 (gS + 2) #[Value.int .i64 block, .int .i64 rate, .int .i64 n, .int .i64 bits, .int .i64 0] 46 := by rw [← hs1, ← hw2]; exact Box.new _ _ _
  have hbS1 := hbS0.kept hg1 (by simp)
  have hbS2 := hbS1.kept hg2 (by simp)
  have hbR2 := hbR1.kept hg2 (by simp)
  have hgg2 := grown_trans (grown_trans hg0 hg1) hg2
  have HW0 : Hid (w.alloc (.cells #[.int .i64 rate, .int .i64 bits, .slice a n c] 25) = w0) := hw0
  have HGS : Hid (w.heap.size = gS) := hgS
  have HW1 : Hid (w0.alloc (.cells #[Value.int .i64 0, .int .i64 0, .int .i64 0, .int .i64 0, .int .i64 0] 46) = w1) := hw1
  have HS0 : Hid (w0.heap.size = gS + 1) := hs0
  have HW2 : Hid (w1.alloc (.cells #[Value.int .i64 block, .int .i64 rate, .int .i64 n, .int .i64 bits, .int .i64 0] 46) = w2) := hw2
  have HS1 : Hid (w1.heap.size = gS + 2) := hs1
  have z0 : w1.cell? ⟨gS, 0, none⟩ = some (.int .i64 rate) := hbS1.cell 0
  have z1 : w1.cell? ⟨gS, 1, none⟩ = some (.int .i64 bits) := hbS1.cell 1
  have z2 : w1.cell? ⟨gS, 2, none⟩ = some (.slice a n c) := hbS1.cell 2
  clear hw0 hgS hw1 hs0 hw2 hs1 hg0 hg1 hg2 hbS0 hbR1 hn
  go_enter Tryz.func23, Tryz.ntmps23
  go_upto_region 1 with fail
  rw [HW0.out, HGS.out, HW1.out]
  go_upto_region 2 with fail
  rw [HW2.out, HS1.out]
  have hgg2' : w.grownBy w2 none := hgg2
  clear HW0 HW1 HS0 HW2 HS1 z0 z1 z2 hbS1
  have z0 : w2.cell? ⟨gS, 0, none⟩ = some (.int .i64 rate) := hbS2.cell 0
  have z1 : w2.cell? ⟨gS, 1, none⟩ = some (.int .i64 bits) := hbS2.cell 1
  have z2 : w2.cell? ⟨gS, 2, none⟩ = some (.slice a n c) := hbS2.cell 2
  have r0 := hbR2.cell 0
  have r1 := hbR2.cell 1
  have r2 := hbR2.cell 2
  have r3 := hbR2.cell 3
  have r4 := hbR2.cell 4
  obtain ⟨total, htotal⟩ : ∃ total, (chs.headD []).length = total := ⟨_, rfl⟩
  have HTOT : Hid ((chs.headD []).length = total) := htotal
  -- behind the first test: the total is laid
  go_upto_if 21 with fail
  go_cut [] (fun wx => w.grownBy wx none ∧ Box wx gS #[.int .i64 rate, .int .i64 bits, .slice a n c] 25 ∧ Box wx (gS + 1) #[Value.int .i64 0, .int .i64 0, .int .i64 0, .int .i64 0, .int .i64 0] 46 ∧ Box wx (gS + 2) #[Value.int .i64 block, .int .i64 rate, .int .i64 n, .int .i64 bits, .int .i64 total] 46)
  case first =>
    rcases Nat.eq_zero_or_pos n with hn0 | hnp
    · have h0 : chs = [] := List.eq_nil_of_length_eq_zero (by rw [HN.out]; exact hn0)
      have ht0 : total = 0 := by rw [← htotal, h0]; rfl
      subst hn0 ht0
      clear h0 htotal
      go_wp2
      go_meet
      case rel => exact ⟨hgg2, hbS2, hbR2, hbI2⟩
    · obtain ⟨lg, v0, rfl, hc0, hlo⟩ := h.at 0 (by rw [HN.out]; exact hnp)
      obtain ⟨a0, cp0, rfl⟩ := hlo.lo.slice
      have hh0 : (chs.getD 0 []).length = total := by rw [← headD_getD]; exact htotal
      rw [hh0] at hc0
      have hc02 : w2.cell? ⟨lg, 0, none⟩ = some (.slice a0 total cp0) := hgg2.cell hc0 (by simp)
      have i4 := hbI2.cell 4
      have f4 := hbI2.fz 4
      have hset := hbI2.set 4 (.int .i64 total)
      have hsg := grown_set w2 (gS + 2) 4 (.int .i64 total)
      have hbSx := hbS2.kept hsg (fun e => by injection e with e; omega)
      have hbRx := hbR2.kept hsg (fun e => by injection e with e; omega)
      have hgx := grown_new hgg2 hsg (fun q e => by injection e with e; have := HGS.out; omega)
      have hnz : (0 : Int) < (n : Int) := by omega
      clear hh0 hc0 htotal
      go_wp2
      go_meet
      case rel => exact ⟨hgx, hbSx, hbRx, hset⟩
  case rest =>
  obtain ⟨hgx, hbS, hbR, hbI⟩ := hcut
  clear hgg2 hgg2' hbS2 hbR2 hbI2 z0 z1 z2 r0 r1 r2 r3 r4
  obtain ⟨wx, rfl⟩ : ∃ wx : World, wx = wc := ⟨_, rfl⟩
  have HMB := qmaybe wx block rate n bits total
  have e0 : wx.cell? ⟨gS + 2, 0, none⟩ = some (.int .i64 block) := hbI.cell 0
  have e1 : wx.cell? ⟨gS + 2, 1, none⟩ = some (.int .i64 rate) := hbI.cell 1
  have e2 : wx.cell? ⟨gS + 2, 2, none⟩ = some (.int .i64 n) := hbI.cell 2
  have e3 : wx.cell? ⟨gS + 2, 3, none⟩ = some (.int .i64 bits) := hbI.cell 3
  have e4 : wx.cell? ⟨gS + 2, 4, none⟩ = some (.int .i64 total) := hbI.cell 4
  obtain ⟨mb, hmb⟩ : ∃ mb, mayBe block rate n bits total = mb := ⟨_, rfl⟩
  rw [hmb] at HMB
  have HMBE : Hid (mayBe block rate n bits total = mb) := hmb
  clear hmb htotal
  go_wp2_with fail
  refine HMB.mono ?_
  rintro e w4 ⟨rfl, hg4⟩
  have hgx4 := grown_trans hgx hg4
  have hbS4 := hbS.kept hg4 (by simp)
  have hbR4 := hbR.kept hg4 (by simp)
  have hbI4 := hbI.kept hg4 (by simp)
  have r0 : w4.cell? ⟨gS + 1, 0, none⟩ = some (.int .i64 0) := hbR4.cell 0
  have r1 : w4.cell? ⟨gS + 1, 1, none⟩ = some (.int .i64 0) := hbR4.cell 1
  have r2 : w4.cell? ⟨gS + 1, 2, none⟩ = some (.int .i64 0) := hbR4.cell 2
  have r3 : w4.cell? ⟨gS + 1, 3, none⟩ = some (.int .i64 0) := hbR4.cell 3
  have r4 : w4.cell? ⟨gS + 1, 4, none⟩ = some (.int .i64 0) := hbR4.cell 4
  have y0 := hbR4.fz 0
  have y1 := hbR4.fz 1
  have y2 := hbR4.fz 2
  have y3 := hbR4.fz 3
  have y4 := hbR4.fz 4
  have hno : (∀ hh, ¬ RightIn rate bits block chs hh) → ∀ wf, w4.grownBy wf (some (gS + 1)) → InfoOfPost w rate bits block chs (.returned (.tuple #[noHead, .bool false])) wf := fun hn wf hgf =>
    ⟨grown_new hgx4 hgf (fun q e => by injection e with e; have := HGS.out; omega), 0, 0, 0, 0, 0, false, rfl, .inl ⟨rfl, hn⟩⟩
  have HNO : Hid _ := hno
  have H5 : Hid _ := five_cells w4 (gS + 1) _ _ _ _ _ _ (.int .i64 0) (.int .i64 0) (.int .i64 0) (.int .i64 0) (.int .i64 0) hbR4
  clear hno HMB e0 e1 e2 e3 e4 hbS hbR hbI hgx hg4
  cases mb with
  | false =>
    have hn : ∀ hh, ¬ RightIn rate bits block chs hh := by
      intro hh hr
      have h1 := (right_maybe hr).1
      rw [HN.out, HTOT.out, HMBE.out] at h1
      cases h1
    have hfin := HNO.out hn
    clear hn h
    go_wp2
    have h5 := H5.out
    generalize (World.setCell _ _ _) = wf at h5 ⊢
    have x0 := h5.1.cell 0
    have x1 := h5.1.cell 1
    have x2 := h5.1.cell 2
    have x3 := h5.1.cell 3
    have x4 := h5.1.cell 4
    exact bodyPost_ret (v := .tuple #[noHead, .bool false]) (by simp [results, Tryz.results23, go_sem, x0, x1, x2, x3, x4, noHead]) rfl (hfin wf h5.2)
  | true =>
    have hmb := HMBE.out
    unfold mayBe at hmb
    simp only [Bool.and_eq_true, decide_eq_true_eq] at hmb
    obtain ⟨bn, hbn⟩ : ∃ bn : Nat, bits = (bn : Int) := ⟨bits.toNat, by omega⟩
    obtain ⟨rn, hrn⟩ : ∃ rn : Nat, rate = (rn : Int) := ⟨rate.toNat, by omega⟩
    obtain ⟨kn, hkn⟩ : ∃ kn : Nat, block = (kn : Int) := ⟨block.toNat, by omega⟩
    subst hbn hrn hkn
    have hp : 16 ≤ kn ∧ kn ≤ 256 ∧ 1 ≤ rn ∧ rn ≤ 655350 ∧ 1 ≤ n ∧ n ≤ 2 ∧ 4 ≤ bn ∧ bn ≤ 16 ∧ total ≤ 1200 := by omega
    obtain ⟨q1, q2, q3, q4, q5, q6, q7, q8, q9⟩ := hp
    have z1 : w4.cell? ⟨gS, 1, none⟩ = some (.int .i64 bn) := hbS4.cell 1
    have z2 : w4.cell? ⟨gS, 2, none⟩ = some (.slice a n c) := hbS4.cell 2
    have i0 : w4.cell? ⟨gS + 2, 0, none⟩ = some (.int .i64 kn) := hbI4.cell 0
    have i1 : w4.cell? ⟨gS + 2, 1, none⟩ = some (.int .i64 rn) := hbI4.cell 1
    have i2 : w4.cell? ⟨gS + 2, 2, none⟩ = some (.int .i64 n) := hbI4.cell 2
    have i3 : w4.cell? ⟨gS + 2, 3, none⟩ = some (.int .i64 bn) := hbI4.cell 3
    have i4 : w4.cell? ⟨gS + 2, 4, none⟩ = some (.int .i64 total) := hbI4.cell 4
    have hins := h.kept hgx4
    have hlenk : ∀ k, (chs.getD k []).length ≤ 17592186044416 := by
      intro k
      by_cases hk : k < chs.length
      · exact hlen _ (by simp [List.getD, hk])
      · simp [List.getD, hk]
    clear hmb h hlen HMBE hbS4 hbI4
    go_wp2_with fail
    go_loopg [35] n (fun gk t35 wr => ∃ k : Nat, gk + k = n ∧ t35 = .int .i64 k ∧ wr = w4 ∧ ∀ i, i < k → (chs.getD i []).length = total ∧ (chs.getD i []).all (fitsB bn) = true)
    case atStart => exact ⟨0, rfl, rfl, rfl, fun i hi => by omega⟩
    case round =>
      obtain ⟨k, hgk, rfl, rfl, hall⟩ := hrel
      by_cases hlt : k < n
      · obtain ⟨lg, vi, rfl, hck, hlo⟩ := hins.at k (by rw [HN.out]; exact hlt)
        obtain ⟨ak, ck, rfl⟩ := hlo.lo.slice
        obtain ⟨lk, hlk⟩ : ∃ lk, (chs.getD k []).length = lk := ⟨_, rfl⟩
        have hmem : chs.getD k [] ∈ chs := by have := HN.out; simp [List.getD, show k < chs.length by omega]
        have hlkb : lk ≤ 17592186044416 := by rw [← hlk]; exact hlenk k
        have HFIT := qfit wr _ (chs.getD k []) bn (by omega) (by omega) (by rw [hlk]; exact hlkb) hlo.lo
        rw [hlk] at hck HFIT
        obtain ⟨fb, hfb⟩ : ∃ fb, (chs.getD k []).all (fitsB bn) = fb := ⟨_, rfl⟩
        rw [hfb] at HFIT
        have HLK : Hid ((chs.getD k []).length = lk) := hlk
        have HFB : Hid ((chs.getD k []).all (fitsB bn) = fb) := hfb
        have HALL : Hid (∀ i, i < k → (chs.getD i []).length = total ∧ (chs.getD i []).all (fitsB bn) = true) := hall
        have hkn' : (k : Int) < (n : Int) := by omega
        clear hall hlk hfb hlo hins
        by_cases htt : lk = total
        · have tt : ((lk : Int) != (total : Int)) = false := by simp; omega
          have HTT : Hid (lk = total) := htt
          clear htt
          cases fb with
          | true =>
            go_wp2_with (go_at_call 33; refine HFIT.mono ?_; rintro e w5 ⟨rfl, rfl⟩)
            go_roundg (gk - 1)
            case measure => omega
            case rel =>
              refine ⟨k + 1, by omega, by go_num, rfl, fun i hi => ?_⟩
              rcases (show i < k ∨ i = k by omega) with h1 | rfl
              · exact HALL.out i h1
              · exact ⟨by rw [HLK.out]; exact HTT.out, HFB.out⟩
          | false =>
            have hn : ∀ hh, ¬ RightIn rn bn kn chs hh := by
              intro hh hr
              have h1 : hh.bits = bn := by have := hr.2.1; omega
              have h2 := hr.2.2.2.fit _ hmem
              have h3 : (chs.getD k []).all (fitsB bn) = true := by rw [List.all_eq_true, ← h1]; exact h2
              rw [HFB.out] at h3
              cases h3
            have hfin := HNO.out hn
            clear hn
            go_wp2_with (go_at_call 33; refine HFIT.mono ?_; rintro e w5 ⟨rfl, rfl⟩)
            have h5 := H5.out
            generalize (World.setCell _ _ _) = wf at h5 ⊢
            have x0 := h5.1.cell 0
            have x1 := h5.1.cell 1
            have x2 := h5.1.cell 2
            have x3 := h5.1.cell 3
            have x4 := h5.1.cell 4
            exact bodyPost_ret (v := .tuple #[noHead, .bool false]) (by simp [results, Tryz.results23, go_sem, x0, x1, x2, x3, x4, noHead]) rfl (hfin wf h5.2)
        · have tt : ((lk : Int) != (total : Int)) = true := by simp; omega
          have hn : ∀ hh, ¬ RightIn rn bn kn chs hh := by
            intro hh hr
            have h1 := (right_maybe hr).2
            have h2 := hr.2.2.2.len _ hmem
            rw [HTOT.out] at h1
            rw [HLK.out] at h2
            omega
          have hfin := HNO.out hn
          clear hn htt HFIT
          go_wp2
          have h5 := H5.out
          generalize (World.setCell _ _ _) = wf at h5 ⊢
          have x0 := h5.1.cell 0
          have x1 := h5.1.cell 1
          have x2 := h5.1.cell 2
          have x3 := h5.1.cell 3
          have x4 := h5.1.cell 4
          exact bodyPost_ret (v := .tuple #[noHead, .bool false]) (by simp [results, Tryz.results23, go_sem, x0, x1, x2, x3, x4, noHead]) rfl (hfin wf h5.2)
      · have hkn' : k = n := by omega
        subst hkn'
        have hget : ∀ d ∈ chs, d.length = total ∧ d.all (fitsB bn) = true := by
          intro d hd
          obtain ⟨i, hi, rfl⟩ := List.mem_iff_getElem.1 hd
          have := hall i (by rw [← HN.out]; exact hi)
          simpa [List.getD, hi] using this
        have hR : RightS ⟨kn, rn, k, bn, total⟩ chs := by
          refine ⟨?_, HN.out, q5, fun d hd => (hget d hd).1, fun d hd => ?_⟩
          · unfold headOk
            simp only [Bool.and_eq_true, decide_eq_true_eq]
            omega
          · have := (hget d hd).2
            rw [List.all_eq_true] at this
            exact this
        have h6 := five_cells wr (gS + 1) _ _ _ _ _ _ (.int .i64 kn) (.int .i64 rn) (.int .i64 k) (.int .i64 bn) (.int .i64 total) hbR4
        have hfin : ∀ wf, wr.grownBy wf (some (gS + 1)) → InfoOfPost w rn bn kn chs (.returned (.tuple #[.agg #[.int .i64 kn, .int .i64 rn, .int .i64 k, .int .i64 bn, .int .i64 total], .bool true])) wf := fun wf hgf =>
          ⟨grown_new hgx4 hgf (fun q e => by injection e with e; have := HGS.out; omega), kn, rn, k, bn, total, true, rfl, .inr ⟨rfl, ⟨kn, rn, k, bn, total⟩, ⟨rfl, rfl, rfl, hR⟩, rfl, rfl, rfl, rfl, rfl⟩⟩
        clear hR hget hall hgk hins
        go_wp2
        generalize (World.setCell _ _ _) = wf at h6 ⊢
        have x0 := h6.1.cell 0
        have x1 := h6.1.cell 1
        have x2 := h6.1.cell 2
        have x3 := h6.1.cell 3
        have x4 := h6.1.cell 4
        exact bodyPost_ret (v := .tuple #[.agg #[.int .i64 kn, .int .i64 rn, .int .i64 k, .int .i64 bn, .int .i64 total], .bool true]) (by simp [results, Tryz.results23, go_sem, x0, x1, x2, x3, x4]) rfl (hfin wf h6.2)
end Go.Proofs.YtncmgnmcggkhnaaGreat
