import Derived.Test.YtncmgnmcggkhnaaReadsProofJ20
import Derived.Test.YtncmgnmcggkhnaaReadsProofJ1
import Derived.Test.YtncmgnmcggkhnaaReadsProofJ17
import Derived.Lib.Builder
import Derived.Lib.AppendStr
import Derived.Lib.UnsafeStr
import Derived.Laws.Externs
import Derived.Lib.BufferWrite
import Derived.Laws.MakeOwn
namespace Go.Proofs.Ytncmgnmcggkhnaa
open Go.RowKit

/-- channels in memory, with samples to be written -/
def ChIn (w : World) (v : Value) (chs : List (List Int)) : Prop :=
  ∃ lg lcap, v = .slice (some ⟨lg, 0, none⟩) chs.length lcap ∧ lg < w.heap.size ∧ ∀ i, i < chs.length → ∃ b off cap, w.cell? ⟨lg, i, none⟩ = some (.slice (some ⟨b, off, none⟩) (chs.getD i []).length cap) ∧ SmpIn w b off cap (chs.getD i [])

theorem ChIn.kept {w w' : World} {v : Value} {chs : List (List Int)} (h : ChIn w v chs) (hg : w.grownBy w' none) : ChIn w' v chs := by
  obtain ⟨lg, lcap, hv, hlt, hc⟩ := h
  refine ⟨lg, lcap, hv, Nat.lt_of_lt_of_le hlt hg.size, fun i hi => ?_⟩
  obtain ⟨b, off, cap, h1, h2⟩ := hc i hi
  exact ⟨b, off, cap, hg.cell h1 (by simp), h2.kept hg⟩

theorem qapart (w : World) (n : Nat) (hn : n ≤ 2) :
    Calls Try.prog 74 #[.int .i64 n] w fun e w' => e = .returned (.int .i64 (modeOf n)) ∧ w' = w := by
  rcases (show n = 1 ∨ n ≠ 1 by omega) with rfl | hn1
  · go_enter Try.func74, Try.ntmps74
    go_wp2
    go_ret
    exact ⟨rfl, rfl⟩
  · have t : ((n : Int) == 1) = false := by simp; omega
    have hm : modeOf n = 1 := by unfold modeOf; rw [if_neg hn1]
    rw [hm]
    go_enter Try.func74, Try.ntmps74
    go_wp2
    go_ret
    exact ⟨rfl, rfl⟩

/-- a new writer has written: all else is as it was -/
theorem wrote_new {w w0 wr : World} {v' : Value} (hw0 : w.alloc (.cells #[.slice none 0 0, .int .i64 0] 125) = w0) (h : Wrote w0 wr w.heap.size (.slice none 0 0) v') : w.grownBy wr none := by
  have hg : w.grownBy w0 none := by rw [← hw0]; exact grown_alloc (grown_refl _ _) _
  have h1 : Kp w wr (fun b => b = w.heap.size ∨ (Value.slice none 0 0).ownBlock = some b) := (Kp.ofNone hg).trans h.kp (fun b hb => .inl hb)
  refine h1.grown (fun b hb => ?_)
  rcases hb with hb | hb
  · omega
  · cases hb

def FrWPost (w : World) (bytes : List UInt8) (e : Ending) (w' : World) : Prop := e = .returned (.string ⟨bytes.toArray⟩) ∧ w.grownBy w' none

theorem sub_len (wide : Nat) (hw : wide ≤ 16) (l : List Int) (hl : l.length ≤ 256) : (subBits wide (shortest wide l)).length ≤ 5000 := by
  have h := shortest_le wide l
  have h2 : l.length * wide ≤ 256 * 16 := Nat.mul_le_mul hl hw
  unfold subCost at h
  omega

theorem subs_len (wide : Nat) (hw : wide ≤ 16) : ∀ (chs : List (List Int)), (∀ c ∈ chs, c.length ≤ 256) → ((chs.map (shortest wide)).flatMap (subBits wide)).length ≤ chs.length * 5000
  | [], _ => by simp
  | c :: chs, h => by
    have ih := subs_len wide hw chs (fun d hd => h d (by simp [hd]))
    have h1 := sub_len wide hw c (h c (by simp))
    rw [List.map_cons, List.flatMap_cons, List.length_append, List.length_cons, Nat.succ_mul]
    omega

set_option maxHeartbeats 4000000 in
set_option maxRecDepth 20000 in
theorem qfrwrite (w : World) (v : Value) (chs : List (List Int)) (wide number : Nat) (hwd : wide ≤ 16) (hn : number < 256) (hc1 : 1 ≤ chs.length) (hc2 : chs.length ≤ 2) (h : ChIn w v chs) :
    Calls Try.prog 51 #[v, .int .i64 wide, .int .i64 number] w (FrWPost w (frameBytes (modeOf chs.length) number (chs.headD []).length wide (chs.map (shortest wide)))) := by
  have hch := h
  obtain ⟨lg, lcap, rfl, hlg, hcells⟩ := h
  obtain ⟨b0, off0, cap0, hc0, hs0⟩ := hcells 0 (by omega)
  obtain ⟨cnt, hcnt⟩ : ∃ cnt, (chs.getD 0 []).length = cnt := ⟨_, rfl⟩
  have hcb := hs0.len
  rw [hcnt] at hc0 hcb
  have hhd : (chs.headD []).length = cnt := by rw [headD_getD]; exact hcnt
  rw [hhd]
  obtain ⟨mode, hmode⟩ : ∃ mode, modeOf chs.length = mode := ⟨_, rfl⟩
  have hm1 : mode ≤ 1 := by rw [← hmode]; unfold modeOf; split <;> omega
  have HAP := fun w => qapart w chs.length hc2
  rw [hmode] at HAP ⊢
  obtain ⟨w0, hw0⟩ : ∃ w0, w.alloc (.cells #[.slice none 0 0, .int .i64 0] 125) = w0 := ⟨_, rfl⟩
  have hs0 : w0.heap.size = w.heap.size + 1 := by rw [← hw0]; simp
  have hW0 := WrS.start w
  rw [hw0] at hW0
  obtain ⟨gw, hgw⟩ : ∃ gw, w.heap.size = gw := ⟨_, rfl⟩
  have HNEW : Hid (∀ wr v', Wrote w0 wr gw (.slice none 0 0) v' → w.grownBy wr none) := fun wr v' h => by rw [← hgw] at h; exact wrote_new hw0 h
  rw [hgw] at hW0 hs0
  have HW0 : Hid (w.alloc (.cells #[.slice none 0 0, .int .i64 0] 125) = w0) := hw0
  have HGW : Hid (w.heap.size = gw) := hgw
  have HS0 : Hid (w0.heap.size = gw + 1) := hs0
  have hb0 : gw + 1 ≤ w0.heap.size := by omega
  have H1 : Calls _ _ #[_, .int .i64 16775280, .int .i64 24] _ _ := qwnum w0 gw (gw + 1) _ [] ((16775280 : Nat) : Int) 24 hW0 hb0 (by simp) (by omega) (by omega)
  clear hw0 hgw hs0 hhd hmode hcnt
  go_enter Try.func51, Try.ntmps51
  go_upto_region 2 with fail
  rw [HW0.out, HGW.out]
  clear HW0
  go_wp2_with fail
  refine H1.mono ?_
  rintro e w1 ⟨rfl, v1, hs1, hw1⟩
  have hb1 := Nat.le_trans hb0 hw1.kp.size
  have HA1 := HAP w1
  have H2 : Calls _ _ #[_, .int .i64 mode, .int .i64 4] _ _ := qwnum w1 gw (gw + 1) v1 _ (mode : Int) 4 hs1 hb1 (by simp [numBits_length]) (by omega) (by omega)
  clear HAP H1
  go_wp2_with (first
    | (go_at_call 74; refine HA1.mono ?_; rintro e w9 ⟨rfl, rfl⟩))
  refine H2.mono ?_
  rintro e w2 ⟨rfl, v2, hs2, hw2⟩
  have hb2 := Nat.le_trans hb1 hw2.kp.size
  have H3 : Calls _ _ #[_, .int .i64 0, .int .i64 4] _ _ := qwnum w2 gw (gw + 1) v2 _ ((0 : Nat) : Int) 4 hs2 hb2 (by simp [numBits_length]) (by omega) (by omega)
  clear HA1 H2
  go_wp2_with fail
  refine H3.mono ?_
  rintro e w3 ⟨rfl, v3, hs3, hw3⟩
  have hb3 := Nat.le_trans hb2 hw3.kp.size
  have H4 : Calls _ _ #[_, .int .i64 number, .int .i64 8] _ _ := qwnum w3 gw (gw + 1) v3 _ (number : Int) 8 hs3 hb3 (by simp [numBits_length]) (by omega) (by omega)
  clear H3
  go_wp2_with fail
  refine H4.mono ?_
  rintro e w4 ⟨rfl, v4, hs4, hw4⟩
  have hb4 := Nat.le_trans hb3 hw4.kp.size
  have hw04 := hw1.trans (hw2.trans (hw3.trans hw4))
  have hg4 := HNEW.out w4 v4 hw04
  have hcm : (cnt : Int) - 1 = ((cnt - 1 : Nat) : Int) := by omega
  have H5 : Calls _ _ #[_, .int .i64 ((cnt - 1 : Nat) : Int), .int .i64 16] _ _ := qwnum w4 gw (gw + 1) v4 _ ((cnt - 1 : Nat) : Int) 16 hs4 hb4 (by simp [numBits_length]) (by omega) (by omega)
  have k0 : w4.cell? ⟨lg, 0, none⟩ = some (.slice (some ⟨b0, off0, none⟩) cnt cap0) := hg4.cell hc0 (by simp)
  have hcl : (0 : Int) < (chs.length : Int) := by omega
  clear H4
  go_wp2_with fail
  refine H5.mono ?_
  rintro e w5 ⟨rfl, v5, hs5, hw5⟩
  have hb5 := Nat.le_trans hb4 hw5.kp.size
  have hw05 := hw04.trans hw5
  have hL5 : ((((([] : List Bool) ++ numBits ((16775280 : Nat) : Int) 24) ++ numBits (mode : Int) 4) ++ numBits ((0 : Nat) : Int) 4) ++ numBits (number : Int) 8) ++ numBits ((cnt - 1 : Nat) : Int) 16 = headBits mode number cnt := by
    unfold headBits
    simp [List.append_assoc]
  rw [hL5] at hs5
  have HST := qwstring w5 gw (gw + 1) v5 _ hs5 (by rw [headBits_length]; omega)
  have HC8 := crc8_any ⟨(pack (headBits mode number cnt)).toArray⟩ w5 (by show (pack (headBits mode number cnt)).toArray.size ≤ maxLen; rw [List.size_toArray, pack_length, headBits_length]; unfold maxLen; omega)
  obtain ⟨c8, hc8⟩ : ∃ c8, crc 8 7 (pack (headBits mode number cnt)) = c8 := ⟨_, rfl⟩
  have hc8l := crc_lt8 (pack (headBits mode number cnt))
  rw [hc8] at hc8l
  have HC8' : Calls Try.prog 12 #[.string ⟨(pack (headBits mode number cnt)).toArray⟩] w5 fun e w' => e = .returned (.int .i64 c8) ∧ w' = w5 := by
    refine HC8.mono ?_
    rintro e w' ⟨rfl, rfl⟩
    exact ⟨by rw [← hc8], rfl⟩
  have HC8E : Hid (crc 8 7 (pack (headBits mode number cnt)) = c8) := hc8
  have H6 : Calls _ _ #[_, .int .i64 c8, .int .i64 8] _ _ := qwnum w5 gw (gw + 1) v5 _ (c8 : Int) 8 hs5 hb5 (by rw [headBits_length]; omega) (by omega) (by omega)
  clear hs1 hs2 hs3 hs4 H5 hL5 hc8 HC8 hcm k0
  go_wp2_with (first
    | (go_at_call 73; refine HST.mono ?_; rintro e w9 ⟨rfl, rfl⟩)
    | (go_at_call 12; refine HC8'.mono ?_; rintro e w9 ⟨rfl, rfl⟩))
  refine H6.mono ?_
  rintro e w6 ⟨rfl, v6, hs6, hw6⟩
  have hb6 := Nat.le_trans hb5 hw6.kp.size
  have hw06 := hw05.trans hw6
  have HCH : Hid (ChIn w (.slice (some ⟨lg, 0, none⟩) chs.length lcap) chs) := hch
  have hl256 : ∀ c ∈ chs, c.length ≤ 256 := by
    intro c hc
    obtain ⟨i, hi, rfl⟩ := List.mem_iff_getElem.1 hc
    obtain ⟨_, _, _, _, hsm⟩ := hcells i hi
    have := hsm.len.2
    simpa [List.getD, hi] using this
  clear H6 HC8' HST hw1 hw2 hw3 hw4 hw5 hw6 hw04 hw05 hb1 hb2 hb3 hb4 hb5 hg4 hs5 hcells hch hc0 hs0
  go_wp2_with fail
  go_loopg [29] chs.length (fun gk t29 wr => ∃ (k : Nat) (v' : Value), gk + k = chs.length ∧ t29 = .int .i64 k ∧ WrS wr gw (gw + 1) v' ((headBits mode number cnt ++ numBits (c8 : Int) 8) ++ ((chs.take k).map (shortest wide)).flatMap (subBits wide)) ∧ Wrote w0 wr gw (.slice none 0 0) v')
  case atStart => exact ⟨0, v6, rfl, rfl, by simpa using hs6, hw06⟩
  case round =>
    clear hs6 hw06 hb6
    obtain ⟨k, v', hgk, rfl, hs, hwr⟩ := hrel
    have hgr := HNEW.out wr v' hwr
    have hbr := Nat.le_trans hb0 hwr.kp.size
    obtain ⟨L, hL⟩ : ∃ L, (headBits mode number cnt ++ numBits (c8 : Int) 8) ++ ((chs.take k).map (shortest wide)).flatMap (subBits wide) = L := ⟨_, rfl⟩
    have hLl : L.length ≤ 20064 := by
      rw [← hL, List.length_append, List.length_append, headBits_length, numBits_length]
      have h1 := subs_len wide hwd (chs.take k) (fun c hc => hl256 c (List.mem_of_mem_take hc))
      rw [List.length_take] at h1
      omega
    rw [hL] at hs
    have HL : Hid ((headBits mode number cnt ++ numBits (c8 : Int) 8) ++ ((chs.take k).map (shortest wide)).flatMap (subBits wide) = L) := hL
    by_cases hlt : k < chs.length
    · obtain ⟨lg', lcap', hv', _, hcl2⟩ := HCH.out
      have elg : lg = lg' := by injection hv' with e1; injection e1 with e1; injection e1 with e1
      subst elg
      obtain ⟨b, off, cap, hck, hsm⟩ := hcl2 k hlt
      have hckr : wr.cell? ⟨lg, k, none⟩ = some (.slice (some ⟨b, off, none⟩) (chs.getD k []).length cap) := hgr.cell hck (by simp)
      obtain ⟨c, hc⟩ : ∃ c, chs.getD k [] = c := ⟨_, rfl⟩
      have hnext : ((chs.take (k + 1)).map (shortest wide)).flatMap (subBits wide) = ((chs.take k).map (shortest wide)).flatMap (subBits wide) ++ subBits wide (shortest wide c) := by
        have e : chs.take (k + 1) = chs.take k ++ [c] := by rw [← hc, List.take_succ_eq_append_getElem hlt]; simp [List.getD, hlt]
        rw [e, List.map_append, List.flatMap_append]
        simp
      rw [hc] at hckr hsm
      have HSH := qshort wr b off cap c wide (by omega) (hsm.kept hgr)
      have hsmall := subs_small hsm
      have hmem : shortest wide c ∈ ESub.plain c :: others c := by
        rcases (pickBest_spec (subCost wide) (others c) (.plain c)).1 with e | e
        · unfold shortest; rw [e]; simp
        · exact List.mem_cons_of_mem _ e
      have hes := hsmall _ hmem
      have HNEXT : Hid _ := hnext
      have hkn : (k : Int) < (chs.length : Int) := by omega
      have hbgw : b < gw := by have := hsm.lt; have := HGW.out; omega
      have hgwr : gw < wr.heap.size := hs.box.lt
      have hvl : ∀ q, v'.ownBlock = some q → gw + 1 ≤ q ∧ q < wr.heap.size := fun q hq => World.ownsRow.lt hs.row q hq
      obtain ⟨sub, hsub⟩ : ∃ sub, shortest wide c = sub := ⟨_, rfl⟩
      rw [hsub] at HSH hes
      have HSUB : Hid (shortest wide c = sub) := hsub
      obtain ⟨ln, hln⟩ : ∃ ln, c.length = ln := ⟨_, rfl⟩
      rw [hln] at HSH hckr
      clear hc hck hcl2 hv' hnext hsmall hmem hsm hsub hln
      go_wp2_with (first
        | (go_at_call 76; refine HSH.mono ?_; rintro e w7 ⟨sv, rfl, hg7, hES⟩))
      have hs7 := hs.grown hg7
      have hES7 := hES.mono (D' := fun q => (q = b ∨ wr.heap.size ≤ q) ∧ q < w7.heap.size) (fun q hq hl => ⟨hq, hl⟩)
      have HWS := qwsub w7 gw (gw + 1) v' sv L _ sub wide hs7 (Nat.le_trans hbr hg7.size) (by omega) (by omega) hes hES7 (fun q hq => ⟨hq.2, by omega, fun e => by have := hvl q e; omega⟩)
      refine HWS.mono ?_
      rintro e w8 ⟨rfl, v8, hs8, hw8⟩
      have hwr8 := hwr.trans ((Wrote.grown wr w7 gw v' hg7).trans hw8)
      clear HWS HSH hES hES7 hs7 hs hL hLl hg7 hw8 hwr hgr
      go_wp2
      go_roundg (gk - 1)
      case measure => omega
      case rel => exact ⟨k + 1, v8, by omega, by go_num, by rw [HNEXT.out, HSUB.out, ← List.append_assoc, HL.out]; exact hs8, hwr8⟩
    · have hkn : k = chs.length := by omega
      subst hkn
      have hLe : L = preBits mode number cnt wide (chs.map (shortest wide)) := by
        rw [← hL, List.take_length]
        unfold preBits
        rw [HC8E.out, List.append_assoc]
      have HAL := qwalign wr gw (gw + 1) v' L hs (by omega)
      have hLpos : 64 ≤ L.length := by rw [← hL, List.length_append, List.length_append, headBits_length, numBits_length]; omega
      have HLE : Hid (L = preBits mode number cnt wide (chs.map (shortest wide))) := hLe
      clear hLe hL HL hgk
      go_wp2_with fail
      refine HAL.mono ?_
      rintro e w7 ⟨rfl, v7, hs7, hw7⟩
      have hL7 : (L ++ List.replicate (padLen L.length) false).length ≤ 20080 := by rw [List.length_append, List.length_replicate]; unfold padLen; omega
      have HST := qwstring w7 gw (gw + 1) v7 _ hs7 (by rw [List.length_append]; omega)
      rw [pack_pad] at HST
      have HC16 := crc16_any ⟨(pack L).toArray⟩ w7 (by show (pack L).toArray.size ≤ maxLen; rw [List.size_toArray, pack_length]; unfold maxLen; omega)
      obtain ⟨c16, hc16⟩ : ∃ c16, crc 16 32773 (pack L) = c16 := ⟨_, rfl⟩
      have hc16l := crc_lt16 (pack L)
      rw [hc16] at hc16l
      have HC16' : Calls Try.prog 13 #[.string ⟨(pack L).toArray⟩] w7 fun e w' => e = .returned (.int .i64 c16) ∧ w' = w7 := by
        refine HC16.mono ?_
        rintro e w' ⟨rfl, rfl⟩
        exact ⟨by rw [← hc16], rfl⟩
      have HC16E : Hid (crc 16 32773 (pack L) = c16) := hc16
      have H8 : Calls _ _ #[_, .int .i64 c16, .int .i64 16] _ _ := qwnum w7 gw (gw + 1) v7 _ (c16 : Int) 16 hs7 (Nat.le_trans hbr hw7.kp.size) (by omega) (by omega) (by omega)
      clear HC16 hc16 HAL
      go_wp2_with (first
        | (go_at_call 73; refine HST.mono ?_; rintro e w9 ⟨rfl, rfl⟩)
        | (go_at_call 13; refine HC16'.mono ?_; rintro e w9 ⟨rfl, rfl⟩))
      refine H8.mono ?_
      rintro e w10 ⟨rfl, v10, hs10, hw10⟩
      have HST2 := qwstring w10 gw (gw + 1) v10 _ hs10 (by rw [List.length_append, List.length_append]; omega)
      have hbytes : pack ((L ++ List.replicate (padLen L.length) false) ++ numBits (c16 : Int) 16) = frameBytes mode number cnt wide (chs.map (shortest wide)) := by
        unfold frameBytes
        rw [← HLE.out, HC16E.out, pack_append _ _ (by rw [List.length_append, List.length_replicate]; unfold padLen; omega), pack_pad]
      rw [hbytes] at HST2
      have hgf := HNEW.out w10 v10 (hwr.trans (hw7.trans hw10))
      have hpost : FrWPost w (frameBytes mode number cnt wide (chs.map (shortest wide))) (.returned (.string ⟨(frameBytes mode number cnt wide (chs.map (shortest wide))).toArray⟩)) w10 := ⟨rfl, hgf⟩
      clear H8 HC16' HST hbytes hs10 hs7 hs hgf hL7 hLl
      go_wp2_with (go_at_call 73; refine HST2.mono ?_; rintro e w11 ⟨rfl, rfl⟩)
      exact bodyPost_ret (v := .string ⟨(frameBytes mode number cnt wide (chs.map (shortest wide))).toArray⟩) (by simp [results, Try.results51, go_sem]) rfl hpost
end Go.Proofs.Ytncmgnmcggkhnaa

namespace Go.Proofs.Ytncmgnmcggkhnaa
open Go.RowKit

/-- a list of ints that is handed in, with its room; in a block of `D` -/
def LoC (w : World) (D : Nat → Prop) (v : Value) (xs : List Int) : Prop :=
  (v = .slice none 0 0 ∧ xs = []) ∨ ∃ b off cap, v = .slice (some ⟨b, off, none⟩) xs.length cap ∧ xs.length ≤ cap ∧ D b ∧ b < w.heap.size ∧ ∀ i, i < xs.length → w.cell? ⟨b, off + i, none⟩ = some (.int .i64 (xs.getD i 0))

theorem LoC.lo {w : World} {D : Nat → Prop} {v : Value} {xs : List Int} (h : LoC w D v xs) : Lo w v xs := by
  rcases h with h | ⟨b, off, cap, hv, _, _, _, hc⟩
  · exact .inl h
  · exact .inr ⟨b, off, cap, hv, hc⟩

theorem LoC.kp {w w' : World} {D S : Nat → Prop} {v : Value} {xs : List Int} (h : LoC w D v xs) (hk : Kp w w' S) (hn : ∀ b, D b → ¬ S b) : LoC w' D v xs := by
  rcases h with h | ⟨b, off, cap, hv, hcap, hD, hlt, hc⟩
  · exact .inl h
  · exact .inr ⟨b, off, cap, hv, hcap, hD, Nat.lt_of_lt_of_le hlt hk.size, fun i hi => cell_kp (hc i hi) hk hlt (hn b hD)⟩

/-- a list of lists that is handed in -/
def Ins (w : World) (D : Nat → Prop) (v : Value) (chs : List (List Int)) : Prop :=
  (v = .slice none 0 0 ∧ chs = []) ∨ ∃ lg lcap, v = .slice (some ⟨lg, 0, none⟩) chs.length lcap ∧ D lg ∧ lg < w.heap.size ∧ ∀ i, i < chs.length → ∃ vi, w.cell? ⟨lg, i, none⟩ = some vi ∧ LoC w D vi (chs.getD i [])

theorem Ins.kp {w w' : World} {D S : Nat → Prop} {v : Value} {chs : List (List Int)} (h : Ins w D v chs) (hk : Kp w w' S) (hn : ∀ b, D b → ¬ S b) : Ins w' D v chs := by
  rcases h with h | ⟨lg, lcap, hv, hD, hlt, hc⟩
  · exact .inl h
  · refine .inr ⟨lg, lcap, hv, hD, Nat.lt_of_lt_of_le hlt hk.size, fun i hi => ?_⟩
    obtain ⟨vi, h1, h2⟩ := hc i hi
    exact ⟨vi, cell_kp h1 hk hlt (hn lg hD), h2.kp hk hn⟩

theorem Ins.kept {w w' : World} {D : Nat → Prop} {v : Value} {chs : List (List Int)} (h : Ins w D v chs) (hg : w.grownBy w' none) : Ins w' D v chs := h.kp (Kp.ofNone (S := fun _ => False) hg) (fun _ _ e => e)

theorem Ins.slice {w : World} {D : Nat → Prop} {v : Value} {chs : List (List Int)} (h : Ins w D v chs) : ∃ a c, v = .slice a chs.length c := by
  rcases h with ⟨rfl, rfl⟩ | ⟨lg, lcap, rfl, _⟩
  · exact ⟨none, 0, rfl⟩
  · exact ⟨_, lcap, rfl⟩

theorem Ins.at {w : World} {D : Nat → Prop} {a : Option Addr} {n c : Nat} {chs : List (List Int)} (h : Ins w D (.slice a n c) chs) (k : Nat) (hk : k < chs.length) : ∃ lg vi, a = some ⟨lg, 0, none⟩ ∧ w.cell? ⟨lg, k, none⟩ = some vi ∧ LoC w D vi (chs.getD k []) := by
  rcases h with ⟨_, e⟩ | ⟨lg, lcap, e, _, _, hc⟩
  · rw [e] at hk; simp at hk
  · injection e with e1 _ _
    obtain ⟨vi, h1, h2⟩ := hc k hk
    exact ⟨lg, vi, e1, h1, h2⟩

/-- a part of each list -/
def cutAll (f t : Nat) (chs : List (List Int)) : List (List Int) := chs.map (fun c => (c.drop f).take (t - f))

theorem cutAll_get (f t : Nat) (chs : List (List Int)) (i : Nat) (h : i < chs.length) : (cutAll f t chs).getD i [] = ((chs.getD i []).drop f).take (t - f) := by
  unfold cutAll
  simp [List.getD, h]

theorem map_get_int (xs : List Int) (j : Nat) (hj : j < xs.length) : (xs.map (Value.int .i64))[j]? = some (.int .i64 (xs.getD j 0)) := by
  rw [List.getElem?_map, List.getElem?_eq_getElem hj]
  simp [List.getD, hj]

/-- such lists can be written as a frame -/
theorem Views.chIn {w : World} {D : Nat → Prop} {v : Value} {ls : List (List Int)} (h : Views w D v ls) (hl : ∀ i, i < ls.length → 1 ≤ (ls.getD i []).length ∧ (ls.getD i []).length ≤ 256 ∧ Abs 32768 (ls.getD i [])) : ChIn w v ls := by
  obtain ⟨lg, lcap, hv, _, _, hlt, hc⟩ := h
  refine ⟨lg, lcap, hv, hlt, fun i hi => ?_⟩
  obtain ⟨g, off, cap, _, hgl, h1, hcap, h2⟩ := hc i hi
  obtain ⟨l1, l2, l3⟩ := hl i hi
  refine ⟨g, off, cap, h1, ⟨⟨l1, l2⟩, hcap, hgl, fun j hj => ?_, l3⟩⟩
  have h3 := h2 j (.int .i64 ((ls.getD i []).getD j 0)) (map_get_int _ j hj)
  have e : (⟨g, off, none⟩ : Addr).add j = ⟨g, off + j, none⟩ := by
    unfold Addr.add
    split
    · rename_i e; rw [e, Nat.add_zero]
    · rfl
  rw [e] at h3
  exact h3
end Go.Proofs.Ytncmgnmcggkhnaa

namespace Go.Proofs.Ytncmgnmcggkhnaa
open Go.RowKit

theorem bldSize : (Try.prog.info? 95).map (·.size) = some 2 := by kernel_rfl
theorem bldLies : liesAt Try.prog Try.prog.depth 95 (2 / Try.prog.cellsOf 95) 0 95 1 = true := by kernel_rfl
theorem bldPtr : Try.prog.underlying 93 = some (.pointer 95) := by kernel_rfl
theorem bldUns : Try.prog.underlying 153 = some .unsafePointer := by kernel_rfl
theorem bldByteP : Try.prog.underlying 133 = some (.pointer 5) := by kernel_rfl
theorem bldCells : Try.prog.cellsOf 5 = 1 := by kernel_rfl

/-- a builder in memory -/
structure BldS (w : World) (gb base : Nat) (p v : Value) (bs : List UInt8) : Prop where
  box : Box w gb #[p, v] 95
  row : w.ownsRow base 5 1 v bs.length (bs.map byteV)
  lt : gb < base
  ptr : p = .pointer none ∨ p = .pointer (some ⟨gb, 0, none⟩)

theorem Box.shape {w : World} {g : Nat} {cs : Array Value} {t : TypeId} (h : Box w g cs t) : w.shape? g = some (t, cs.size) := by
  unfold Box at h
  simp [World.shape?, h]

set_option maxHeartbeats 1000000 in
set_option maxRecDepth 100000 in
theorem qcopycheck (w : World) (gb : Nat) (p v : Value) (hb : Box w gb #[p, v] 95) (hp : p = .pointer none ∨ p = .pointer (some ⟨gb, 0, none⟩)) :
    Calls Try.prog 71 #[.pointer (some ⟨gb, 0, none⟩)] w fun e w' => e = .returned (.tuple #[]) ∧ Box w' gb #[.pointer (some ⟨gb, 0, none⟩), v] 95 ∧ w.grownBy w' (some gb) := by
  obtain ⟨j, hj, hjs⟩ := Option.map_eq_some_iff.1 bldSize
  rcases hp with rfl | rfl
  · have h0 : w.cell? ⟨gb, 0, none⟩ = some (.pointer none) := hb.cell 0
    have hf := hb.fz 0
    have hsh := hb.shape
    have hset := hb.set 0 (.pointer (some ⟨gb, 0, none⟩))
    go_enter Try.func71, Try.ntmps71
    go_wp2
    rw [Lib.run_to_unsafe w ⟨gb, 0, none⟩ bldPtr bldUns hj (by rw [hjs]; decide) hsh (by simp)]
    simp only [Result.andThen]
    rw [Oper.upon_value]
    go_wp2
    rw [run_callFunc_extern Try.func99 (by kernel_rfl) (by kernel_rfl) (by kernel_rfl) (e := Extern.AbiNoEscape.same) (by kernel_rfl)]
    rw [Lib.run_noEscape]
    simp only [Result.andThen]
    rw [Oper.upon_value]
    go_wp2
    rw [Lib.run_from_unsafe w ⟨gb, 0, none⟩ bldUns bldPtr hj hsh bldLies]
    simp only [Result.andThen]
    rw [Oper.upon_value]
    go_wp2
    exact bodyPost_end (v := .tuple #[]) (by simp [results, Try.results71, go_sem]) rfl ⟨rfl, hset, grown_set _ _ _ _⟩
  · have h0 : w.cell? ⟨gb, 0, none⟩ = some (.pointer (some ⟨gb, 0, none⟩)) := hb.cell 0
    go_enter Try.func71, Try.ntmps71
    go_wp2
    rw [Lib.run_neq_ptr_same w _ bldPtr hj]
    go_wp2
    exact bodyPost_end (v := .tuple #[]) (by simp [results, Try.results71, go_sem]) rfl ⟨rfl, hb, grown_refl _ _⟩

def BldPost (w : World) (gb base : Nat) (bs : List UInt8) (w' : World) : Prop := ∃ v, BldS w' gb base (.pointer (some ⟨gb, 0, none⟩)) v bs ∧ Kp w w' (fun b => b = gb ∨ base ≤ b)

theorem strCells_bytes (s : ByteArray) : Lib.strCells s = s.data.toList.map byteV := by
  unfold Lib.strCells byteV
  rfl

set_option maxHeartbeats 2000000 in
set_option maxRecDepth 100000 in
theorem qbwrite (w : World) (gb base : Nat) (p v : Value) (bs : List UInt8) (s : ByteArray) (h : BldS w gb base p v bs) (hb : base ≤ w.heap.size) (hl : bs.length ≤ 1099511627776) (hs : s.size ≤ 1099511627776) :
    Calls Try.prog 48 #[.pointer (some ⟨gb, 0, none⟩), .string s] w fun e w' => e = .returned (.tuple #[.int .i64 s.size, .nilIface]) ∧ BldPost w gb base (bs ++ s.data.toList) w' := by
  obtain ⟨i0, hi, hz0, hz1, hz2⟩ := info_parts infoU8
  have HCC := qcopycheck w gb p v h.box h.ptr
  obtain ⟨a, cp, rfl⟩ := row_slice h.row
  have hrow := h.row
  have hlt := h.lt
  obtain ⟨n, hn⟩ : ∃ n, bs.length = n := ⟨_, rfl⟩
  rw [hn] at HCC hrow hl
  have HN : Hid (bs.length = n) := hn
  have hnow : ∀ q, (Value.slice a n cp).ownBlock = some q → base ≤ q ∧ q < w.heap.size := fun q hq => World.ownsRow.lt hrow q hq
  clear h hn
  go_enter Try.func48, Try.ntmps48
  go_wp2_with fail
  refine HCC.mono ?_
  rintro e w1 ⟨rfl, hbx, hg1⟩
  have hrow1 := World.ownsRow.kept hrow hg1 (by
    cases hq : (Value.slice a n cp).ownBlock with
    | none => exact .inl rfl
    | some q => exact .inr (fun e => by injection e with e; have := (hnow q hq).1; omega))
  have c1 : w1.cell? ⟨gb, 1, none⟩ = some (.slice a n cp) := hbx.cell 1
  clear HCC hrow
  go_wp2_with (at_builtin; refine Lib.wpList_append_own_string _ rfl _ _ 59 9 rfl base 5 i0 Try.underlying59 Try.underlying9 hi hz0 hz1 hz2 _ _ _ rfl hrow1 s rfl ?c3 ?c4 ?c5 ?_)
  case c3 => unfold maxLen; omega
  case c4 => omega
  case c5 => have := hg1.size; omega
  intro v' w2 hown' hgrow _
  obtain ⟨a', cp', rfl⟩ := row_slice hown'
  have hbx2 := hbx.kept hgrow (fun e => by have := (hnow gb e.symm).1; omega)
  have d1 : w2.cell? ⟨gb, 1, none⟩ = some (.slice a n cp) := hbx2.cell 1
  have f1 := hbx2.fz 1
  have hset := hbx2.set 1 (.slice a' (n + s.size) cp')
  have hsg := grown_set w2 gb 1 (.slice a' (n + s.size) cp')
  have hrow3 := World.ownsRow.kept hown' hsg (by
    cases hq : (Value.slice a' (n + s.size) cp').ownBlock with
    | none => exact .inl rfl
    | some q => exact .inr (fun e => by injection e with e; have := (World.ownsRow.lt hown' q hq).1; omega))
  have hk : Kp w (w2.setCell ⟨gb, 1, none⟩ (.slice a' (n + s.size) cp')) (fun b => b = gb ∨ base ≤ b) := by
    refine ((Kp.mono (Kp.of hg1) (fun b hb => .inl (.inl (by injection hb)))).trans (Kp.of hgrow) (fun b hb => .inl (.inr (hnow b hb.symm).1))).trans (Kp.of hsg) (fun b hb => .inl (.inl (by injection hb)))
  have hpost : BldPost w gb base (bs ++ s.data.toList) (w2.setCell ⟨gb, 1, none⟩ (.slice a' (n + s.size) cp')) := by
    refine ⟨_, ⟨hset, ?_, hlt, .inr rfl⟩, hk⟩
    have hln : (bs ++ s.data.toList).length = n + s.size := by rw [List.length_append, HN.out]; simp
    rw [hln, List.map_append, ← strCells_bytes]
    exact hrow3
  clear hset hrow3 hk hown' hgrow hsg hrow1 hbx hbx2 hg1 hi hz0 hz1 hz2 c1
  go_wp2
  exact bodyPost_ret (v := .tuple #[.int .i64 s.size, .nilIface]) (by simp [results, Try.results48, go_sem]) rfl ⟨rfl, hpost⟩

set_option maxHeartbeats 1000000 in
set_option maxRecDepth 100000 in
theorem qbstring (w : World) (gb base : Nat) (p v : Value) (bs : List UInt8) (h : BldS w gb base p v bs) (h0 : bs ≠ []) :
    Calls Try.prog 52 #[.pointer (some ⟨gb, 0, none⟩)] w fun e w' => e = .returned (.string ⟨bs.toArray⟩) ∧ Below base w w' := by
  have hl0 : 1 ≤ bs.length := List.length_pos_iff.mpr h0
  have hrow := h.row
  obtain ⟨g, cap, cur, rfl, hbg, hg, hnc, hcm, hcs, htake⟩ : ∃ g cap cur, v = .slice (some ⟨g, 0, none⟩) bs.length cap ∧ base ≤ g ∧ w.heap[g]? = some (.cells cur 5 (0, 0)) ∧ bs.length ≤ cap ∧ cap ≤ maxLen ∧ cur.size = cap * 1 ∧ cur.toList.take (bs.length * 1) = bs.map byteV := by
    rcases hrow.2 with ⟨_, hz⟩ | ⟨g, cap, cur, hv, r⟩
    · omega
    · exact ⟨g, cap, cur, hv, r⟩
  have c1 : w.cell? ⟨gb, 1, none⟩ = some (.slice (some ⟨g, 0, none⟩) bs.length cap) := h.box.cell 1
  have hSD : (Builtin.unsafeSliceData_ #[59] 133 #[.slice (some ⟨g, 0, none⟩) bs.length cap]).run Try.prog w.drew = .ok (.pointer (some ⟨g, 0, none⟩)) w.drew :=
    Lib.run_unsafeSliceData_row _ _ _ _ _ _ (by omega)
  have hUS : (Builtin.unsafeString_ #[133, 3] 9 #[.pointer (some ⟨g, 0, none⟩), .int .i64 bs.length]).run Try.prog w.drew = .ok (.string ⟨bs.toArray⟩) (w.drew.freeze ⟨g, 0, none⟩ bs.length) := by
    refine Lib.run_unsafeString_row w.drew 133 3 9 5 bldByteP bldCells g cur.size (by have hg' : w.drew.heap[g]? = some (.cells cur 5 (0, 0)) := hg; simp [World.shape?, hg']) bs h0 (by omega) (by unfold maxLen at hcm; omega) ?_
    intro j x hx
    have hj : j < bs.length := by
      rcases Nat.lt_or_ge j bs.length with h1 | h1
      · exact h1
      · rw [List.getElem?_eq_none h1] at hx; cases hx
    have e : (⟨g, 0, none⟩ : Addr).add j = ⟨g, j, none⟩ := addr_add g j
    rw [e]
    show w.cell? ⟨g, j, none⟩ = _
    rw [World.ownsRow.cellAt hrow j (by omega), List.getElem?_map, hx]
    rfl
  clear hrow hcs htake h
  go_enter Try.func52, Try.ntmps52
  go_wp2
  go_region
  all_goals
    go_wp2
    exact bodyPost_ret (v := .string ⟨bs.toArray⟩) (by simp [results, Try.results52, go_sem]) rfl ⟨rfl, Lib.below_freeze (Below.drew (Below.refl base w)) (p := ⟨g, 0, none⟩) hbg _⟩
end Go.Proofs.Ytncmgnmcggkhnaa

namespace Go.Proofs.Ytncmgnmcggkhnaa
open Go.RowKit

set_option maxHeartbeats 2000000 in
set_option maxRecDepth 100000 in
/-- a copy of a text -/
theorem qslclone (w : World) (s : ByteArray) (hs : s.size ≤ 6000) :
    Calls Try.prog 79 #[.string s] w fun e w' => e = .returned (.string s) ∧ w.grownBy w' none := by
  by_cases h0 : s.size = 0
  · have hs : s = ⟨#[]⟩ := by
      apply ByteArray.ext
      exact Array.eq_empty_of_size_eq_zero h0
    subst hs
    go_enter Try.func79, Try.ntmps79
    go_wp2
    go_ret
    exact ⟨rfl, grown_refl _ _⟩
  · obtain ⟨i0, hi, hz0, hz1, hz2⟩ := info_parts infoU8
    have hsz1 : (Try.prog.info? 5).map (·.size) = some 1 := by rw [hi]; simp [hz1]
    obtain ⟨Z, hZ⟩ : ∃ Z, Z = madeCells (Value.int .u8 0).cells (((s.size : Nat) : Int).toNat * i0.size) := ⟨_, rfl⟩
    have hZs : Z.size = s.size := by rw [hZ, size_madeCells, hz1]; simp
    obtain ⟨w1, hw1⟩ : ∃ w1, w.alloc (.cells Z 5) = w1 := ⟨_, rfl⟩
    obtain ⟨g, hg⟩ : ∃ g, w.heap.size = g := ⟨_, rfl⟩
    have hmake : (Instr.makeSlice 59 (.int .i64 (s.size : Int)) (.int .i64 (s.size : Int))).run Try.prog w = .ok (.slice (some ⟨g, 0, none⟩) s.size s.size) w1 := by
      have h := run_make (P := Try.prog) w 59 5 i0 (.int .u8 0) Try.underlying59 hi hz0 .i64 .i64 (s.size : Int) (s.size : Int) (by omega) (by omega) (by rw [hz2]; omega) (by omega)
      rw [← hZ, hw1, hg] at h
      simpa using h
    have hb1 : Box w1 g Z 5 := by rw [← hg, ← hw1]; exact Box.new _ _ _
    have hbl1 : Below g w w1 := by rw [← hw1, ← hg]; exact (Below.refl _ w).alloc (Nat.le_refl _) _
    have hcopy := Lib.run_copy_row_string (P := Try.prog) w1 59 9 3 5 g 0 s.size s.size s Z 5 Try.underlying59 hsz1 hb1 (Nat.le_refl _) (by omega)
    obtain ⟨C, hC⟩ : ∃ C, (Z.toList.take 0 ++ Lib.byteCells s.data.toList ++ Z.toList.drop (0 + s.size)).toArray = C := ⟨_, rfl⟩
    rw [hC] at hcopy
    have hCl : C.toList = Lib.byteCells s.data.toList := by
      rw [← hC, List.toList_toArray, List.take_zero, List.nil_append, List.drop_of_length_le (by rw [Array.length_toList]; omega), List.append_nil]
    have hCs : C.size = s.size := by rw [← Array.length_toList, hCl, Lib.byteCells_length, ← Lib.size_eq]
    obtain ⟨w2, hw2⟩ : ∃ w2, w1.setRow g C = w2 := ⟨_, rfl⟩
    rw [hw2] at hcopy
    have hb2 : w2.heap[g]? = some (.cells C 5 (0, 0)) := by rw [← hw2]; exact setRow_heap _ _ Z _ 5 (0, 0) hb1
    have hbl2 : Below g w1 w2 := by rw [← hw2]; exact ⟨rfl, rfl, rfl, by simp, fun k hk => setRow_other _ _ _ _ (by omega)⟩
    have hne : s.data.toList ≠ [] := fun e => h0 (by rw [Lib.size_eq, e]; rfl)
    have hstr := Lib.run_unsafeString_row (P := Try.prog) w2 133 3 9 5 bldByteP bldCells g C.size (by unfold World.shape?; rw [hb2]) s.data.toList hne (by rw [← Lib.size_eq]; omega) (by rw [← Lib.size_eq]; omega)
      (fun j x hx => Lib.cells_of_row hb2 C.size j _ (by rw [List.take_of_length_le (by rw [Array.length_toList]; exact Nat.le_refl _), hCl]; simp [Lib.byteCells, hx]))
    rw [← Lib.size_eq] at hstr
    have hfin : Below g w (w2.freeze ⟨g, 0, none⟩ s.size) := Lib.below_freeze (hbl1.trans hbl2) (p := ⟨g, 0, none⟩) (Nat.le_refl _) _
    have HFIN : Hid (w.grownBy (w2.freeze ⟨g, 0, none⟩ s.size) none) := ⟨hfin.os, hfin.tape, hfin.output, hfin.size, fun k hk _ => hfin.block k (by rw [← hg]; exact hk)⟩
    have hpos : (0 : Int) < (s.size : Int) := by omega
    clear hfin hbl1 hbl2 hb1 hb2 hC hCl hCs hw1 hw2 hZ hZs hg hi hz0 hz1 hz2 hsz1
    go_enter Try.func79, Try.ntmps79
    go_wp2
    go_ret
    exact ⟨rfl, HFIN.out⟩

theorem qsclone (w : World) (s : ByteArray) (hs : s.size ≤ 6000) :
    Calls Try.prog 56 #[.string s] w fun e w' => e = .returned (.string s) ∧ w.grownBy w' none := by
  have HC := qslclone w s hs
  go_enter Try.func56, Try.ntmps56
  go_wp2_with (go_at_call 79; refine HC.mono ?_; rintro e w1 ⟨rfl, hg1⟩)
  go_ret
  exact ⟨rfl, hg1⟩
end Go.Proofs.Ytncmgnmcggkhnaa

namespace Go.Proofs.Ytncmgnmcggkhnaa
open Go.RowKit

/-- a frame that was read: its bytes and its channels -/
abbrev Fr := List UInt8 × List (List Int)

/-- the samples of frames, behind one another -/
def joined (c : Nat) (l : List Fr) : List (List Int) := l.foldl (fun acc p => List.zipWith (· ++ ·) acc p.2) (List.replicate c [])

theorem joined_snoc (c : Nat) (l : List Fr) (p : Fr) : joined c (l ++ [p]) = List.zipWith (· ++ ·) (joined c l) p.2 := by
  unfold joined; simp

/-- frames read one behind the other: the first `f` bytes of `L` -/
structure Fls (h : Head) (L : List UInt8) (l : List Fr) (f : Nat) (ended : Bool) : Prop where
  bytes : (l.map (·.1)).flatten = L.take f
  each : ∀ i (p : Fr), l[i]? = some p → ∃ rest, pFrame h i (p.1 ++ rest) = some (p.2, rest)
  full : ∀ i (p : Fr), l[i]? = some p → (i + 1 < l.length ∨ ended = false) → ∀ j, j < h.channels → (p.2.getD j []).length = h.block

theorem Fls.start (h : Head) (L : List UInt8) : Fls h L [] 0 false := ⟨rfl, fun i p hp => by simp at hp, fun i p hp => by simp at hp⟩

theorem Fls.next {h : Head} {L part : List UInt8} {l : List Fr} {f k cnt : Nat} {chs : List (List Int)} (hf : Fls h L l f false) (hb : part = (L.drop f).take k) (hp : pFrame h l.length (L.drop f) = some (chs, (L.drop f).drop k))
    (hc : ∀ j, j < h.channels → (chs.getD j []).length = cnt) (hcnt : cnt ≤ h.block) : Fls h L (l ++ [(part, chs)]) (f + k) (decide (cnt < h.block)) := by
  refine ⟨?_, fun i p hi => ?_, fun i p hi hfull j hj => ?_⟩
  · rw [List.map_append, List.flatten_append, hf.bytes, hb, List.take_add]
    simp
  · rcases Nat.lt_or_ge i l.length with h1 | h1
    · rw [List.getElem?_append_left h1] at hi
      exact hf.each i p hi
    · rw [List.getElem?_append_right h1] at hi
      have h2 : i - l.length = 0 := by
        rcases Nat.eq_zero_or_pos (i - l.length) with h3 | h3
        · exact h3
        · rw [List.getElem?_eq_none (by simp; omega)] at hi; cases hi
      have h3 : i = l.length := by omega
      rw [h2] at hi
      injection hi with hi
      subst hi
      subst h3
      exact ⟨(L.drop f).drop k, by rw [hb, List.take_append_drop]; exact hp⟩
  · rcases Nat.lt_or_ge i l.length with h1 | h1
    · rw [List.getElem?_append_left h1] at hi
      exact hf.full i p hi (.inr rfl) j hj
    · rw [List.getElem?_append_right h1] at hi
      have h2 : i - l.length = 0 := by
        rcases Nat.eq_zero_or_pos (i - l.length) with h3 | h3
        · exact h3
        · rw [List.getElem?_eq_none (by simp; omega)] at hi; cases hi
      rw [h2] at hi
      injection hi with hi
      subst hi
      rcases hfull with h4 | h4
      · rw [List.length_append, List.length_singleton] at h4; omega
      · have h5 := of_decide_eq_false h4
        have h6 := hc j hj
        show (chs.getD j []).length = _
        omega

/-- what a function that takes frames leaves behind -/
def TakePost (J : World → List Fr → (Nat → Prop) → Prop) (W : World) (l : List Fr) (S : Nat → Prop) (p : Fr) (e : Ending) (W' : World) : Prop :=
  e = .returned (.tuple #[]) ∧ Kp W W' S ∧ ∃ S', J W' (l ++ [p]) S' ∧ ∀ b, S' b → S b ∨ W.heap.size ≤ b

/-- a function that takes frames: `J` is what it has made of those ahead, in blocks of `S` -/
structure TakeOk (g : Nat) (lb : Array Value) (h : Head) (J : World → List Fr → (Nat → Prop) → Prop) : Prop where
  lt : ∀ w l S, J w l S → ∀ b, S b → b < w.heap.size
  grow : ∀ w w' l S, J w l S → w.grownBy w' none → J w' l S
  call : ∀ (W : World) (l : List Fr) (S D : Nat → Prop) (part : ByteArray) (chs : List (List Int)) (v : Value) (n total : Nat),
    J W l S → Views W D v chs → (∀ q, D q → ¬ S q ∧ q < W.heap.size) → chs.length = h.channels → (∀ j, j < h.channels → (chs.getD j []).length = n) → 1 ≤ n →
    (∀ j, j < h.channels → ((joined h.channels l).getD j []).length = total) → (joined h.channels l).length = h.channels → total + n ≤ 1200 → l.length ≤ 6000 → part.size ≤ 6000 →
    Calls Try.prog g (#[.string part, v] ++ lb) W (TakePost J W l S (part.data.toList, chs))

def EachPost (J : World → List Fr → (Nat → Prop) → Prop) (w : World) (S : Nat → Prop) (h : Head) (L : List UInt8) (res : Except Nat (List (List Int))) (e : Ending) (w' : World) : Prop :=
  ∃ l S', J w' l S' ∧ Kp w w' S ∧ (∀ b, S' b → S b ∨ w.heap.size ≤ b) ∧
    match res with
    | .error k => e = .returned (.tuple #[.int .i64 4, .int .i64 k])
    | .ok chs => joined h.channels l = chs ∧ (∃ ended, Fls h L l L.length ended) ∧ e = .returned (.tuple #[.int .i64 ((if (chs.headD []).length = h.total then 0 else 5 : Nat) : Int), .int .i64 0])

/-- what the loop over the frames knows -/
structure EaInv (J : World → List Fr → (Nat → Prop) → Prop) (w wr : World) (S0 : Nat → Prop) (h : Head) (d dk : ByteArray) (res : Except Nat (List (List Int))) (gk number total nb f : Nat) (ended : Bool) (l : List Fr) (S : Nat → Prop) : Prop where
  kp : Kp w wr S0
  inf : Box wr w.heap.size (headC h) 77
  j : J wr l S
  sub : ∀ b, S b → S0 b ∨ w.heap.size < b
  at_ : FInv h d res gk number total ended (joined h.channels l) f
  fls : Fls h d.data.toList l f ended
  num : l.length = number
  data : dk.data.toList = d.data.toList.drop f
  prod : number * h.block = nb
  stop : if ended then total < nb else total = nb
end Go.Proofs.Ytncmgnmcggkhnaa
