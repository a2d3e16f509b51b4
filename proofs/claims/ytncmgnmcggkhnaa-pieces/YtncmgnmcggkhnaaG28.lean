import Derived.Test.YtncmgnmcggkhnaaG27
import Derived.Test.YtncmgnmcggkhnaaG01
import Derived.Test.YtncmgnmcggkhnaaG20
import Derived.Deep.LoopGhost
import Derived.BigQuiet
namespace Go.Proofs.Ytncmgnmcggkhnaa
open Go.RowKit

/-- channels in memory, with samples to be written -/
def ChIn (w : World) (v : Value) (chs : List (List Int)) : Prop :=
  ∃ lg lcap, v = .slice (some ⟨lg, 0, none⟩) chs.length lcap ∧ lg < w.heap.size ∧ ∀ i, i < chs.length → ∃ b off cap, w.cell? ⟨lg, i, none⟩ = some (.slice (some ⟨b, off, none⟩) (chs.getD i []).length cap) ∧ SmpIn w b off cap (chs.getD i [])

theorem ChIn.kept {w w' : World} {v : Value} {chs : List (List Int)} (h : ChIn w v chs) (hg : w.grownBy w' none) : ChIn w' v chs := by
  obtain ⟨lg, lcap, hv, hlt, hc⟩ := h
  refine ⟨lg, lcap, hv, Nat.lt_of_lt_of_le hlt hg.size, fun i hi => ?_⟩
  obtain ⟨b, off, cap, h1, h2⟩ := hc i hi
  exact ⟨b, off, cap, hg.cell h1 (by simp), h2.kept hg⟩

theorem qapart (w : World) (n : Nat) (hn : n ≤ 2) :
    Calls Try.prog 74 #[.int .i64 n] w fun e w' => e = .returned (.int .i64 (modeOf n)) ∧ w' = w := by
  rcases (show n = 1 ∨ n ≠ 1 by omega) with rfl | hn1
  · go_enter Try.func74, Try.ntmps74
    go_wp2
    go_ret
    exact ⟨rfl, rfl⟩
  · have t : ((n : Int) == 1) = false := by simp; omega
    have hm : modeOf n = 1 := by unfold modeOf; rw [if_neg hn1]
    rw [hm]
    go_enter Try.func74, Try.ntmps74
    go_wp2
    go_ret
    exact ⟨rfl, rfl⟩

/-- a new writer has written: all else is as it was -/
theorem wrote_new {w w0 wr : World} {v' : Value} (hw0 : w.alloc (.cells #[.slice none 0 0, .int .i64 0] 125) = w0) (h : Wrote w0 wr w.heap.size (.slice none 0 0) v') : w.grownBy wr none := by
  have hg : w.grownBy w0 none := by rw [← hw0]; exact grown_alloc (grown_refl _ _) _
  have h1 : Kp w wr (fun b => b = w.heap.size ∨ (Value.slice none 0 0).ownBlock = some b) := (Kp.ofNone hg).trans h.kp (fun b hb => .inl hb)
  refine h1.grown (fun b hb => ?_)
  rcases hb with hb | hb
  · omega
  · cases hb

def FrWPost (w : World) (bytes : List UInt8) (e : Ending) (w' : World) : Prop := e = .returned (.string ⟨bytes.toArray⟩) ∧ w.grownBy w' none

theorem sub_len (wide : Nat) (hw : wide ≤ 16) (l : List Int) (hl : l.length ≤ 256) : (subBits wide (shortest wide l)).length ≤ 5000 := by
  have h := shortest_le wide l
  have h2 : l.length * wide ≤ 256 * 16 := Nat.mul_le_mul hl hw
  unfold subCost at h
  omega

theorem subs_len (wide : Nat) (hw : wide ≤ 16) : ∀ (chs : List (List Int)), (∀ c ∈ chs, c.length ≤ 256) → ((chs.map (shortest wide)).flatMap (subBits wide)).length ≤ chs.length * 5000
  | [], _ => by simp
  | c :: chs, h => by
    have ih := subs_len wide hw chs (fun d hd => h d (by simp [hd]))
    have h1 := sub_len wide hw c (h c (by simp))
    rw [List.map_cons, List.flatMap_cons, List.length_append, List.length_cons, Nat.succ_mul]
    omega

set_option maxHeartbeats 4000000 in
set_option maxRecDepth 20000 in
theorem qfrwrite (w : World) (v : Value) (chs : List (List Int)) (wide number : Nat) (hwd : wide ≤ 16) (hn : number < 256) (hc1 : 1 ≤ chs.length) (hc2 : chs.length ≤ 2) (h : ChIn w v chs) :
    Calls Try.prog 51 #[v, .int .i64 wide, .int .i64 number] w (FrWPost w (frameBytes (modeOf chs.length) number (chs.headD []).length wide (chs.map (shortest wide)))) := by
  have hch := h
  obtain ⟨lg, lcap, rfl, hlg, hcells⟩ := h
  obtain ⟨b0, off0, cap0, hc0, hs0⟩ := hcells 0 (by omega)
  obtain ⟨cnt, hcnt⟩ : ∃ cnt, (chs.getD 0 []).length = cnt := ⟨_, rfl⟩
  have hcb := hs0.len
  rw [hcnt] at hc0 hcb
  have hhd : (chs.headD []).length = cnt := by rw [headD_getD]; exact hcnt
  rw [hhd]
  obtain ⟨mode, hmode⟩ : ∃ mode, modeOf chs.length = mode := ⟨_, rfl⟩
  have hm1 : mode ≤ 1 := by rw [← hmode]; unfold modeOf; split <;> omega
  have HAP := fun w => qapart w chs.length hc2
  rw [hmode] at HAP ⊢
  obtain ⟨w0, hw0⟩ : ∃ w0, w.alloc (.cells #[.slice none 0 0, .int .i64 0] 125) = w0 := ⟨_, rfl⟩
  have hs0 : w0.heap.size = w.heap.size + 1 := by rw [← hw0]; simp
  have hW0 := WrS.start w
  rw [hw0] at hW0
  obtain ⟨gw, hgw⟩ : ∃ gw, w.heap.size = gw := ⟨_, rfl⟩
  have HNEW : Hid (∀ wr v', Wrote w0 wr gw (.slice none 0 0) v' → w.grownBy wr none) := fun wr v' h => by rw [← hgw] at h; exact wrote_new hw0 h
  rw [hgw] at hW0 hs0
  have HW0 : Hid (w.alloc (.cells #[.slice none 0 0, .int .i64 0] 125) = w0) := hw0
  have HGW : Hid (w.heap.size = gw) := hgw
  have HS0 : Hid (w0.heap.size = gw + 1) := hs0
  have hb0 : gw + 1 ≤ w0.heap.size := by omega
  have H1 : Calls _ _ #[_, .int .i64 16775280, .int .i64 24] _ _ := qwnum w0 gw (gw + 1) _ [] ((16775280 : Nat) : Int) 24 hW0 hb0 (by simp) (by omega) (by omega)
  clear hw0 hgw hs0 hhd hmode hcnt
  go_enter Try.func51, Try.ntmps51
  go_upto_region 2 with fail
  rw [HW0.out, HGW.out]
  clear HW0
  go_wp2_with fail
  refine H1.mono ?_
  rintro e w1 ⟨rfl, v1, hs1, hw1⟩
  have hb1 := Nat.le_trans hb0 hw1.kp.size
  have HA1 := HAP w1
  have H2 : Calls _ _ #[_, .int .i64 mode, .int .i64 4] _ _ := qwnum w1 gw (gw + 1) v1 _ (mode : Int) 4 hs1 hb1 (by simp [numBits_length]) (by omega) (by omega)
  clear HAP H1
  go_wp2_with (first
    | (go_at_call 74; refine HA1.mono ?_; rintro e w9 ⟨rfl, rfl⟩))
  refine H2.mono ?_
  rintro e w2 ⟨rfl, v2, hs2, hw2⟩
  have hb2 := Nat.le_trans hb1 hw2.kp.size
  have H3 : Calls _ _ #[_, .int .i64 0, .int .i64 4] _ _ := qwnum w2 gw (gw + 1) v2 _ ((0 : Nat) : Int) 4 hs2 hb2 (by simp [numBits_length]) (by omega) (by omega)
  clear HA1 H2
  go_wp2_with fail
  refine H3.mono ?_
  rintro e w3 ⟨rfl, v3, hs3, hw3⟩
  have hb3 := Nat.le_trans hb2 hw3.kp.size
  have H4 : Calls _ _ #[_, .int .i64 number, .int .i64 8] _ _ := qwnum w3 gw (gw + 1) v3 _ (number : Int) 8 hs3 hb3 (by simp [numBits_length]) (by omega) (by omega)
  clear H3
  go_wp2_with fail
  refine H4.mono ?_
  rintro e w4 ⟨rfl, v4, hs4, hw4⟩
  have hb4 := Nat.le_trans hb3 hw4.kp.size
  have hw04 := hw1.trans (hw2.trans (hw3.trans hw4))
  have hg4 := HNEW.out w4 v4 hw04
  have hcm : (cnt : Int) - 1 = ((cnt - 1 : Nat) : Int) := by omega
  have H5 : Calls _ _ #[_, .int .i64 ((cnt - 1 : Nat) : Int), .int .i64 16] _ _ := qwnum w4 gw (gw + 1) v4 _ ((cnt - 1 : Nat) : Int) 16 hs4 hb4 (by simp [numBits_length]) (by omega) (by omega)
  have k0 : w4.cell? ⟨lg, 0, none⟩ = some (.slice (some ⟨b0, off0, none⟩) cnt cap0) := hg4.cell hc0 (by simp)
  have hcl : (0 : Int) < (chs.length : Int) := by omega
  clear H4
  go_wp2_with fail
  refine H5.mono ?_
  rintro e w5 ⟨rfl, v5, hs5, hw5⟩
  have hb5 := Nat.le_trans hb4 hw5.kp.size
  have hw05 := hw04.trans hw5
  have hL5 : ((((([] : List Bool) ++ numBits ((16775280 : Nat) : Int) 24) ++ numBits (mode : Int) 4) ++ numBits ((0 : Nat) : Int) 4) ++ numBits (number : Int) 8) ++ numBits ((cnt - 1 : Nat) : Int) 16 = headBits mode number cnt := by
    unfold headBits
    simp [List.append_assoc]
  rw [hL5] at hs5
  have HST := qwstring w5 gw (gw + 1) v5 _ hs5 (by rw [headBits_length]; omega)
  have HC8 := crc8_any ⟨(pack (headBits mode number cnt)).toArray⟩ w5 (by show (pack (headBits mode number cnt)).toArray.size ≤ maxLen; rw [List.size_toArray, pack_length, headBits_length]; unfold maxLen; omega)
  obtain ⟨c8, hc8⟩ : ∃ c8, crc 8 7 (pack (headBits mode number cnt)) = c8 := ⟨_, rfl⟩
  have hc8l := crc_lt8 (pack (headBits mode number cnt))
  rw [hc8] at hc8l
  have HC8' : Calls Try.prog 12 #[.string ⟨(pack (headBits mode number cnt)).toArray⟩] w5 fun e w' => e = .returned (.int .i64 c8) ∧ w' = w5 := by
    refine HC8.mono ?_
    rintro e w' ⟨rfl, rfl⟩
    exact ⟨by rw [← hc8], rfl⟩
  have HC8E : Hid (crc 8 7 (pack (headBits mode number cnt)) = c8) := hc8
  have H6 : Calls _ _ #[_, .int .i64 c8, .int .i64 8] _ _ := qwnum w5 gw (gw + 1) v5 _ (c8 : Int) 8 hs5 hb5 (by rw [headBits_length]; omega) (by omega) (by omega)
  clear hs1 hs2 hs3 hs4 H5 hL5 hc8 HC8 hcm k0
  go_wp2_with (first
    | (go_at_call 73; refine HST.mono ?_; rintro e w9 ⟨rfl, rfl⟩)
    | (go_at_call 12; refine HC8'.mono ?_; rintro e w9 ⟨rfl, rfl⟩))
  refine H6.mono ?_
  rintro e w6 ⟨rfl, v6, hs6, hw6⟩
  have hb6 := Nat.le_trans hb5 hw6.kp.size
  have hw06 := hw05.trans hw6
  have HCH : Hid (ChIn w (.slice (some ⟨lg, 0, none⟩) chs.length lcap) chs) := hch
  have hl256 : ∀ c ∈ chs, c.length ≤ 256 := by
    intro c hc
    obtain ⟨i, hi, rfl⟩ := List.mem_iff_getElem.1 hc
    obtain ⟨_, _, _, _, hsm⟩ := hcells i hi
    have := hsm.len.2
    simpa [List.getD, hi] using this
  clear H6 HC8' HST hw1 hw2 hw3 hw4 hw5 hw6 hw04 hw05 hb1 hb2 hb3 hb4 hb5 hg4 hs5 hcells hch hc0 hs0
  go_wp2_with fail
  go_loopg [29] chs.length (fun gk t29 wr => ∃ (k : Nat) (v' : Value), gk + k = chs.length ∧ t29 = .int .i64 k ∧ WrS wr gw (gw + 1) v' ((headBits mode number cnt ++ numBits (c8 : Int) 8) ++ ((chs.take k).map (shortest wide)).flatMap (subBits wide)) ∧ Wrote w0 wr gw (.slice none 0 0) v')
  case atStart => exact ⟨0, v6, rfl, rfl, by simpa using hs6, hw06⟩
  case round =>
    clear hs6 hw06 hb6
    obtain ⟨k, v', hgk, rfl, hs, hwr⟩ := hrel
    have hgr := HNEW.out wr v' hwr
    have hbr := Nat.le_trans hb0 hwr.kp.size
    obtain ⟨L, hL⟩ : ∃ L, (headBits mode number cnt ++ numBits (c8 : Int) 8) ++ ((chs.take k).map (shortest wide)).flatMap (subBits wide) = L := ⟨_, rfl⟩
    have hLl : L.length ≤ 20064 := by
      rw [← hL, List.length_append, List.length_append, headBits_length, numBits_length]
      have h1 := subs_len wide hwd (chs.take k) (fun c hc => hl256 c (List.mem_of_mem_take hc))
      rw [List.length_take] at h1
      omega
    rw [hL] at hs
    have HL : Hid ((headBits mode number cnt ++ numBits (c8 : Int) 8) ++ ((chs.take k).map (shortest wide)).flatMap (subBits wide) = L) := hL
    by_cases hlt : k < chs.length
    · obtain ⟨lg', lcap', hv', _, hcl2⟩ := HCH.out
      have elg : lg = lg' := by injection hv' with e1; injection e1 with e1; injection e1 with e1
      subst elg
      obtain ⟨b, off, cap, hck, hsm⟩ := hcl2 k hlt
      have hckr : wr.cell? ⟨lg, k, none⟩ = some (.slice (some ⟨b, off, none⟩) (chs.getD k []).length cap) := hgr.cell hck (by simp)
      obtain ⟨c, hc⟩ : ∃ c, chs.getD k [] = c := ⟨_, rfl⟩
      have hnext : ((chs.take (k + 1)).map (shortest wide)).flatMap (subBits wide) = ((chs.take k).map (shortest wide)).flatMap (subBits wide) ++ subBits wide (shortest wide c) := by
        have e : chs.take (k + 1) = chs.take k ++ [c] := by rw [← hc, List.take_succ_eq_append_getElem hlt]; simp [List.getD, hlt]
        rw [e, List.map_append, List.flatMap_append]
        simp
      rw [hc] at hckr hsm
      have HSH := qshort wr b off cap c wide (by omega) (hsm.kept hgr)
      have hsmall := subs_small hsm
      have hmem : shortest wide c ∈ ESub.plain c :: others c := by
        rcases (pickBest_spec (subCost wide) (others c) (.plain c)).1 with e | e
        · unfold shortest; rw [e]; simp
        · exact List.mem_cons_of_mem _ e
      have hes := hsmall _ hmem
      have HNEXT : Hid _ := hnext
      have hkn : (k : Int) < (chs.length : Int) := by omega
      have hbgw : b < gw := by have := hsm.lt; have := HGW.out; omega
      have hgwr : gw < wr.heap.size := hs.box.lt
      have hvl : ∀ q, v'.ownBlock = some q → gw + 1 ≤ q ∧ q < wr.heap.size := fun q hq => World.ownsRow.lt hs.row q hq
      obtain ⟨sub, hsub⟩ : ∃ sub, shortest wide c = sub := ⟨_, rfl⟩
      rw [hsub] at HSH hes
      have HSUB : Hid (shortest wide c = sub) := hsub
      obtain ⟨ln, hln⟩ : ∃ ln, c.length = ln := ⟨_, rfl⟩
      rw [hln] at HSH hckr
      clear hc hck hcl2 hv' hnext hsmall hmem hsm hsub hln
      go_wp2_with (first
        | (go_at_call 76; refine HSH.mono ?_; rintro e w7 ⟨sv, rfl, hg7, hES⟩))
      have hs7 := hs.grown hg7
      have hES7 := hES.mono (D' := fun q => (q = b ∨ wr.heap.size ≤ q) ∧ q < w7.heap.size) (fun q hq hl => ⟨hq, hl⟩)
      have HWS := qwsub w7 gw (gw + 1) v' sv L _ sub wide hs7 (Nat.le_trans hbr hg7.size) (by omega) (by omega) hes hES7 (fun q hq => ⟨hq.2, by omega, fun e => by have := hvl q e; omega⟩)
      refine HWS.mono ?_
      rintro e w8 ⟨rfl, v8, hs8, hw8⟩
      have hwr8 := hwr.trans ((Wrote.grown wr w7 gw v' hg7).trans hw8)
      clear HWS HSH hES hES7 hs7 hs hL hLl hg7 hw8 hwr hgr
      go_wp2
      go_roundg (gk - 1)
      case measure => omega
      case rel => exact ⟨k + 1, v8, by omega, by go_num, by rw [HNEXT.out, HSUB.out, ← List.append_assoc, HL.out]; exact hs8, hwr8⟩
    · have hkn : k = chs.length := by omega
      subst hkn
      have hLe : L = preBits mode number cnt wide (chs.map (shortest wide)) := by
        rw [← hL, List.take_length]
        unfold preBits
        rw [HC8E.out, List.append_assoc]
      have HAL := qwalign wr gw (gw + 1) v' L hs (by omega)
      have hLpos : 64 ≤ L.length := by rw [← hL, List.length_append, List.length_append, headBits_length, numBits_length]; omega
      have HLE : Hid (L = preBits mode number cnt wide (chs.map (shortest wide))) := hLe
      clear hLe hL HL hgk
      go_wp2_with fail
      refine HAL.mono ?_
      rintro e w7 ⟨rfl, v7, hs7, hw7⟩
      have hL7 : (L ++ List.replicate (padLen L.length) false).length ≤ 20080 := by rw [List.length_append, List.length_replicate]; unfold padLen; omega
      have HST := qwstring w7 gw (gw + 1) v7 _ hs7 (by rw [List.length_append]; omega)
      rw [pack_pad] at HST
      have HC16 := crc16_any ⟨(pack L).toArray⟩ w7 (by show (pack L).toArray.size ≤ maxLen; rw [List.size_toArray, pack_length]; unfold maxLen; omega)
      obtain ⟨c16, hc16⟩ : ∃ c16, crc 16 32773 (pack L) = c16 := ⟨_, rfl⟩
      have hc16l := crc_lt16 (pack L)
      rw [hc16] at hc16l
      have HC16' : Calls Try.prog 13 #[.string ⟨(pack L).toArray⟩] w7 fun e w' => e = .returned (.int .i64 c16) ∧ w' = w7 := by
        refine HC16.mono ?_
        rintro e w' ⟨rfl, rfl⟩
        exact ⟨by rw [← hc16], rfl⟩
      have HC16E : Hid (crc 16 32773 (pack L) = c16) := hc16
      have H8 : Calls _ _ #[_, .int .i64 c16, .int .i64 16] _ _ := qwnum w7 gw (gw + 1) v7 _ (c16 : Int) 16 hs7 (Nat.le_trans hbr hw7.kp.size) (by omega) (by omega) (by omega)
      clear HC16 hc16 HAL
      go_wp2_with (first
        | (go_at_call 73; refine HST.mono ?_; rintro e w9 ⟨rfl, rfl⟩)
        | (go_at_call 13; refine HC16'.mono ?_; rintro e w9 ⟨rfl, rfl⟩))
      refine H8.mono ?_
      rintro e w10 ⟨rfl, v10, hs10, hw10⟩
      have HST2 := qwstring w10 gw (gw + 1) v10 _ hs10 (by rw [List.length_append, List.length_append]; omega)
      have hbytes : pack ((L ++ List.replicate (padLen L.length) false) ++ numBits (c16 : Int) 16) = frameBytes mode number cnt wide (chs.map (shortest wide)) := by
        unfold frameBytes
        rw [← HLE.out, HC16E.out, pack_append _ _ (by rw [List.length_append, List.length_replicate]; unfold padLen; omega), pack_pad]
      rw [hbytes] at HST2
      have hgf := HNEW.out w10 v10 (hwr.trans (hw7.trans hw10))
      have hpost : FrWPost w (frameBytes mode number cnt wide (chs.map (shortest wide))) (.returned (.string ⟨(frameBytes mode number cnt wide (chs.map (shortest wide))).toArray⟩)) w10 := ⟨rfl, hgf⟩
      clear H8 HC16' HST hbytes hs10 hs7 hs hgf hL7 hLl
      go_wp2_with (go_at_call 73; refine HST2.mono ?_; rintro e w11 ⟨rfl, rfl⟩)
      exact bodyPost_ret (v := .string ⟨(frameBytes mode number cnt wide (chs.map (shortest wide))).toArray⟩) (by simp [results, Try.results51, go_sem]) rfl hpost
end Go.Proofs.Ytncmgnmcggkhnaa

namespace Go.Proofs.Ytncmgnmcggkhnaa
open Go.RowKit

/-- a list of ints that is handed in, with its room; in a block of `D` -/
def LoC (w : World) (D : Nat → Prop) (v : Value) (xs : List Int) : Prop :=
  (v = .slice none 0 0 ∧ xs = []) ∨ ∃ b off cap, v = .slice (some ⟨b, off, none⟩) xs.length cap ∧ xs.length ≤ cap ∧ D b ∧ b < w.heap.size ∧ ∀ i, i < xs.length → w.cell? ⟨b, off + i, none⟩ = some (.int .i64 (xs.getD i 0))

theorem LoC.lo {w : World} {D : Nat → Prop} {v : Value} {xs : List Int} (h : LoC w D v xs) : Lo w v xs := by
  rcases h with h | ⟨b, off, cap, hv, _, _, _, hc⟩
  · exact .inl h
  · exact .inr ⟨b, off, cap, hv, hc⟩

theorem LoC.kp {w w' : World} {D S : Nat → Prop} {v : Value} {xs : List Int} (h : LoC w D v xs) (hk : Kp w w' S) (hn : ∀ b, D b → ¬ S b) : LoC w' D v xs := by
  rcases h with h | ⟨b, off, cap, hv, hcap, hD, hlt, hc⟩
  · exact .inl h
  · exact .inr ⟨b, off, cap, hv, hcap, hD, Nat.lt_of_lt_of_le hlt hk.size, fun i hi => cell_kp (hc i hi) hk hlt (hn b hD)⟩

/-- a list of lists that is handed in -/
def Ins (w : World) (D : Nat → Prop) (v : Value) (chs : List (List Int)) : Prop :=
  (v = .slice none 0 0 ∧ chs = []) ∨ ∃ lg lcap, v = .slice (some ⟨lg, 0, none⟩) chs.length lcap ∧ D lg ∧ lg < w.heap.size ∧ ∀ i, i < chs.length → ∃ vi, w.cell? ⟨lg, i, none⟩ = some vi ∧ LoC w D vi (chs.getD i [])

theorem Ins.kp {w w' : World} {D S : Nat → Prop} {v : Value} {chs : List (List Int)} (h : Ins w D v chs) (hk : Kp w w' S) (hn : ∀ b, D b → ¬ S b) : Ins w' D v chs := by
  rcases h with h | ⟨lg, lcap, hv, hD, hlt, hc⟩
  · exact .inl h
  · refine .inr ⟨lg, lcap, hv, hD, Nat.lt_of_lt_of_le hlt hk.size, fun i hi => ?_⟩
    obtain ⟨vi, h1, h2⟩ := hc i hi
    exact ⟨vi, cell_kp h1 hk hlt (hn lg hD), h2.kp hk hn⟩

theorem Ins.kept {w w' : World} {D : Nat → Prop} {v : Value} {chs : List (List Int)} (h : Ins w D v chs) (hg : w.grownBy w' none) : Ins w' D v chs := h.kp (Kp.ofNone (S := fun _ => False) hg) (fun _ _ e => e)

theorem Ins.slice {w : World} {D : Nat → Prop} {v : Value} {chs : List (List Int)} (h : Ins w D v chs) : ∃ a c, v = .slice a chs.length c := by
  rcases h with ⟨rfl, rfl⟩ | ⟨lg, lcap, rfl, _⟩
  · exact ⟨none, 0, rfl⟩
  · exact ⟨_, lcap, rfl⟩

theorem Ins.at {w : World} {D : Nat → Prop} {a : Option Addr} {n c : Nat} {chs : List (List Int)} (h : Ins w D (.slice a n c) chs) (k : Nat) (hk : k < chs.length) : ∃ lg vi, a = some ⟨lg, 0, none⟩ ∧ w.cell? ⟨lg, k, none⟩ = some vi ∧ LoC w D vi (chs.getD k []) := by
  rcases h with ⟨_, e⟩ | ⟨lg, lcap, e, _, _, hc⟩
  · rw [e] at hk; simp at hk
  · injection e with e1 _ _
    obtain ⟨vi, h1, h2⟩ := hc k hk
    exact ⟨lg, vi, e1, h1, h2⟩

/-- a part of each list -/
def cutAll (f t : Nat) (chs : List (List Int)) : List (List Int) := chs.map (fun c => (c.drop f).take (t - f))

theorem cutAll_get (f t : Nat) (chs : List (List Int)) (i : Nat) (h : i < chs.length) : (cutAll f t chs).getD i [] = ((chs.getD i []).drop f).take (t - f) := by
  unfold cutAll
  simp [List.getD, h]

theorem map_get_int (xs : List Int) (j : Nat) (hj : j < xs.length) : (xs.map (Value.int .i64))[j]? = some (.int .i64 (xs.getD j 0)) := by
  rw [List.getElem?_map, List.getElem?_eq_getElem hj]
  simp [List.getD, hj]

/-- such lists can be written as a frame -/
theorem Views.chIn {w : World} {D : Nat → Prop} {v : Value} {ls : List (List Int)} (h : Views w D v ls) (hl : ∀ i, i < ls.length → 1 ≤ (ls.getD i []).length ∧ (ls.getD i []).length ≤ 256 ∧ Abs 32768 (ls.getD i [])) : ChIn w v ls := by
  obtain ⟨lg, lcap, hv, _, _, hlt, hc⟩ := h
  refine ⟨lg, lcap, hv, hlt, fun i hi => ?_⟩
  obtain ⟨g, off, cap, _, hgl, h1, hcap, h2⟩ := hc i hi
  obtain ⟨l1, l2, l3⟩ := hl i hi
  refine ⟨g, off, cap, h1, ⟨⟨l1, l2⟩, hcap, hgl, fun j hj => ?_, l3⟩⟩
  have h3 := h2 j (.int .i64 ((ls.getD i []).getD j 0)) (map_get_int _ j hj)
  have e : (⟨g, off, none⟩ : Addr).add j = ⟨g, off + j, none⟩ := by
    unfold Addr.add
    split
    · rename_i e; rw [e, Nat.add_zero]
    · rfl
  rw [e] at h3
  exact h3
end Go.Proofs.Ytncmgnmcggkhnaa

namespace Go.Proofs.Ytncmgnmcggkhnaa
open Go.RowKit

theorem Lo.drewN {w : World} {v : Value} {xs : List Int} (h : Lo w v xs) (d : Nat) : Lo (w.drewN d) v xs := by
  rcases h with h | ⟨b, off, cap, hv, hc⟩
  · exact .inl h
  · exact .inr ⟨b, off, cap, hv, fun i hi => by rw [World.cell?_drewN]; exact hc i hi⟩

set_option maxHeartbeats 1000000 in
set_option maxRecDepth 20000 in
/-- two lists that are the same -/
theorem ksame_ints (w : World) (v1 v2 : Value) (xs : List Int) (h1 : Lo w v1 xs) (h2 : Lo w v2 xs) (hx : xs.length ≤ 1099511627776) :
    Calls Try.prog 37 #[v1, v2] w fun e w' => e = .returned (.bool true) ∧ ∃ d, w' = w.drewN d := by
  obtain ⟨a1, c1, rfl⟩ := h1.slice
  obtain ⟨a2, c2, rfl⟩ := h2.slice
  obtain ⟨n, hn⟩ : ∃ n, xs.length = n := ⟨_, rfl⟩
  rw [hn] at h1 h2 hx ⊢
  have HN : Hid (xs.length = n) := hn
  clear hn
  go_enter Try.func37, Try.ntmps37
  go_wp2_with fail
  go_loopg [5] n (fun gk t5 wr => ∃ k : Nat, gk + k = n ∧ t5 = .int .i64 k ∧ ∃ d, wr = w.drewN d)
  case atStart => exact ⟨0, rfl, rfl, 0, rfl⟩
  case round =>
    obtain ⟨k, hgk, rfl, d, rfl⟩ := hrel
    by_cases hlt : k < n
    · obtain ⟨b1, o1, rfl, hc1⟩ := h1.at k (by rw [HN.out]; exact hlt)
      obtain ⟨b2, o2, rfl, hc2⟩ := h2.at k (by rw [HN.out]; exact hlt)
      obtain ⟨x, hx'⟩ : ∃ x, xs.getD k 0 = x := ⟨_, rfl⟩
      rw [hx'] at hc1 hc2
      have hkn : (k : Int) < (n : Int) := by omega
      have txx : (x != x) = false := by simp
      clear hx' h1 h2
      go_upto_region 6 with fail
      go_quiet (fail)
      go_wp2
      go_roundg (gk - 1)
      case measure => omega
      case rel => exact ⟨k + 1, by omega, by go_num, _, rfl⟩
    · have hkn : k = n := by omega
      subst hkn
      clear hgk
      go_wp2
      go_ret
      exact ⟨rfl, d, rfl⟩

/-- a sound that is read -/
def SndIn (w : World) (v : Value) (chs : List (List Int)) : Prop :=
  (v = .slice none 0 0 ∧ chs = []) ∨ ∃ lg lcap, v = .slice (some ⟨lg, 0, none⟩) chs.length lcap ∧ ∀ i, i < chs.length → ∃ vi, w.cell? ⟨lg, i, none⟩ = some vi ∧ Lo w vi (chs.getD i [])

theorem Ins.snd {w : World} {D : Nat → Prop} {v : Value} {chs : List (List Int)} (h : Ins w D v chs) : SndIn w v chs := by
  rcases h with h | ⟨lg, lcap, hv, _, _, hc⟩
  · exact .inl h
  · exact .inr ⟨lg, lcap, hv, fun i hi => by obtain ⟨vi, h1, h2⟩ := hc i hi; exact ⟨vi, h1, h2.lo⟩⟩

theorem SndIn.kept {w w' : World} {v : Value} {chs : List (List Int)} (h : SndIn w v chs) (hg : w.grownBy w' none) : SndIn w' v chs := by
  rcases h with h | ⟨lg, lcap, hv, hc⟩
  · exact .inl h
  · exact .inr ⟨lg, lcap, hv, fun i hi => by obtain ⟨vi, h1, h2⟩ := hc i hi; exact ⟨vi, hg.cell h1 (by simp), h2.kept hg⟩⟩

theorem SndIn.slice {w : World} {v : Value} {chs : List (List Int)} (h : SndIn w v chs) : ∃ a c, v = .slice a chs.length c := by
  rcases h with ⟨rfl, rfl⟩ | ⟨lg, lcap, rfl, _⟩
  · exact ⟨none, 0, rfl⟩
  · exact ⟨_, lcap, rfl⟩

theorem SndIn.at {w : World} {a : Option Addr} {n c : Nat} {chs : List (List Int)} (h : SndIn w (.slice a n c) chs) (k : Nat) (hk : k < chs.length) : ∃ lg vi, a = some ⟨lg, 0, none⟩ ∧ w.cell? ⟨lg, k, none⟩ = some vi ∧ Lo w vi (chs.getD k []) := by
  rcases h with ⟨_, e⟩ | ⟨lg, lcap, e, hc⟩
  · rw [e] at hk; simp at hk
  · injection e with e1 _ _
    obtain ⟨vi, h1, h2⟩ := hc k hk
    exact ⟨lg, vi, e1, h1, h2⟩

set_option maxHeartbeats 2000000 in
set_option maxRecDepth 20000 in
theorem ksame (w : World) (v1 v2 : Value) (rate bits : Int) (chs : List (List Int)) (h1 : SndIn w v1 chs) (h2 : SndIn w v2 chs) (hcl : chs.length ≤ 1099511627776) (hlen : ∀ c ∈ chs, c.length ≤ 1099511627776) :
    Calls Try.prog 58 #[.agg #[.int .i64 rate, .int .i64 bits, v1], .agg #[.int .i64 rate, .int .i64 bits, v2]] w fun e w' => e = .returned (.bool true) ∧ w.grownBy w' none := by
  obtain ⟨a1, c1, rfl⟩ := h1.slice
  obtain ⟨a2, c2, rfl⟩ := h2.slice
  obtain ⟨n, hn⟩ : ∃ n, chs.length = n := ⟨_, rfl⟩
  rw [hn] at h1 h2 hcl ⊢
  have HN : Hid (chs.length = n) := hn
  obtain ⟨w0, hw0⟩ : ∃ w0, (w.alloc (.cells #[.int .i64 rate, .int .i64 bits, .slice a1 n c1] 26)).alloc (.cells #[.int .i64 rate, .int .i64 bits, .slice a2 n c2] 26) = w0 := ⟨_, rfl⟩
  have hg0 : w.grownBy w0 none := by rw [← hw0]; exact grown_alloc (grown_alloc (grown_refl _ _) _) _
  obtain ⟨gA, hgA⟩ : ∃ gA, w.heap.size = gA := ⟨_, rfl⟩
  have hbA : Box w0 gA #[.int .i64 rate, .int .i64 bits, .slice a1 n c1] 26 := by rw [← hgA, ← hw0]; exact (Box.new w _ _).kept (grown_alloc (grown_refl _ none) _) (by simp)
  have hbB : Box w0 (gA + 1) #[.int .i64 rate, .int .i64 bits, .slice a2 n c2] 26 := by
    have := Box.new (w.alloc (.cells #[.int .i64 rate, .int .i64 bits, .slice a1 n c1] 26)) #[.int .i64 rate, .int .i64 bits, .slice a2 n c2] 26
    rw [hw0, show (w.alloc (.cells #[.int .i64 rate, .int .i64 bits, .slice a1 n c1] 26)).heap.size = gA + 1 by rw [← hgA]; simp] at this
    exact this
  have h1' := h1.kept hg0
  have h2' := h2.kept hg0
  have HW0 : Hid ((w.alloc (.cells #[.int .i64 rate, .int .i64 bits, .slice a1 n c1] 26)).alloc (.cells #[.int .i64 rate, .int .i64 bits, .slice a2 n c2] 26) = w0) := hw0
  have HGA : Hid (w.heap.size = gA) := hgA
  have z0 : w0.cell? ⟨gA, 0, none⟩ = some (.int .i64 rate) := hbA.cell 0
  have z1 : w0.cell? ⟨gA, 1, none⟩ = some (.int .i64 bits) := hbA.cell 1
  have z2 : w0.cell? ⟨gA, 2, none⟩ = some (.slice a1 n c1) := hbA.cell 2
  have y0 : w0.cell? ⟨gA + 1, 0, none⟩ = some (.int .i64 rate) := hbB.cell 0
  have y1 : w0.cell? ⟨gA + 1, 1, none⟩ = some (.int .i64 bits) := hbB.cell 1
  have y2 : w0.cell? ⟨gA + 1, 2, none⟩ = some (.slice a2 n c2) := hbB.cell 2
  have t1 : (rate != rate) = false := by simp
  have t2 : (bits != bits) = false := by simp
  have HLEN : Hid (∀ c ∈ chs, c.length ≤ 1099511627776) := hlen
  have HG0 : Hid (w.grownBy w0 none) := hg0
  clear hw0 hgA hn h1 h2 hbA hbB hg0 hlen
  go_enter Try.func58, Try.ntmps58
  go_upto_region 1 with fail
  rw [HW0.out, HGA.out]
  go_wp2_with fail
  go_loopg [5] n (fun gk t5 wr => ∃ k : Nat, gk + k = n ∧ t5 = .int .i64 k ∧ ∃ d, wr = w0.drewN d)
  case atStart => exact ⟨0, rfl, rfl, 0, rfl⟩
  case round =>
    obtain ⟨k, hgk, rfl, d, hwr⟩ := hrel
    by_cases hlt : k < n
    · obtain ⟨lg1, u1, rfl, hc1, hl1⟩ := h1'.at k (by rw [HN.out]; exact hlt)
      obtain ⟨lg2, u2, rfl, hc2, hl2⟩ := h2'.at k (by rw [HN.out]; exact hlt)
      obtain ⟨b1, p1, rfl⟩ := hl1.slice
      obtain ⟨b2, p2, rfl⟩ := hl2.slice
      have hkl : (chs.getD k []).length ≤ 1099511627776 := HLEN.out _ (by have := HN.out; simp [List.getD, show k < chs.length by omega])
      have HS := fun d => ksame_ints (w0.drewN d) _ _ _ (hl1.drewN d) (hl2.drewN d) hkl
      obtain ⟨m, hm⟩ : ∃ m, (chs.getD k []).length = m := ⟨_, rfl⟩
      rw [hm] at hc1 hc2 HS
      have hkn : (k : Int) < (n : Int) := by omega
      have Z2 : wr.cell? ⟨gA, 2, none⟩ = some (.slice (some ⟨lg1, 0, none⟩) n c1) := by rw [hwr, World.cell?_drewN]; exact z2
      have Y2 : wr.cell? ⟨gA + 1, 2, none⟩ = some (.slice (some ⟨lg2, 0, none⟩) n c2) := by rw [hwr, World.cell?_drewN]; exact y2
      have C1 : wr.cell? ⟨lg1, k, none⟩ = some (.slice b1 m p1) := by rw [hwr, World.cell?_drewN]; exact hc1
      have C2 : wr.cell? ⟨lg2, k, none⟩ = some (.slice b2 m p2) := by rw [hwr, World.cell?_drewN]; exact hc2
      have HSr : ∀ d', Calls Try.prog 37 #[.slice b1 m p1, .slice b2 m p2] (wr.drewN d') fun e w' => e = .returned (.bool true) ∧ ∃ d'', w' = (wr.drewN d').drewN d'' := by
        intro d'
        have := HS (d + d')
        rw [hwr, World.drewN_drewN]
        exact this
      have HWR : Hid (wr = w0.drewN d) := hwr
      clear hc1 hc2 hm hkl HS hl1 hl2 h1' h2' z0 z1 z2 y0 y1 y2 hwr
      go_upto_region 6 with fail
      go_quiet ((go_at_call 37; exact Calls.quiet_of (HSr _)))
      go_wp2
      go_roundg (gk - 1)
      case measure => omega
      case rel => exact ⟨k + 1, by omega, by go_num, _, by rw [HWR.out, World.drewN_drewN]⟩
    · have hkn : k = n := by omega
      subst hkn
      have Z2 : wr.cell? ⟨gA, 2, none⟩ = some (.slice a1 k c1) := by rw [hwr, World.cell?_drewN]; exact z2
      have hgf : w.grownBy wr none := by rw [hwr]; exact grown_drewN HG0.out d
      clear hgk hwr z0 z1 z2 y0 y1 y2 h1' h2'
      go_wp2
      go_ret
      exact ⟨rfl, hgf⟩
end Go.Proofs.Ytncmgnmcggkhnaa
