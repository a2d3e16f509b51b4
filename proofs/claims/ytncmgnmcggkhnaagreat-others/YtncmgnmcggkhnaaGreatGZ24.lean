import Derived.Test.YtncmgnmcggkhnaaGreatGZ22
import Derived.Test.YtncmgnmcggkhnaaGreatGZ23
import Derived.Test.YtncmgnmcggkhnaaGreatGZ15
import Derived.Deep.DeepCutAuto
import Derived.Deep.CutBlock
import Derived.Deep.LoopGhost
import Derived.Shelf.Abstract
namespace Go.Proofs.YtncmgnmcggkhnaaGreat
open Go.RowKit

def EncPost (w : World) (rate bits block : Int) (chs : List (List Int)) (e : Ending) (w' : World) : Prop :=
  w.grownBy w' none ∧ ((∃ h, RightIn rate bits block chs h ∧ e = .returned (.tuple #[.string ⟨(encode h chs).toArray⟩, .int .i64 0])) ∨ ((∀ h, ¬ RightIn rate bits block chs h) ∧ e = .returned (.tuple #[.string ⟨#[]⟩, .int .i64 1])))

theorem cut_chunk (b k total : Nat) (chs : List (List Int)) (h : ∀ c ∈ chs, c.length = total) : cutAll (k * b) (min (k * b + b) total) chs = chunk b k chs := by
  unfold cutAll chunk
  refine List.map_congr_left (fun c hc => ?_)
  have hl := h c hc
  rcases Nat.le_total (k * b + b) total with h1 | h1
  · rw [Nat.min_eq_left h1, Nat.add_sub_cancel_left]
  · rw [Nat.min_eq_right h1, List.take_of_length_le (by rw [List.length_drop, hl]; exact Nat.le_refl _), List.take_of_length_le (by rw [List.length_drop, hl]; omega)]

theorem BldS.kp {w w' : World} {gb base : Nat} {p v : Value} {bs : List UInt8} (h : BldS w gb base p v bs) (hg : w.grownBy w' none) : BldS w' gb base p v bs :=
  ⟨h.box.kept hg (by simp), ownsRow_kp h.row (Kp.ofNone (S := fun _ => False) hg) (fun _ _ e => e), h.lt, h.ptr⟩

theorem flat_succ (h : Head) (chs : List (List Int)) (k : Nat) : (List.range (k + 1)).flatMap (encFr h chs) = (List.range k).flatMap (encFr h chs) ++ encFr h chs k := by
  rw [List.range_succ, List.flatMap_append]
  simp

set_option maxHeartbeats 4000000 in
set_option maxRecDepth 20000 in
theorem qencode (w : World) (v : Value) (rate bits block : Int) (chs : List (List Int)) (h : Ins w (fun q => q < w.heap.size) v chs) (hcl : chs.length ≤ 17592186044416) (hlen : ∀ c ∈ chs, c.length ≤ 17592186044416) :
    Calls Tryz.prog 13 #[.agg #[.int .i64 rate, .int .i64 bits, v], .int .i64 block] w (EncPost w rate bits block chs) := by
  obtain ⟨a, c, rfl⟩ := h.slice
  obtain ⟨n, hn⟩ : ∃ n, chs.length = n := ⟨_, rfl⟩
  rw [hn] at h ⊢
  have HN : Hid (chs.length = n) := hn
  obtain ⟨w0, hw0⟩ : ∃ w0, w.alloc (.cells #[.int .i64 rate, .int .i64 bits, .slice a n c] 25) = w0 := ⟨_, rfl⟩
  have hg0 : w.grownBy w0 none := by rw [← hw0]; exact grown_alloc (grown_refl _ _) _
  obtain ⟨gS, hgS⟩ : ∃ gS, w.heap.size = gS := ⟨_, rfl⟩
  have hbS0 : Box w0 gS #[.int .i64 rate, .int .i64 bits, .slice a n c] 25 := by rw [← hgS, ← hw0]; exact Box.new _ _ _
  have hins0 := h.kept hg0
  have HIO := qinfoof w0 _ _ rate bits block chs hins0 hcl hlen
  have HW0 : Hid (w.alloc (.cells #[.int .i64 rate, .int .i64 bits, .slice a n c] 25) = w0) := hw0
  have HGS : Hid (w.heap.size = gS) := hgS
  have z0 : w0.cell? ⟨gS, 0, none⟩ = some (.int .i64 rate) := hbS0.cell 0
  have z1 : w0.cell? ⟨gS, 1, none⟩ = some (.int .i64 bits) := hbS0.cell 1
  have z2 : w0.cell? ⟨gS, 2, none⟩ = some (.slice a n c) := hbS0.cell 2
  clear hw0 hgS hn
  go_enter Tryz.func13, Tryz.ntmps13
  go_upto_region 1 with fail
  rw [HW0.out, HGS.out]
  clear HW0
  go_wp2_with fail
  refine HIO.mono ?_
  rintro e w1 ⟨hg1, b1, b2, b3, b4, b5, ok, rfl, hcase⟩
  have hgg1 := grown_trans hg0 hg1
  have hbS1 := hbS0.kept hg1 (by simp)
  obtain ⟨w2, hw2⟩ : ∃ w2, w1.alloc (.cells #[Value.int .i64 b1, .int .i64 b2, .int .i64 b3, .int .i64 b4, .int .i64 b5] 46) = w2 := ⟨_, rfl⟩
  have hg2 : w1.grownBy w2 none := by rw [← hw2]; exact grown_alloc (grown_refl _ _) _
  obtain ⟨gI, hgI⟩ : ∃ gI, w1.heap.size = gI := ⟨_, rfl⟩
  have hbI2 : Box w2 gI #[Value.int .i64 b1, .int .i64 b2, .int .i64 b3, .int .i64 b4, .int .i64 b5] 46 := by rw [← hgI, ← hw2]; exact Box.new _ _ _
  have hs2 : w2.heap.size = gI + 1 := by rw [← hw2, ← hgI]; simp
  have hgg2 := grown_trans hgg1 hg2
  have hbS2 := hbS1.kept hg2 (by simp)
  have hins2 := h.kept hgg2
  have HW2 : Hid (w1.alloc (.cells #[Value.int .i64 b1, .int .i64 b2, .int .i64 b3, .int .i64 b4, .int .i64 b5] 46) = w2) := hw2
  have HGI : Hid (w1.heap.size = gI) := hgI
  have HS2 : Hid (w2.heap.size = gI + 1) := hs2
  have hSI : gS < gI := by have := hbS1.lt; omega
  clear HIO z0 z1 z2 hg0 hg1 hg2 hw2 hgI hs2 hgg1 hbS0 hbS1 hins0 h
  go_upto_region 2 with fail
  rw [HW2.out, HGI.out]
  clear HW2 HGI
  rcases hcase with ⟨rfl, hno⟩ | ⟨rfl, hh, hR, rfl, rfl, rfl, rfl, rfl⟩
  · have hpost : EncPost w rate bits block chs (.returned (.tuple #[.string ⟨#[]⟩, .int .i64 1])) w2 := ⟨hgg2, .inr ⟨hno, rfl⟩⟩
    clear hno hins2
    go_wp2
    exact bodyPost_ret (v := .tuple #[.string ⟨#[]⟩, .int .i64 1]) (by simp [results, Tryz.results13, go_sem]) rfl hpost
  have hRS := hR.2.2.2
  obtain ⟨p1, p2, p3, p4, p5, p6, p7, p8⟩ := headOk_parts hRS.ok
  have hblk : block = (hh.block : Int) := hR.2.2.1.symm
  subst hblk
  obtain ⟨w3, hw3⟩ : ∃ w3, w2.alloc (.cells #[.pointer none, .slice none 0 0] 67) = w3 := ⟨_, rfl⟩
  have hg3 : w2.grownBy w3 none := by rw [← hw3]; exact grown_alloc (grown_refl _ _) _
  have hs3 : w3.heap.size = gI + 2 := by rw [← hw3]; simp; have := HS2.out; omega
  have hbld3 : BldS w3 (gI + 1) (gI + 2) (.pointer none) (.slice none 0 0) [] := ⟨by rw [← HS2.out, ← hw3]; exact Box.new _ _ _, World.ownsRow_nil _ _ _ _, by omega, .inl rfl⟩
  have hbS3 := hbS2.kept hg3 (by simp)
  have hbI3 := hbI2.kept hg3 (by simp)
  have hins3 := hins2.kept hg3
  have hgg3 := grown_trans hgg2 hg3
  have HW3 : Hid (w2.alloc (.cells #[.pointer none, .slice none 0 0] 67) = w3) := hw3
  have HBW := qblwrite w3 hh hRS.ok hRS.ch1
  have HRS : Hid (RightS hh chs) := hRS
  have HR : Hid (RightIn rate bits hh.block chs hh) := hR
  have e0 : w3.cell? ⟨gI, 0, none⟩ = some (.int .i64 hh.block) := hbI3.cell 0
  have e1 : w3.cell? ⟨gI, 1, none⟩ = some (.int .i64 hh.rate) := hbI3.cell 1
  have e2 : w3.cell? ⟨gI, 2, none⟩ = some (.int .i64 hh.channels) := hbI3.cell 2
  have e3 : w3.cell? ⟨gI, 3, none⟩ = some (.int .i64 hh.bits) := hbI3.cell 3
  have e4 : w3.cell? ⟨gI, 4, none⟩ = some (.int .i64 hh.total) := hbI3.cell 4
  unfold headC at HBW
  clear hw3 hR hg3 hgg2 hbS2 hbI2 hins2
  go_upto_region 5 with fail
  rw [HW3.out, HS2.out]
  clear HW3
  go_wp2_with (first
    | (go_at_call 25; refine HBW.mono ?_; rintro e w4 ⟨rfl, hg4⟩))
  have hbld4 := hbld3.kp hg4
  have hsz42 : (⟨(headBytes hh).toArray⟩ : ByteArray).size = 42 := by show (headBytes hh).toArray.size = 42; rw [List.size_toArray, headBytes_length]
  have HWS := qbwrite w4 (gI + 1) (gI + 2) _ _ [] ⟨(headBytes hh).toArray⟩ hbld4 (by have := hg4.size; omega) (by simp) (by omega)
  rw [List.nil_append] at HWS
  refine HWS.mono ?_
  rintro e w5 ⟨rfl, v5, hbld5, hk5⟩
  have hk35 : Kp w3 w5 (fun b => b = gI + 1 ∨ gI + 2 ≤ b) := (Kp.ofNone hg4).trans hk5 (fun b hb => .inl hb)
  clear HBW HWS hbld4 hbld3 hg4 hk5 e0 e1 e2 e3 e4
  have hnf := hRS.nframes_le
  have HKB : Hid (∀ k, k ≤ 75 → k * hh.block ≤ 19200) := fun k hk => Nat.le_trans (Nat.mul_le_mul hk p2) (by omega)
  have HGG3 : Hid (w.grownBy w3 none) := hgg3
  have HS3 : Hid (w3.heap.size = gI + 2) := hs3
  have HCD : Hid (∀ b, b < w.heap.size → ¬ (b = gI + 1 ∨ gI + 2 ≤ b)) := fun b hb e => by have := HGS.out; omega
  have HLENN : Hid (∀ i, i < chs.length → (chs.getD i []).length = hh.total) := fun i hi => hRS.len _ (by simp [List.getD, hi])
  clear hs3 hgg3 hlen hcl hsz42
  go_wp2_with fail
  go_loopg [9] (nFrames hh) (fun gk t9 wr => ∃ (k : Nat) (v' : Value), gk + k = nFrames hh ∧ t9 = .int .i64 ((k * hh.block : Nat) : Int) ∧ BldS wr (gI + 1) (gI + 2) (.pointer (some ⟨gI + 1, 0, none⟩)) v' (headBytes hh ++ (List.range k).flatMap (encFr hh chs)) ∧ Kp w3 wr (fun b => b = gI + 1 ∨ gI + 2 ≤ b))
  case atStart => exact ⟨0, v5, rfl, by simp, by simpa using hbld5, hk35⟩
  case round =>
    clear hbld5 hk35
    obtain ⟨k, v', hgk, rfl, hbld, hk⟩ := hrel
    have hbIr := hbI3.kp hk (fun e => by omega)
    have hbSr := hbS3.kp hk (fun e => by omega)
    have hinsr := hins3.kp hk HCD.out
    have e3 : wr.cell? ⟨gI, 3, none⟩ = some (.int .i64 hh.bits) := hbIr.cell 3
    have e4 : wr.cell? ⟨gI, 4, none⟩ = some (.int .i64 hh.total) := hbIr.cell 4
    have z2 : wr.cell? ⟨gS, 2, none⟩ = some (.slice a n c) := hbSr.cell 2
    have hk75 : k ≤ 75 := by omega
    have hkB := HKB.out k hk75
    have hbl : (headBytes hh ++ (List.range k).flatMap (encFr hh chs)).length ≤ 6000 := by
      have h1 := hRS.frames_len k
      rw [List.length_append, headBytes_length]
      omega
    have hiff := hRS.nframes k
    obtain ⟨f, hf⟩ : ∃ f, k * hh.block = f := ⟨_, rfl⟩
    rw [hf] at hiff hkB ⊢
    have HF : Hid (k * hh.block = f) := hf
    clear hf
    by_cases hlt : f < hh.total
    · have hkn : k < nFrames hh := hiff.2 hlt
      have HFR := hRS.frame k hkn []
      obtain ⟨t, ht⟩ : ∃ t, min (f + hh.block) hh.total = t := ⟨_, rfl⟩
      have hft : f < t := by omega
      have htn : t ≤ hh.total := by omega
      have HB := qbetween wr _ _ chs hh.total f t hinsr (by rw [hRS.ch]; exact hRS.ch1) (by rw [hRS.ch]; exact p5) HLENN.out hft htn
      have hcut : cutAll f t chs = chunk hh.block k chs := by rw [← ht, ← HF.out]; exact cut_chunk hh.block k hh.total chs hRS.len
      rw [hcut] at HB
      have HT : Hid (min (f + hh.block) hh.total = t) := ht
      obtain ⟨ck, hck⟩ : ∃ ck, chunk hh.block k chs = ck := ⟨_, rfl⟩
      rw [hck] at HB
      have hckl : ck.length = n := by rw [← hck, ← HN.out]; unfold chunk; rw [List.length_map]
      have hcnt := hRS.chunk_len k
      rw [hck, HF.out] at hcnt
      have HHOLD := hRS.chunk_hold k (by rw [HF.out]; exact hlt)
      rw [hck, HF.out] at HHOLD
      have HCK : Hid (chunk hh.block k chs = ck) := hck
      have hfits := holdAll_fits _ _ _ _ HHOLD
      have hck3 : ∀ i, i < ck.length → 1 ≤ (ck.getD i []).length ∧ (ck.getD i []).length ≤ 256 ∧ Abs 32768 (ck.getD i []) := by
        intro i hi
        have h1 := hfits (ck.getD i []) (by simp [List.getD, hi])
        refine ⟨by omega, by omega, fun x hx => ?_⟩
        exact fits_bound hh.bits p7 x (h1.2 x hx)
      have HCK3 : Hid _ := hck3
      have HCKL : Hid (ck.length = n) := hckl
      have tlt : decide ((f : Int) < (hh.total : Int)) = true := decide_eq_true (by omega)
      have hnn : n = hh.channels := by rw [← HN.out]; exact hRS.ch
      have HNN : Hid (n = hh.channels) := hnn
      clear ht hcut hck hckl hcnt HHOLD hfits hck3 hiff HFR hnn
      go_upto_region 9 with fail
      go_cut [10] (fun s10 wx => BetPost wr (fun q => q < w.heap.size) ck (.returned s10) wx)
      case first =>
        have HBH : Hid (Calls Tryz.prog 21 #[.slice a n c, .int .i64 f, .int .i64 t] wr (BetPost wr (fun q => q < w.heap.size) ck)) := HB
        clear HB
        go_wp2_with fail
        · have e5 : t = hh.total := by have := HT.out; omega
          have HB := HBH.out
          rw [e5] at HB
          clear e5
          refine HB.mono ?_
          rintro e w6 hb6
          obtain ⟨g6, rfl, _⟩ := id hb6
          clear HB
          go_wp2
          go_meet
          case rel => exact hb6
        · have e5 : (t : Int) = (f : Int) + (hh.block : Int) := by have := HT.out; omega
          have HB := HBH.out
          rw [e5] at HB
          clear e5
          refine HB.mono ?_
          rintro e w6 hb6
          obtain ⟨g6, rfl, _⟩ := id hb6
          clear HB
          go_wp2
          go_meet
          case rel => exact hb6
      case rest =>
        obtain ⟨g6, hs10, hg6, _, _, hview⟩ := hcut
        injection hs10 with hs10
        subst hs10
        rw [HCKL.out] at hview ⊢
        have hgwl : wr.heap.size ≤ wc.heap.size := hg6.size
        have hchin : ChIn wc.drew (.slice (some ⟨g6, 0, none⟩) n n) ck := Views.chIn hview HCK3.out
        have HFW := qfrwrite wc.drew _ ck hh.bits k p7 (by omega) (by rw [HCKL.out, HNN.out]; exact hRS.ch1) (by rw [HCKL.out, HNN.out]; exact p5) hchin
        have hfb : frameBytes (modeOf ck.length) k (ck.headD []).length hh.bits (ck.map (shortest hh.bits)) = encFr hh chs k := by
          unfold encFr frameOf
          rw [HCK.out, HCKL.out, HNN.out]
        rw [hfb] at HFW
        have hbldc := hbld.kp (grown_trans hg6 (grown_drew (grown_refl wc none)))
        have e3c : wc.cell? ⟨gI, 3, none⟩ = some (.int .i64 hh.bits) := hg6.cell e3 (by simp)
        have hdiv : (f : Int) / (hh.block : Int) = (k : Int) := by
          have h9 := HF.out
          rw [← h9, Int.natCast_mul]
          exact Int.mul_ediv_cancel _ (by omega)
        have hfl : (⟨(encFr hh chs k).toArray⟩ : ByteArray).size ≤ 1100 := by
          show (encFr hh chs k).toArray.size ≤ 1100
          rw [List.size_toArray]
          have := hRS.encFr_le k
          omega
        have HWR := fun w7 (hg7 : wc.drew.grownBy w7 none) => qbwrite w7 (gI + 1) (gI + 2) _ _ _ ⟨(encFr hh chs k).toArray⟩ (hbldc.kp hg7) (by have h1 := hg7.size; have h2 := hk.size; have h3 := HS3.out; have h4 : wc.drew.heap.size = wc.heap.size := rfl; omega) (by omega) (by omega)
        have hkw : ∀ w7 w8, wc.drew.grownBy w7 none → Kp w7 w8 (fun b => b = gI + 1 ∨ gI + 2 ≤ b) → Kp w3 w8 (fun b => b = gI + 1 ∨ gI + 2 ≤ b) := fun w7 w8 h7 h8 =>
          (hk.trans (Kp.ofNone (S := fun _ => False) (grown_trans hg6 (grown_trans (grown_drew (grown_refl wc none)) h7))) (fun b e => e.elim)).trans h8 (fun b hb => .inl hb)
        have HKW : Hid _ := hkw
        have hbz : hh.block ≠ 0 := by omega
        have hwk : IntKind.i64.wrap (k : Int) = (k : Int) := by rw [IntKind.wrap_i64]; omega
        have hbz2 : ((hh.block : Int) == 0) = false := by simp; omega
        clear hbld hk hview hchin hg6 hfb hbldc hkw HB e3 z2
        go_upto_region 10 with fail
        go_region_with (first
          | (go_at_call 26; refine HFW.mono ?_; rintro e w7 ⟨rfl, hg7⟩)
          | (go_at_call 24; refine (HWR w7 hg7).mono ?_; rintro e w8 ⟨rfl, v8, hbld8, hk8⟩))
        all_goals
          have hk38 := HKW.out w7 w8 hg7 hk8
          clear HFW HWR hk8 hg7
          go_wp2
          go_roundg (gk - 1)
          case measure => omega
          case rel => exact ⟨k + 1, v8, by omega, by rw [Nat.succ_mul, HF.out]; go_num, by rw [flat_succ, ← List.append_assoc]; exact hbld8, hk38⟩
    · have hkn : k = nFrames hh := by
        have h1 : ¬ k < nFrames hh := fun e => hlt (hiff.1 e)
        omega
      subst hkn
      have tlt : decide ((f : Int) < (hh.total : Int)) = false := decide_eq_false (by omega)
      have HST := qbstring wr (gI + 1) (gI + 2) _ v' _ hbld (fun e => by have := congrArg List.length e; rw [List.length_append, headBytes_length] at this; simp at this)
      have hfin : ∀ wf, Below (gI + 2) wr wf → EncPost w rate bits hh.block chs (.returned (.tuple #[.string ⟨(encode hh chs).toArray⟩, .int .i64 0])) wf := by
        intro wf hbel
        have h1 : Kp wr wf (fun b => b = gI + 1 ∨ gI + 2 ≤ b) := ⟨hbel.os, hbel.tape, hbel.output, hbel.size, fun b hb hn => hbel.block b (by omega)⟩
        have h2 := (hk.trans h1 (fun b hb => .inl hb))
        have h3 : Kp w wf (fun b => b = gI + 1 ∨ gI + 2 ≤ b) := (Kp.ofNone HGG3.out).trans h2 (fun b hb => .inl hb)
        exact ⟨h3.grown (fun b hb => by have := HGS.out; omega), .inl ⟨hh, HR.out, rfl⟩⟩
      have HFIN : Hid _ := hfin
      clear hgk hbld hk hfin hiff hbl hinsr hbSr hbIr
      go_wp2_with fail
      refine HST.mono ?_
      rintro e wf ⟨rfl, hbel⟩
      have hpost := HFIN.out wf hbel
      clear HST hbel
      go_wp2
      exact bodyPost_ret (v := .tuple #[.string ⟨(encode hh chs).toArray⟩, .int .i64 0]) (by simp [results, Tryz.results13, go_sem, encode]) rfl hpost
end Go.Proofs.YtncmgnmcggkhnaaGreat

namespace Go.Proofs.YtncmgnmcggkhnaaGreat
open Go.RowKit

/-- a frame that was read: its bytes and its channels -/
abbrev Fr := List UInt8 × List (List Int)

/-- the samples of frames, behind one another -/
def joined (c : Nat) (l : List Fr) : List (List Int) := l.foldl (fun acc p => List.zipWith (· ++ ·) acc p.2) (List.replicate c [])

theorem joined_snoc (c : Nat) (l : List Fr) (p : Fr) : joined c (l ++ [p]) = List.zipWith (· ++ ·) (joined c l) p.2 := by
  unfold joined; simp

/-- frames read one behind the other: the first `f` bytes of `L` -/
structure Fls (h : Head) (L : List UInt8) (l : List Fr) (f : Nat) (ended : Bool) : Prop where
  bytes : (l.map (·.1)).flatten = L.take f
  each : ∀ i (p : Fr), l[i]? = some p → ∃ rest, pFrame h i (p.1 ++ rest) = some (p.2, rest)
  full : ∀ i (p : Fr), l[i]? = some p → (i + 1 < l.length ∨ ended = false) → ∀ j, j < h.channels → (p.2.getD j []).length = h.block

theorem Fls.start (h : Head) (L : List UInt8) : Fls h L [] 0 false := ⟨rfl, fun i p hp => by simp at hp, fun i p hp => by simp at hp⟩

theorem Fls.next {h : Head} {L part : List UInt8} {l : List Fr} {f k cnt : Nat} {chs : List (List Int)} (hf : Fls h L l f false) (hb : part = (L.drop f).take k) (hp : pFrame h l.length (L.drop f) = some (chs, (L.drop f).drop k))
    (hc : ∀ j, j < h.channels → (chs.getD j []).length = cnt) (hcnt : cnt ≤ h.block) : Fls h L (l ++ [(part, chs)]) (f + k) (decide (cnt < h.block)) := by
  refine ⟨?_, fun i p hi => ?_, fun i p hi hfull j hj => ?_⟩
  · rw [List.map_append, List.flatten_append, hf.bytes, hb, List.take_add]
    simp
  · rcases Nat.lt_or_ge i l.length with h1 | h1
    · rw [List.getElem?_append_left h1] at hi
      exact hf.each i p hi
    · rw [List.getElem?_append_right h1] at hi
      have h2 : i - l.length = 0 := by
        rcases Nat.eq_zero_or_pos (i - l.length) with h3 | h3
        · exact h3
        · rw [List.getElem?_eq_none (by simp; omega)] at hi; cases hi
      have h3 : i = l.length := by omega
      rw [h2] at hi
      injection hi with hi
      subst hi
      subst h3
      exact ⟨(L.drop f).drop k, by rw [hb, List.take_append_drop]; exact hp⟩
  · rcases Nat.lt_or_ge i l.length with h1 | h1
    · rw [List.getElem?_append_left h1] at hi
      exact hf.full i p hi (.inr rfl) j hj
    · rw [List.getElem?_append_right h1] at hi
      have h2 : i - l.length = 0 := by
        rcases Nat.eq_zero_or_pos (i - l.length) with h3 | h3
        · exact h3
        · rw [List.getElem?_eq_none (by simp; omega)] at hi; cases hi
      rw [h2] at hi
      injection hi with hi
      subst hi
      rcases hfull with h4 | h4
      · rw [List.length_append, List.length_singleton] at h4; omega
      · have h5 := of_decide_eq_false h4
        have h6 := hc j hj
        show (chs.getD j []).length = _
        omega

/-- what a function that takes frames leaves behind -/
def TakePost (J : World → List Fr → (Nat → Prop) → Prop) (W : World) (l : List Fr) (S : Nat → Prop) (p : Fr) (e : Ending) (W' : World) : Prop :=
  e = .returned (.tuple #[]) ∧ Kp W W' S ∧ ∃ S', J W' (l ++ [p]) S' ∧ ∀ b, S' b → S b ∨ W.heap.size ≤ b

/-- a function that takes frames: `J` is what it has made of those ahead, in blocks of `S` -/
structure TakeOk (g : Nat) (lb : Array Value) (h : Head) (J : World → List Fr → (Nat → Prop) → Prop) : Prop where
  lt : ∀ w l S, J w l S → ∀ b, S b → b < w.heap.size
  grow : ∀ w w' l S, J w l S → w.grownBy w' none → J w' l S
  call : ∀ (W : World) (l : List Fr) (S D : Nat → Prop) (part : ByteArray) (chs : List (List Int)) (v : Value) (n total : Nat),
    J W l S → Views W D v chs → (∀ q, D q → ¬ S q ∧ q < W.heap.size) → chs.length = h.channels → (∀ j, j < h.channels → (chs.getD j []).length = n) → 1 ≤ n →
    (∀ j, j < h.channels → ((joined h.channels l).getD j []).length = total) → (joined h.channels l).length = h.channels → total + n ≤ 1200 → l.length ≤ 6000 → part.size ≤ 6000 →
    Calls Tryz.prog g (#[.string part, v] ++ lb) W (TakePost J W l S (part.data.toList, chs))

def EachPost (J : World → List Fr → (Nat → Prop) → Prop) (w : World) (S : Nat → Prop) (h : Head) (L : List UInt8) (res : Except Nat (List (List Int))) (e : Ending) (w' : World) : Prop :=
  ∃ l S', J w' l S' ∧ Kp w w' S ∧ (∀ b, S' b → S b ∨ w.heap.size ≤ b) ∧
    match res with
    | .error k => e = .returned (.tuple #[.int .i64 4, .int .i64 k])
    | .ok chs => joined h.channels l = chs ∧ (∃ ended, Fls h L l L.length ended) ∧ e = .returned (.tuple #[.int .i64 ((if (chs.headD []).length = h.total then 0 else 5 : Nat) : Int), .int .i64 0])

/-- what the loop over the frames knows -/
structure EaInv (J : World → List Fr → (Nat → Prop) → Prop) (w wr : World) (S0 : Nat → Prop) (h : Head) (d dk : ByteArray) (res : Except Nat (List (List Int))) (gk number total nb f : Nat) (ended : Bool) (l : List Fr) (S : Nat → Prop) : Prop where
  kp : Kp w wr S0
  inf : Box wr w.heap.size (headC h) 46
  j : J wr l S
  sub : ∀ b, S b → S0 b ∨ w.heap.size < b
  at_ : FInv h d res gk number total ended (joined h.channels l) f
  fls : Fls h d.data.toList l f ended
  num : l.length = number
  data : dk.data.toList = d.data.toList.drop f
  prod : number * h.block = nb
  stop : if ended then total < nb else total = nb
end Go.Proofs.YtncmgnmcggkhnaaGreat

namespace Go.Proofs.YtncmgnmcggkhnaaGreat
open Go.RowKit

set_option maxHeartbeats 8000000 in
set_option maxRecDepth 20000 in
theorem qeachframe (w : World) (d : ByteArray) (h : Head) (res : Except Nat (List (List Int))) (g : Nat) (lb : Array Value) (J : World → List Fr → (Nat → Prop) → Prop) (S0 : Nat → Prop)
    (eg : ∀ args w, (callFunc g args).run Tryz.prog w = .ok (.enter g args) w) (hT : TakeOk g lb h J) (hJ : J w [] S0)
    (hd : d.size ≤ 6000) (hc1 : 1 ≤ h.channels) (hc2 : h.channels ≤ 2) (hb1 : 4 ≤ h.bits) (hb2 : h.bits ≤ 16) (hblk : h.block ≤ 256)
    (hres : frames h (d.size + 1) 0 0 false (List.replicate h.channels []) d.data.toList = res) :
    Calls Tryz.prog 15 #[.string d, .agg (headC h), .func (.func g) #[] lb] w (EachPost J w S0 h d.data.toList res) := by
  have hd0 : d.data.toList.drop 0 = d.data.toList := rfl
  have hfinv : FInv h d res (d.size + 1) 0 0 false (List.replicate h.channels []) 0 :=
      ⟨by omega, by omega, by omega, by omega, by simp, fun j hj => by simp [List.getD, hj], by rw [hd0]; exact hres.symm⟩
  have hS0 := hT.lt w [] S0 hJ
  clear hres
  unfold headC
  go_enter Tryz.func15, Tryz.ntmps15
  go_upto_region 1 with fail
  obtain ⟨w0, hw0⟩ : ∃ w0, w.alloc (.cells #[Value.int .i64 h.block, .int .i64 h.rate, .int .i64 h.channels, .int .i64 h.bits, .int .i64 h.total] 46) = w0 := ⟨_, rfl⟩
  have hg0 : w.grownBy w0 none := by rw [← hw0]; exact grown_alloc (grown_refl _ _) _
  have hbI0 : Box w0 w.heap.size (headC h) 46 := by rw [← hw0]; exact Box.new _ _ _
  rw [hw0]
  clear hw0
  have hinv : EaInv J w w0 S0 h d d res (d.size + 1) 0 0 0 0 false [] S0 :=
    ⟨Kp.ofNone hg0, hbI0, hT.grow w w0 [] S0 hJ hg0, fun b hb => .inl hb, hfinv, Fls.start _ _, rfl, rfl, by omega, by simp⟩
  clear hg0 hbI0 hfinv hd0 hJ
  go_wp2_with fail
  go_loopg [0, 8, 9] (d.size + 1) (fun gk t0 t8 t9 wr => ∃ (dk : ByteArray) (number total nb f : Nat) (ended : Bool) (l : List Fr) (S : Nat → Prop), t0 = .string dk ∧ t8 = .int .i64 number ∧ t9 = .int .i64 total ∧
      EaInv J w wr S0 h d dk res gk number total nb f ended l S)
  case atStart => exact ⟨d, 0, 0, 0, 0, false, _, _, rfl, rfl, rfl, hinv⟩
  case round =>
    clear hinv
    obtain ⟨dk, number, total, nb, f, ended, l, S, rfl, rfl, rfl, hinv⟩ := hrel
    have hfinv := hinv.at_
    have hfl := hfinv.1
    have hnum : number ≤ 6001 := by have := hfinv.2.2.1; omega
    have htot := hfinv.2.2.2.1
    have hdk : dk.size = d.size - f := by rw [← dlen, hinv.data, List.length_drop, dlen]
    have hsub0 : ∀ b, S b → S0 b ∨ w.heap.size ≤ b := fun b hb => by rcases hinv.sub b hb with h1 | h1; exact .inl h1; exact .inr (by omega)
    by_cases hf : f < d.size
    rotate_left
    · have hok := hfinv.stop (by omega)
      have hds : dk.size = 0 := by omega
      have tds : decide (0 < dk.size) = false := decide_eq_false (by omega)
      have c4 : wr.cell? ⟨w.heap.size, 4, none⟩ = some (.int .i64 h.total) := hinv.inf.cell 4
      have hj0 : ((joined h.channels l).headD []).length = total := by rw [headD_getD]; exact hfinv.2.2.2.2.2.1 0 (by omega)
      have hfls : Fls h d.data.toList l d.data.toList.length ended := by
        have h1 := hinv.fls
        rwa [show f = d.data.toList.length by rw [dlen]; omega] at h1
      have hpost : EachPost J w S0 h d.data.toList res (.returned (.tuple #[.int .i64 ((if total = h.total then 0 else 5 : Nat) : Int), .int .i64 0])) wr :=
        ⟨l, S, hinv.j, hinv.kp, hsub0, by rw [hok]; exact ⟨rfl, ⟨ended, hfls⟩, by rw [hj0]⟩⟩
      by_cases htt : total = h.total
      · rw [if_pos htt] at hpost
        have tt : ((total : Int) != (h.total : Int)) = false := by simp; omega
        clear hinv hfinv hok hdk hfls hj0 htt hds
        go_wp2
        exact bodyPost_ret (v := .tuple #[.int .i64 0, .int .i64 0]) (by simp [results, Tryz.results15, go_sem]) rfl hpost
      · rw [if_neg htt] at hpost
        have tt : ((total : Int) != (h.total : Int)) = true := by simp; omega
        clear hinv hfinv hok hdk hfls hj0 htt hds
        go_wp2
        exact bodyPost_ret (v := .tuple #[.int .i64 5, .int .i64 0]) (by simp [results, Tryz.results15, go_sem]) rfl hpost
    have hstop := hinv.stop
    have hnb : nb ≤ 2000000 := by rw [← hinv.prod]; exact Nat.le_trans (Nat.mul_le_mul hnum hblk) (by omega)
    have hmul : (number : Int) * (h.block : Int) = (nb : Int) := by rw [← hinv.prod]; simp
    have hpos : 0 < dk.size := by omega
    have tpos : decide (0 < dk.size) = true := decide_eq_true hpos
    have c0 : wr.cell? ⟨w.heap.size, 0, none⟩ = some (.int .i64 h.block) := hinv.inf.cell 0
    have c1 : wr.cell? ⟨w.heap.size, 1, none⟩ = some (.int .i64 h.rate) := hinv.inf.cell 1
    have c2 : wr.cell? ⟨w.heap.size, 2, none⟩ = some (.int .i64 h.channels) := hinv.inf.cell 2
    have c3 : wr.cell? ⟨w.heap.size, 3, none⟩ = some (.int .i64 h.bits) := hinv.inf.cell 3
    have c4 : wr.cell? ⟨w.heap.size, 4, none⟩ = some (.int .i64 h.total) := hinv.inf.cell 4
    have hdk2 : dk.size ≤ 6000 := by omega
    cases ended
    rotate_left
    · have hst : total < nb := by simpa using hstop
      have hne : ((total : Int) != (nb : Int)) = true := by simp; omega
      have herr : res = .error number := by
        cases hp : pFrame h number (d.data.toList.drop f) with
        | none => exact hfinv.none hf hp
        | some x => obtain ⟨chs, rest⟩ := x; exact hfinv.over hf hp (.inl rfl)
      have hpost : EachPost J w S0 h d.data.toList res (.returned (.tuple #[.int .i64 4, .int .i64 number])) wr := ⟨l, S, hinv.j, hinv.kp, hsub0, by rw [herr]⟩
      clear hinv hfinv herr hstop hdk
      go_wp2
      exact bodyPost_ret (v := .tuple #[.int .i64 4, .int .i64 number]) (by simp [results, Tryz.results15, go_sem]) rfl hpost
    have hst : total = nb := by simpa using hstop
    have hne : ((total : Int) != (nb : Int)) = false := by simp; omega
    have HST : Hid (total = nb) := hst
    have HDK : Hid (dk.size = d.size - f) := hdk
    have HRD := qreadframe wr dk h number hdk2 hc1 hc2 hb1 hb2 hblk
    unfold headC at HRD
    clear hst hdk hstop
    go_wp2_with fail
    refine HRD.mono ?_
    rintro e w3 ⟨hg3, size, cnt, v, ok, rfl, hcase⟩
    clear HRD c0 c1 c2 c3 c4 hne hmul
    rw [hinv.data] at hcase
    have hkk3 : Kp w w3 S0 := hinv.kp.trans (Kp.ofNone (S := fun _ => False) hg3) (fun b e => e.elim)
    have hJ3 := hT.grow wr w3 l S hinv.j hg3
    rcases hcase with ⟨rfl, chs, cvs, hp, hsz, hsubs, hcn⟩ | ⟨rfl, rfl, rfl, hp⟩
    rotate_left
    · have herr := hfinv.none hf hp
      have hga : w3.grownBy (w3.alloc (.cells #[.int .i64 size, .int .i64 0, .slice none 0 0] 78)) none := grown_alloc (grown_refl _ _) _
      have hpost : EachPost J w S0 h d.data.toList res (.returned (.tuple #[.int .i64 4, .int .i64 number])) (w3.alloc (.cells #[.int .i64 size, .int .i64 0, .slice none 0 0] 78)) :=
        ⟨l, S, hT.grow _ _ l S hJ3 hga, hkk3.trans (Kp.ofNone (S := fun _ => False) hga) (fun b e => e.elim), hsub0, by rw [herr]⟩
      clear hinv hfinv herr hp
      go_wp2
      exact bodyPost_ret (v := .tuple #[.int .i64 4, .int .i64 number]) (by simp [results, Tryz.results15, go_sem]) rfl hpost
    have hsp := pFrame_spec hp
    have hcl := hsp.1
    have hn2 : 1 ≤ cnt ∧ cnt ≤ h.block := by
      obtain ⟨_, n', k', h1, h2, h3, _⟩ := hsp
      have : n' = cnt := by rw [← hcn 0 (by omega), h3 0 (by omega)]
      omega
    have hc0 : (chs.getD 0 []).length = cnt := hcn 0 (by omega)
    have hview3 := hsubs.views (by omega) (fun j hj => by rw [hcn j (by omega)]; exact hn2.1)
    have hview3' := hview3
    obtain ⟨lg, lcap, rfl, hlcap, hlg, hlgt, _⟩ := hview3'
    have hover := fun ho => hfinv.over hf hp ho
    have hnext := fun ho => hfinv.next hc1 hf hp ho
    rw [hc0] at hover hnext
    have HCL : Hid (chs.length = h.channels) := hcl
    have HP : Hid (pFrame h number (d.data.toList.drop f) = some (chs, (d.data.toList.drop f).drop size)) := hp
    clear hsp hp hc0 hsubs hcl
    obtain ⟨w4, hw4⟩ : ∃ w4, w3.alloc (.cells #[.int .i64 size, .int .i64 cnt, .slice (some ⟨lg, 0, none⟩) chs.length lcap] 78) = w4 := ⟨_, rfl⟩
    obtain ⟨gF, hgF⟩ : ∃ gF, w3.heap.size = gF := ⟨_, rfl⟩
    have hg4 : w3.grownBy w4 none := by rw [← hw4]; exact grown_alloc (grown_refl _ _) _
    have hbF4 : Box w4 gF #[.int .i64 size, .int .i64 cnt, .slice (some ⟨lg, 0, none⟩) chs.length lcap] 78 := by rw [← hgF, ← hw4]; exact Box.new _ _ _
    have hkk4 : Kp w w4 S0 := hkk3.trans (Kp.ofNone (S := fun _ => False) hg4) (fun b e => e.elim)
    have hgr4 := grown_trans hg3 hg4
    have hJ4 := hT.grow _ _ l S hJ3 hg4
    have hview4 := hview3.kp (Kp.ofNone (S := fun _ => False) hg4) (fun q _ e => e)
    have hF3 : wr.heap.size ≤ gF := by rw [← hgF]; exact hg3.size
    have hinf4 := hinv.inf.kept hgr4 (by simp)
    have HW4 : Hid (w3.alloc (.cells #[.int .i64 size, .int .i64 cnt, .slice (some ⟨lg, 0, none⟩) chs.length lcap] 78) = w4) := hw4
    have HGF : Hid (w3.heap.size = gF) := hgF
    rw [hgF] at hview4
    have hF4 : gF < w4.heap.size := hbF4.lt
    clear hw4 hgF hg3 hg4 hkk3 hJ3 hview3
    go_upto_region 6 with fail
    rw [HW4.out, HGF.out]
    clear HW4 HGF
    have f0 : w4.cell? ⟨gF, 0, none⟩ = some (.int .i64 size) := hbF4.cell 0
    have f1 : w4.cell? ⟨gF, 1, none⟩ = some (.int .i64 cnt) := hbF4.cell 1
    have f2 : w4.cell? ⟨gF, 2, none⟩ = some (.slice (some ⟨lg, 0, none⟩) chs.length lcap) := hbF4.cell 2
    by_cases hov : 1200 < total + cnt
    · have herr := hover (.inr hov)
      have hpost : EachPost J w S0 h d.data.toList res (.returned (.tuple #[.int .i64 4, .int .i64 number])) w4 := ⟨l, S, hJ4, hkk4, hsub0, by rw [herr]⟩
      have tt : decide ((1200 : Int) < (total : Int) + (cnt : Int)) = true := decide_eq_true (by omega)
      clear hinv hfinv herr hover hnext hview4
      go_wp2
      exact bodyPost_ret (v := .tuple #[.int .i64 4, .int .i64 number]) (by simp [results, Tryz.results15, go_sem]) rfl hpost
    obtain ⟨f', hrest, hfinv'⟩ := hnext (by simp; omega)
    have tt : decide ((1200 : Int) < (total : Int) + (cnt : Int)) = false := decide_eq_false (by omega)
    obtain ⟨part, hpart⟩ : ∃ part, dk.extract 0 size = part := ⟨_, rfl⟩
    have hpl : part.data.toList = (d.data.toList.drop f).take size := by
      rw [← hpart, extract_list, ← hinv.data]
      simp
    have hpsz : part.size ≤ 6000 := by rw [← dlen, hpl, List.length_take, List.length_drop, dlen]; omega
    have hDn : ∀ q, (wr.heap.size ≤ q ∧ q < gF) → ¬ S q ∧ q < w4.heap.size := fun q hq => ⟨fun e => by have := hT.lt wr l S hinv.j q e; omega, by omega⟩
    have hle : l.length ≤ 6000 := by rw [hinv.num]; have := hfinv.2.2.1; have := hfinv.2.1; omega
    have HCALL : Calls Tryz.prog g (#[.string part, .slice (some ⟨lg, 0, none⟩) chs.length lcap] ++ lb) w4.drew (TakePost J w4.drew l S (part.data.toList, chs)) :=
      hT.call w4.drew l S _ part chs _ cnt total (hT.grow _ _ l S hJ4 (grown_drew (grown_refl _ _))) hview4 hDn HCL.out hcn hn2.1 hfinv.2.2.2.2.2.1 hfinv.2.2.2.2.1 (by omega) hle hpsz
    have hff : f' = f + size := by
      have h1 := congrArg List.length hrest
      rw [List.length_drop, List.length_drop, List.length_drop, dlen] at h1
      have := hfinv'.1
      have := HDK.out
      omega
    have hfls' := hinv.fls.next hpl (by rw [hinv.num]; exact HP.out) hcn hn2.2
    rw [← hff] at hfls'
    have HFLS : Hid _ := hfls'
    have HDATA : Hid (dk.data.toList = d.data.toList.drop f) := hinv.data
    have HPROD : Hid (number * h.block = nb) := hinv.prod
    have HNUM : Hid (l.length = number) := hinv.num
    have HREST : Hid ((d.data.toList.drop f).drop size = d.data.toList.drop f') := hrest
    have HPART : Hid (dk.extract 0 size = part) := hpart
    have HSUB : Hid (∀ b, S b → S0 b ∨ w.heap.size < b) := hinv.sub
    have hslt : ∀ b, S b → b < gF := fun b hb => by have := hT.lt wr l S hinv.j b hb; omega
    have hw4 : w.heap.size < gF := by have := hinv.inf.lt; omega
    have HP4 : dk.extract 0 size = part := hpart
    clear hov hover hnext hrest hpl hpsz hDn hle hview4 hJ4 hfls' hff hpart HP hinv hfinv
    go_upto_region 8 with fail
    go_cut [] (fun wx => TakePost J w4 l S (part.data.toList, chs) (.returned (.tuple #[])) wx)
    case first =>
      go_region_with (first
        | (go_at_fn g; refine HCALL.mono ?_; rintro e w5 ⟨rfl, hk5, S5, hJ5, hs5⟩))
      all_goals
        go_wp2
        go_meet
        case rel => exact ⟨rfl, ⟨hk5.os, hk5.tape, hk5.output, hk5.size, hk5.block⟩, S5, hJ5, hs5⟩
    case rest =>
      obtain ⟨_, hk5, S5, hJ5, hs5⟩ := hcut
      have hfr5 := hbF4.kp hk5 (fun e => by have := hslt gF e; omega)
      have hin5 := hinf4.kp hk5 (fun e => by
        rcases HSUB.out _ e with h1 | h1
        · have := hS0 _ h1; omega
        · omega)
      have f0 : wc.cell? ⟨gF, 0, none⟩ = some (.int .i64 size) := hfr5.cell 0
      have f1 : wc.cell? ⟨gF, 1, none⟩ = some (.int .i64 cnt) := hfr5.cell 1
      have hkk5 : Kp w wc S0 := hkk4.trans hk5 (fun b hb => by
        rcases HSUB.out b hb with h1 | h1
        · exact .inl h1
        · exact .inr (by omega))
      have hsub5 : ∀ b, S5 b → S0 b ∨ w.heap.size < b := fun b hb => by
        rcases hs5 b hb with h1 | h1
        · exact HSUB.out b h1
        · exact .inr (by have := hF4; omega)
      have hex : (dk.extract size dk.size).data.toList = d.data.toList.drop f' := by
        rw [extract_list, HDATA.out, HREST.out, List.take_of_length_le]
        rw [← HREST.out, ← HDATA.out, List.length_drop, dlen]
        omega
      have hinv' : EaInv J w wc S0 h d (dk.extract size dk.size) res (gk - 1) (number + 1) (total + cnt) (nb + h.block) f' (decide (cnt < h.block)) (l ++ [(part.data.toList, chs)]) S5 := by
        refine ⟨hkk5, hin5, hJ5, hsub5, by rw [joined_snoc]; exact hfinv', HFLS.out, by rw [List.length_append, HNUM.out]; rfl, hex, by rw [Nat.succ_mul, HPROD.out], ?_⟩
        have := HST.out
        by_cases hlt : cnt < h.block
        · simp [hlt]; omega
        · simp [hlt]; omega
      have hko : 0 < gk := by have := hfinv'.2.1; omega
      clear hex hkk5 hin5 hJ5 hsub5 hfr5 hk5 hs5 hfinv' hkk4 hinf4 hbF4
      go_wp2
      go_roundg (gk - 1)
      case measure => omega
      case rel => exact ⟨_, number + 1, total + cnt, nb + h.block, f', decide (cnt < h.block), _, S5, rfl, by go_num, by go_num, hinv'⟩
end Go.Proofs.YtncmgnmcggkhnaaGreat
