import Derived.Test.YtncmgnmcggkhnaaG28
import Derived.Test.YtncmgnmcggkhnaaG17
import Derived.Test.YtncmgnmcggkhnaaG20
import Derived.Test.YtncmgnmcggkhnaaG29
namespace Go.Proofs.Ytncmgnmcggkhnaa
open Go.RowKit

/-- what the program tells of a sound that is right -/
def RightIn (rate bits block : Int) (chs : List (List Int)) (h : Head) : Prop := (h.rate : Int) = rate ∧ (h.bits : Int) = bits ∧ (h.block : Int) = block ∧ RightS h chs

def InfoOfPost (w : World) (rate bits block : Int) (chs : List (List Int)) (e : Ending) (w' : World) : Prop :=
  w.grownBy w' none ∧ ∃ (b1 b2 b3 b4 b5 : Int) (ok : Bool), e = .returned (.tuple #[.agg #[.int .i64 b1, .int .i64 b2, .int .i64 b3, .int .i64 b4, .int .i64 b5], .bool ok]) ∧
    ((ok = false ∧ ∀ h, ¬ RightIn rate bits block chs h) ∨ (ok = true ∧ ∃ h, RightIn rate bits block chs h ∧ b1 = h.block ∧ b2 = h.rate ∧ b3 = h.channels ∧ b4 = h.bits ∧ b5 = h.total))

theorem right_maybe {rate bits block : Int} {chs : List (List Int)} {h : Head} (hr : RightIn rate bits block chs h) : mayBe block rate chs.length bits (chs.headD []).length = true ∧ h.total = (chs.headD []).length := by
  obtain ⟨h1, h2, h3, hs⟩ := hr
  obtain ⟨p1, p2, p3, p4, p5, p6, p7, p8⟩ := headOk_parts hs.ok
  have hl := hs.head_len
  have hc := hs.ch
  have hc1 := hs.ch1
  refine ⟨?_, hl.symm⟩
  unfold mayBe
  simp only [Bool.and_eq_true, decide_eq_true_eq]
  omega

set_option maxHeartbeats 4000000 in
set_option maxRecDepth 20000 in
theorem qinfoof (w : World) (D : Nat → Prop) (v : Value) (rate bits block : Int) (chs : List (List Int)) (h : Ins w D v chs) (hcl : chs.length ≤ 17592186044416) (hlen : ∀ c ∈ chs, c.length ≤ 17592186044416) :
    Calls Try.prog 47 #[.agg #[.int .i64 rate, .int .i64 bits, v], .int .i64 block] w (InfoOfPost w rate bits block chs) := by
  obtain ⟨a, c, rfl⟩ := h.slice
  obtain ⟨n, hn⟩ : ∃ n, chs.length = n := ⟨_, rfl⟩
  rw [hn] at h hcl ⊢
  have HN : Hid (chs.length = n) := hn
  obtain ⟨w0, hw0⟩ : ∃ w0, w.alloc (.cells #[.int .i64 rate, .int .i64 bits, .slice a n c] 26) = w0 := ⟨_, rfl⟩
  have hg0 : w.grownBy w0 none := by rw [← hw0]; exact grown_alloc (grown_refl _ _) _
  obtain ⟨gS, hgS⟩ : ∃ gS, w.heap.size = gS := ⟨_, rfl⟩
  have hbS0 : Box w0 gS #[.int .i64 rate, .int .i64 bits, .slice a n c] 26 := by rw [← hgS, ← hw0]; exact Box.new _ _ _
  have hs0 : w0.heap.size = gS + 1 := by rw [← hw0, ← hgS]; simp
  obtain ⟨w1, hw1⟩ : ∃ w1, w0.alloc (.cells #[Value.int .i64 0, .int .i64 0, .int .i64 0, .int .i64 0, .int .i64 0] 77) = w1 := ⟨_, rfl⟩
  have hg1 : w0.grownBy w1 none := by rw [← hw1]; exact grown_alloc (grown_refl _ _) _
  have hbR1 : Box w1 (gS + 1) #[Value.int .i64 0, .int .i64 0, .int .i64 0, .int .i64 0, .int .i64 0] 77 := by rw [← hs0, ← hw1]; exact Box.new _ _ _
  have hs1 : w1.heap.size = gS + 2 := by rw [← hw1]; simp; omega
  obtain ⟨w2, hw2⟩ : ∃ w2, w1.alloc (.cells #[Value.int .i64 block, .int .i64 rate, .int .i64 n, .int .i64 bits, .int .i64 0] 77) = w2 := ⟨_, rfl⟩
  have hg2 : w1.grownBy w2 none := by rw [← hw2]; exact grown_alloc (grown_refl _ _) _
  have hbI2 : Box w2 (gS + 2) #[Value.int .i64 block, .int .i64 rate, .int .i64 n, .int .i64 bits, .int .i64 0] 77 := by rw [← hs1, ← hw2]; exact Box.new _ _ _
  have hbS1 := hbS0.kept hg1 (by simp)
  have hbS2 := hbS1.kept hg2 (by simp)
  have hbR2 := hbR1.kept hg2 (by simp)
  have hgg2 := grown_trans (grown_trans hg0 hg1) hg2
  have HW0 : Hid (w.alloc (.cells #[.int .i64 rate, .int .i64 bits, .slice a n c] 26) = w0) := hw0
  have HGS : Hid (w.heap.size = gS) := hgS
  have HW1 : Hid (w0.alloc (.cells #[Value.int .i64 0, .int .i64 0, .int .i64 0, .int .i64 0, .int .i64 0] 77) = w1) := hw1
  have HS0 : Hid (w0.heap.size = gS + 1) := hs0
  have HW2 : Hid (w1.alloc (.cells #[Value.int .i64 block, .int .i64 rate, .int .i64 n, .int .i64 bits, .int .i64 0] 77) = w2) := hw2
  have HS1 : Hid (w1.heap.size = gS + 2) := hs1
  have z0 : w1.cell? ⟨gS, 0, none⟩ = some (.int .i64 rate) := hbS1.cell 0
  have z1 : w1.cell? ⟨gS, 1, none⟩ = some (.int .i64 bits) := hbS1.cell 1
  have z2 : w1.cell? ⟨gS, 2, none⟩ = some (.slice a n c) := hbS1.cell 2
  clear hw0 hgS hw1 hs0 hw2 hs1 hg0 hg1 hg2 hbS0 hbR1 hn
  go_enter Try.func47, Try.ntmps47
  go_upto_region 1 with fail
  rw [HW0.out, HGS.out, HW1.out]
  go_upto_region 2 with fail
  rw [HW2.out, HS1.out]
  have hgg2' : w.grownBy w2 none := hgg2
  clear HW0 HW1 HS0 HW2 HS1 z0 z1 z2 hbS1
  have z0 : w2.cell? ⟨gS, 0, none⟩ = some (.int .i64 rate) := hbS2.cell 0
  have z1 : w2.cell? ⟨gS, 1, none⟩ = some (.int .i64 bits) := hbS2.cell 1
  have z2 : w2.cell? ⟨gS, 2, none⟩ = some (.slice a n c) := hbS2.cell 2
  have r0 := hbR2.cell 0
  have r1 := hbR2.cell 1
  have r2 := hbR2.cell 2
  have r3 := hbR2.cell 3
  have r4 := hbR2.cell 4
  obtain ⟨total, htotal⟩ : ∃ total, (chs.headD []).length = total := ⟨_, rfl⟩
  have HTOT : Hid ((chs.headD []).length = total) := htotal
  -- behind the first test: the total is laid
  go_upto_if 21 with fail
  go_cut [] (fun wx => w.grownBy wx none ∧ Box wx gS #[.int .i64 rate, .int .i64 bits, .slice a n c] 26 ∧ Box wx (gS + 1) #[Value.int .i64 0, .int .i64 0, .int .i64 0, .int .i64 0, .int .i64 0] 77 ∧ Box wx (gS + 2) #[Value.int .i64 block, .int .i64 rate, .int .i64 n, .int .i64 bits, .int .i64 total] 77)
  case first =>
    rcases Nat.eq_zero_or_pos n with hn0 | hnp
    · have h0 : chs = [] := List.eq_nil_of_length_eq_zero (by rw [HN.out]; exact hn0)
      have ht0 : total = 0 := by rw [← htotal, h0]; rfl
      subst hn0 ht0
      clear h0 htotal
      go_wp2
      go_meet
      case rel => exact ⟨hgg2, hbS2, hbR2, hbI2⟩
    · obtain ⟨lg, v0, rfl, hc0, hlo⟩ := h.at 0 (by rw [HN.out]; exact hnp)
      obtain ⟨a0, cp0, rfl⟩ := hlo.lo.slice
      have hh0 : (chs.getD 0 []).length = total := by rw [← headD_getD]; exact htotal
      rw [hh0] at hc0
      have hc02 : w2.cell? ⟨lg, 0, none⟩ = some (.slice a0 total cp0) := hgg2.cell hc0 (by simp)
      have i4 := hbI2.cell 4
      have f4 := hbI2.fz 4
      have hset := hbI2.set 4 (.int .i64 total)
      have hsg := grown_set w2 (gS + 2) 4 (.int .i64 total)
      have hbSx := hbS2.kept hsg (fun e => by injection e with e; omega)
      have hbRx := hbR2.kept hsg (fun e => by injection e with e; omega)
      have hgx := grown_new hgg2 hsg (fun q e => by injection e with e; have := HGS.out; omega)
      have hnz : (0 : Int) < (n : Int) := by omega
      clear hh0 hc0 htotal
      go_wp2
      go_meet
      case rel => exact ⟨hgx, hbSx, hbRx, hset⟩
  case rest =>
  obtain ⟨hgx, hbS, hbR, hbI⟩ := hcut
  clear hgg2 hgg2' hbS2 hbR2 hbI2 z0 z1 z2 r0 r1 r2 r3 r4
  obtain ⟨wx, rfl⟩ : ∃ wx : World, wx = wc := ⟨_, rfl⟩
  have HMB := qmaybe wx block rate n bits total
  have e0 : wx.cell? ⟨gS + 2, 0, none⟩ = some (.int .i64 block) := hbI.cell 0
  have e1 : wx.cell? ⟨gS + 2, 1, none⟩ = some (.int .i64 rate) := hbI.cell 1
  have e2 : wx.cell? ⟨gS + 2, 2, none⟩ = some (.int .i64 n) := hbI.cell 2
  have e3 : wx.cell? ⟨gS + 2, 3, none⟩ = some (.int .i64 bits) := hbI.cell 3
  have e4 : wx.cell? ⟨gS + 2, 4, none⟩ = some (.int .i64 total) := hbI.cell 4
  obtain ⟨mb, hmb⟩ : ∃ mb, mayBe block rate n bits total = mb := ⟨_, rfl⟩
  rw [hmb] at HMB
  have HMBE : Hid (mayBe block rate n bits total = mb) := hmb
  clear hmb htotal
  go_wp2_with fail
  refine HMB.mono ?_
  rintro e w4 ⟨rfl, hg4⟩
  have hgx4 := grown_trans hgx hg4
  have hbS4 := hbS.kept hg4 (by simp)
  have hbR4 := hbR.kept hg4 (by simp)
  have hbI4 := hbI.kept hg4 (by simp)
  have r0 : w4.cell? ⟨gS + 1, 0, none⟩ = some (.int .i64 0) := hbR4.cell 0
  have r1 : w4.cell? ⟨gS + 1, 1, none⟩ = some (.int .i64 0) := hbR4.cell 1
  have r2 : w4.cell? ⟨gS + 1, 2, none⟩ = some (.int .i64 0) := hbR4.cell 2
  have r3 : w4.cell? ⟨gS + 1, 3, none⟩ = some (.int .i64 0) := hbR4.cell 3
  have r4 : w4.cell? ⟨gS + 1, 4, none⟩ = some (.int .i64 0) := hbR4.cell 4
  have y0 := hbR4.fz 0
  have y1 := hbR4.fz 1
  have y2 := hbR4.fz 2
  have y3 := hbR4.fz 3
  have y4 := hbR4.fz 4
  have hno : (∀ hh, ¬ RightIn rate bits block chs hh) → ∀ wf, w4.grownBy wf (some (gS + 1)) → InfoOfPost w rate bits block chs (.returned (.tuple #[noHead, .bool false])) wf := fun hn wf hgf =>
    ⟨grown_new hgx4 hgf (fun q e => by injection e with e; have := HGS.out; omega), 0, 0, 0, 0, 0, false, rfl, .inl ⟨rfl, hn⟩⟩
  have HNO : Hid _ := hno
  have H5 : Hid _ := five_cells w4 (gS + 1) _ _ _ _ _ _ (.int .i64 0) (.int .i64 0) (.int .i64 0) (.int .i64 0) (.int .i64 0) hbR4
  clear hno HMB e0 e1 e2 e3 e4 hbS hbR hbI hgx hg4
  cases mb with
  | false =>
    have hn : ∀ hh, ¬ RightIn rate bits block chs hh := by
      intro hh hr
      have h1 := (right_maybe hr).1
      rw [HN.out, HTOT.out, HMBE.out] at h1
      cases h1
    have hfin := HNO.out hn
    clear hn h
    go_wp2
    have h5 := H5.out
    generalize (World.setCell _ _ _) = wf at h5 ⊢
    have x0 := h5.1.cell 0
    have x1 := h5.1.cell 1
    have x2 := h5.1.cell 2
    have x3 := h5.1.cell 3
    have x4 := h5.1.cell 4
    exact bodyPost_ret (v := .tuple #[noHead, .bool false]) (by simp [results, Try.results47, go_sem, x0, x1, x2, x3, x4, noHead]) rfl (hfin wf h5.2)
  | true =>
    have hmb := HMBE.out
    unfold mayBe at hmb
    simp only [Bool.and_eq_true, decide_eq_true_eq] at hmb
    obtain ⟨bn, hbn⟩ : ∃ bn : Nat, bits = (bn : Int) := ⟨bits.toNat, by omega⟩
    obtain ⟨rn, hrn⟩ : ∃ rn : Nat, rate = (rn : Int) := ⟨rate.toNat, by omega⟩
    obtain ⟨kn, hkn⟩ : ∃ kn : Nat, block = (kn : Int) := ⟨block.toNat, by omega⟩
    subst hbn hrn hkn
    have hp : 16 ≤ kn ∧ kn ≤ 256 ∧ 1 ≤ rn ∧ rn ≤ 655350 ∧ 1 ≤ n ∧ n ≤ 2 ∧ 4 ≤ bn ∧ bn ≤ 16 ∧ total ≤ 1200 := by omega
    obtain ⟨q1, q2, q3, q4, q5, q6, q7, q8, q9⟩ := hp
    have z1 : w4.cell? ⟨gS, 1, none⟩ = some (.int .i64 bn) := hbS4.cell 1
    have z2 : w4.cell? ⟨gS, 2, none⟩ = some (.slice a n c) := hbS4.cell 2
    have i0 : w4.cell? ⟨gS + 2, 0, none⟩ = some (.int .i64 kn) := hbI4.cell 0
    have i1 : w4.cell? ⟨gS + 2, 1, none⟩ = some (.int .i64 rn) := hbI4.cell 1
    have i2 : w4.cell? ⟨gS + 2, 2, none⟩ = some (.int .i64 n) := hbI4.cell 2
    have i3 : w4.cell? ⟨gS + 2, 3, none⟩ = some (.int .i64 bn) := hbI4.cell 3
    have i4 : w4.cell? ⟨gS + 2, 4, none⟩ = some (.int .i64 total) := hbI4.cell 4
    have hins := h.kept hgx4
    have hlenk : ∀ k, (chs.getD k []).length ≤ 17592186044416 := by
      intro k
      by_cases hk : k < chs.length
      · exact hlen _ (by simp [List.getD, hk])
      · simp [List.getD, hk]
    clear hmb h hlen HMBE hbS4 hbI4
    go_wp2_with fail
    go_loopg [35] n (fun gk t35 wr => ∃ k : Nat, gk + k = n ∧ t35 = .int .i64 k ∧ wr = w4 ∧ ∀ i, i < k → (chs.getD i []).length = total ∧ (chs.getD i []).all (fitsB bn) = true)
    case atStart => exact ⟨0, rfl, rfl, rfl, fun i hi => by omega⟩
    case round =>
      obtain ⟨k, hgk, rfl, rfl, hall⟩ := hrel
      by_cases hlt : k < n
      · obtain ⟨lg, vi, rfl, hck, hlo⟩ := hins.at k (by rw [HN.out]; exact hlt)
        obtain ⟨ak, ck, rfl⟩ := hlo.lo.slice
        obtain ⟨lk, hlk⟩ : ∃ lk, (chs.getD k []).length = lk := ⟨_, rfl⟩
        have hmem : chs.getD k [] ∈ chs := by have := HN.out; simp [List.getD, show k < chs.length by omega]
        have hlkb : lk ≤ 17592186044416 := by rw [← hlk]; exact hlenk k
        have HFIT := qfit wr _ (chs.getD k []) bn (by omega) (by omega) (by rw [hlk]; exact hlkb) hlo.lo
        rw [hlk] at hck HFIT
        obtain ⟨fb, hfb⟩ : ∃ fb, (chs.getD k []).all (fitsB bn) = fb := ⟨_, rfl⟩
        rw [hfb] at HFIT
        have HLK : Hid ((chs.getD k []).length = lk) := hlk
        have HFB : Hid ((chs.getD k []).all (fitsB bn) = fb) := hfb
        have HALL : Hid (∀ i, i < k → (chs.getD i []).length = total ∧ (chs.getD i []).all (fitsB bn) = true) := hall
        have hkn' : (k : Int) < (n : Int) := by omega
        clear hall hlk hfb hlo hins
        by_cases htt : lk = total
        · have tt : ((lk : Int) != (total : Int)) = false := by simp; omega
          have HTT : Hid (lk = total) := htt
          clear htt
          cases fb with
          | true =>
            go_wp2_with (go_at_call 70; refine HFIT.mono ?_; rintro e w5 ⟨rfl, rfl⟩)
            go_roundg (gk - 1)
            case measure => omega
            case rel =>
              refine ⟨k + 1, by omega, by go_num, rfl, fun i hi => ?_⟩
              rcases (show i < k ∨ i = k by omega) with h1 | rfl
              · exact HALL.out i h1
              · exact ⟨by rw [HLK.out]; exact HTT.out, HFB.out⟩
          | false =>
            have hn : ∀ hh, ¬ RightIn rn bn kn chs hh := by
              intro hh hr
              have h1 : hh.bits = bn := by have := hr.2.1; omega
              have h2 := hr.2.2.2.fit _ hmem
              have h3 : (chs.getD k []).all (fitsB bn) = true := by rw [List.all_eq_true, ← h1]; exact h2
              rw [HFB.out] at h3
              cases h3
            have hfin := HNO.out hn
            clear hn
            go_wp2_with (go_at_call 70; refine HFIT.mono ?_; rintro e w5 ⟨rfl, rfl⟩)
            have h5 := H5.out
            generalize (World.setCell _ _ _) = wf at h5 ⊢
            have x0 := h5.1.cell 0
            have x1 := h5.1.cell 1
            have x2 := h5.1.cell 2
            have x3 := h5.1.cell 3
            have x4 := h5.1.cell 4
            exact bodyPost_ret (v := .tuple #[noHead, .bool false]) (by simp [results, Try.results47, go_sem, x0, x1, x2, x3, x4, noHead]) rfl (hfin wf h5.2)
        · have tt : ((lk : Int) != (total : Int)) = true := by simp; omega
          have hn : ∀ hh, ¬ RightIn rn bn kn chs hh := by
            intro hh hr
            have h1 := (right_maybe hr).2
            have h2 := hr.2.2.2.len _ hmem
            rw [HTOT.out] at h1
            rw [HLK.out] at h2
            omega
          have hfin := HNO.out hn
          clear hn htt HFIT
          go_wp2
          have h5 := H5.out
          generalize (World.setCell _ _ _) = wf at h5 ⊢
          have x0 := h5.1.cell 0
          have x1 := h5.1.cell 1
          have x2 := h5.1.cell 2
          have x3 := h5.1.cell 3
          have x4 := h5.1.cell 4
          exact bodyPost_ret (v := .tuple #[noHead, .bool false]) (by simp [results, Try.results47, go_sem, x0, x1, x2, x3, x4, noHead]) rfl (hfin wf h5.2)
      · have hkn' : k = n := by omega
        subst hkn'
        have hget : ∀ d ∈ chs, d.length = total ∧ d.all (fitsB bn) = true := by
          intro d hd
          obtain ⟨i, hi, rfl⟩ := List.mem_iff_getElem.1 hd
          have := hall i (by rw [← HN.out]; exact hi)
          simpa [List.getD, hi] using this
        have hR : RightS ⟨kn, rn, k, bn, total⟩ chs := by
          refine ⟨?_, HN.out, q5, fun d hd => (hget d hd).1, fun d hd => ?_⟩
          · unfold headOk
            simp only [Bool.and_eq_true, decide_eq_true_eq]
            omega
          · have := (hget d hd).2
            rw [List.all_eq_true] at this
            exact this
        have h6 := five_cells wr (gS + 1) _ _ _ _ _ _ (.int .i64 kn) (.int .i64 rn) (.int .i64 k) (.int .i64 bn) (.int .i64 total) hbR4
        have hfin : ∀ wf, wr.grownBy wf (some (gS + 1)) → InfoOfPost w rn bn kn chs (.returned (.tuple #[.agg #[.int .i64 kn, .int .i64 rn, .int .i64 k, .int .i64 bn, .int .i64 total], .bool true])) wf := fun wf hgf =>
          ⟨grown_new hgx4 hgf (fun q e => by injection e with e; have := HGS.out; omega), kn, rn, k, bn, total, true, rfl, .inr ⟨rfl, ⟨kn, rn, k, bn, total⟩, ⟨rfl, rfl, rfl, hR⟩, rfl, rfl, rfl, rfl, rfl⟩⟩
        clear hR hget hall hgk hins
        go_wp2
        generalize (World.setCell _ _ _) = wf at h6 ⊢
        have x0 := h6.1.cell 0
        have x1 := h6.1.cell 1
        have x2 := h6.1.cell 2
        have x3 := h6.1.cell 3
        have x4 := h6.1.cell 4
        exact bodyPost_ret (v := .tuple #[.agg #[.int .i64 kn, .int .i64 rn, .int .i64 k, .int .i64 bn, .int .i64 total], .bool true]) (by simp [results, Try.results47, go_sem, x0, x1, x2, x3, x4]) rfl (hfin wf h6.2)
end Go.Proofs.Ytncmgnmcggkhnaa

namespace Go.Proofs.Ytncmgnmcggkhnaa
open Go.RowKit

theorem head_str (l : List UInt8) : (⟨#[102, 76, 97, 67]⟩ : ByteArray) ++ ⟨l.toArray⟩ = ⟨([102, 76, 97, 67] ++ l).toArray⟩ := by
  apply ByteArray.ext
  rw [ByteArray.data_append]
  simp

set_option maxHeartbeats 4000000 in
set_option maxRecDepth 20000 in
theorem qblwrite (w : World) (h : Head) (hok : headOk h = true) (hc1 : 1 ≤ h.channels) :
    Calls Try.prog 49 #[.agg (headC h)] w (FrWPost w (headBytes h)) := by
  obtain ⟨p1, p2, p3, p4, p5, p6, p7, p8⟩ := headOk_parts hok
  have hm1 : (h.channels : Int) - 1 = ((h.channels - 1 : Nat) : Int) := by omega
  have hm2 : (h.bits : Int) - 1 = ((h.bits - 1 : Nat) : Int) := by omega
  obtain ⟨wi, hwi⟩ : ∃ wi, w.alloc (.cells (headC h) 77) = wi := ⟨_, rfl⟩
  have hgi : w.grownBy wi none := by rw [← hwi]; exact grown_alloc (grown_refl _ _) _
  have hbi : Box wi w.heap.size (headC h) 77 := by rw [← hwi]; exact Box.new _ _ _
  obtain ⟨gi, hgi0⟩ : ∃ gi, w.heap.size = gi := ⟨_, rfl⟩
  have hsi : wi.heap.size = gi + 1 := by rw [← hwi, ← hgi0]; simp
  obtain ⟨w0, hw0⟩ : ∃ w0, wi.alloc (.cells #[.slice none 0 0, .int .i64 0] 125) = w0 := ⟨_, rfl⟩
  have hg0 : wi.grownBy w0 none := by rw [← hw0]; exact grown_alloc (grown_refl _ _) _
  have hW0 := WrS.start wi
  rw [hw0, hsi] at hW0
  have HNEW : Hid (∀ wr v', Wrote w0 wr (gi + 1) (.slice none 0 0) v' → w.grownBy wr none ∧ Box wr gi (headC h) 77) := fun wr v' h9 => by
    rw [← hsi] at h9
    have h1 := wrote_new hw0 h9
    exact ⟨grown_trans hgi h1, by rw [← hgi0]; exact hbi.kept h1 (by simp)⟩
  have hb0 : gi + 1 + 1 ≤ w0.heap.size := by rw [← hw0]; simp; omega
  have HWI : Hid (w.alloc (.cells #[Value.int .i64 h.block, .int .i64 h.rate, .int .i64 h.channels, .int .i64 h.bits, .int .i64 h.total] 77) = wi) := hwi
  have HGI : Hid (w.heap.size = gi) := hgi0
  have HSI : Hid (wi.heap.size = gi + 1) := hsi
  have HW0 : Hid (wi.alloc (.cells #[.slice none 0 0, .int .i64 0] 125) = w0) := hw0
  have hwz : Wrote w0 w0 (gi + 1) (.slice none 0 0) (.slice none 0 0) := Wrote.refl _ _ _
  clear hwi hgi hbi hgi0 hsi hw0 hg0
  unfold headC
  go_enter Try.func49, Try.ntmps49
  go_upto_region 1 with fail
  rw [HWI.out, HGI.out]
  go_upto_region 2 with fail
  rw [HW0.out, HSI.out]
  clear HWI HW0 HSI
  have H1 : Calls _ _ #[_, .int .i64 1, .int .i64 1] _ _ := qwnum w0 (gi + 1) (gi + 1 + 1) (.slice none 0 0) _ ((1 : Nat) : Int) 1 hW0 hb0 (by simp) (by omega) (by omega)
  go_wp2_with fail
  refine H1.mono ?_
  rintro e w1 ⟨rfl, v1, hs1, hw1⟩
  have hb1 := Nat.le_trans hb0 hw1.kp.size
  have hz1 := hwz.trans hw1
  clear H1
  have H2 : Calls _ _ #[_, .int .i64 0, .int .i64 7] _ _ := qwnum w1 (gi + 1) (gi + 1 + 1) v1 _ ((0 : Nat) : Int) 7 hs1 hb1 (by simp [numBits_length]) (by omega) (by omega)
  go_wp2_with fail
  refine H2.mono ?_
  rintro e w2 ⟨rfl, v2, hs2, hw2⟩
  have hb2 := Nat.le_trans hb1 hw2.kp.size
  have hz2 := hz1.trans hw2
  clear H2
  have H3 : Calls _ _ #[_, .int .i64 34, .int .i64 24] _ _ := qwnum w2 (gi + 1) (gi + 1 + 1) v2 _ ((34 : Nat) : Int) 24 hs2 hb2 (by simp [numBits_length]) (by omega) (by omega)
  go_wp2_with fail
  refine H3.mono ?_
  rintro e w3 ⟨rfl, v3, hs3, hw3⟩
  have hb3 := Nat.le_trans hb2 hw3.kp.size
  have hz3 := hz2.trans hw3
  clear H3
  have H4 : Calls _ _ #[_, .int .i64 h.block, .int .i64 16] _ _ := qwnum w3 (gi + 1) (gi + 1 + 1) v3 _ (h.block : Int) 16 hs3 hb3 (by simp [numBits_length]) (by omega) (by omega)
  have kf4 : w3.cell? ⟨gi, 0, none⟩ = some (.int .i64 h.block) := (HNEW.out w3 _ hz3).2.cell 0
  go_wp2_with fail
  refine H4.mono ?_
  rintro e w4 ⟨rfl, v4, hs4, hw4⟩
  have hb4 := Nat.le_trans hb3 hw4.kp.size
  have hz4 := hz3.trans hw4
  clear H4 kf4
  have H5 : Calls _ _ #[_, .int .i64 h.block, .int .i64 16] _ _ := qwnum w4 (gi + 1) (gi + 1 + 1) v4 _ (h.block : Int) 16 hs4 hb4 (by simp [numBits_length]) (by omega) (by omega)
  have kf5 : w4.cell? ⟨gi, 0, none⟩ = some (.int .i64 h.block) := (HNEW.out w4 _ hz4).2.cell 0
  go_wp2_with fail
  refine H5.mono ?_
  rintro e w5 ⟨rfl, v5, hs5, hw5⟩
  have hb5 := Nat.le_trans hb4 hw5.kp.size
  have hz5 := hz4.trans hw5
  clear H5 kf5
  have H6 : Calls _ _ #[_, .int .i64 0, .int .i64 24] _ _ := qwnum w5 (gi + 1) (gi + 1 + 1) v5 _ ((0 : Nat) : Int) 24 hs5 hb5 (by simp [numBits_length]) (by omega) (by omega)
  go_wp2_with fail
  refine H6.mono ?_
  rintro e w6 ⟨rfl, v6, hs6, hw6⟩
  have hb6 := Nat.le_trans hb5 hw6.kp.size
  have hz6 := hz5.trans hw6
  clear H6
  have H7 : Calls _ _ #[_, .int .i64 0, .int .i64 24] _ _ := qwnum w6 (gi + 1) (gi + 1 + 1) v6 _ ((0 : Nat) : Int) 24 hs6 hb6 (by simp [numBits_length]) (by omega) (by omega)
  go_wp2_with fail
  refine H7.mono ?_
  rintro e w7 ⟨rfl, v7, hs7, hw7⟩
  have hb7 := Nat.le_trans hb6 hw7.kp.size
  have hz7 := hz6.trans hw7
  clear H7
  have H8 : Calls _ _ #[_, .int .i64 h.rate, .int .i64 20] _ _ := qwnum w7 (gi + 1) (gi + 1 + 1) v7 _ (h.rate : Int) 20 hs7 hb7 (by simp [numBits_length]) (by omega) (by omega)
  have kf8 : w7.cell? ⟨gi, 1, none⟩ = some (.int .i64 h.rate) := (HNEW.out w7 _ hz7).2.cell 1
  go_wp2_with fail
  refine H8.mono ?_
  rintro e w8 ⟨rfl, v8, hs8, hw8⟩
  have hb8 := Nat.le_trans hb7 hw8.kp.size
  have hz8 := hz7.trans hw8
  clear H8 kf8
  have H9 : Calls _ _ #[_, .int .i64 ((h.channels - 1 : Nat) : Int), .int .i64 3] _ _ := qwnum w8 (gi + 1) (gi + 1 + 1) v8 _ ((h.channels - 1 : Nat) : Int) 3 hs8 hb8 (by simp [numBits_length]) (by omega) (by omega)
  have kf9 : w8.cell? ⟨gi, 2, none⟩ = some (.int .i64 h.channels) := (HNEW.out w8 _ hz8).2.cell 2
  go_wp2_with fail
  refine H9.mono ?_
  rintro e w9 ⟨rfl, v9, hs9, hw9⟩
  have hb9 := Nat.le_trans hb8 hw9.kp.size
  have hz9 := hz8.trans hw9
  clear H9 kf9
  have H10 : Calls _ _ #[_, .int .i64 ((h.bits - 1 : Nat) : Int), .int .i64 5] _ _ := qwnum w9 (gi + 1) (gi + 1 + 1) v9 _ ((h.bits - 1 : Nat) : Int) 5 hs9 hb9 (by simp [numBits_length]) (by omega) (by omega)
  have kf10 : w9.cell? ⟨gi, 3, none⟩ = some (.int .i64 h.bits) := (HNEW.out w9 _ hz9).2.cell 3
  go_wp2_with fail
  refine H10.mono ?_
  rintro e w10 ⟨rfl, v10, hs10, hw10⟩
  have hb10 := Nat.le_trans hb9 hw10.kp.size
  have hz10 := hz9.trans hw10
  clear H10 kf10
  have H11 : Calls _ _ #[_, .int .i64 h.total, .int .i64 36] _ _ := qwnum w10 (gi + 1) (gi + 1 + 1) v10 _ (h.total : Int) 36 hs10 hb10 (by simp [numBits_length]) (by omega) (by omega)
  have kf11 : w10.cell? ⟨gi, 4, none⟩ = some (.int .i64 h.total) := (HNEW.out w10 _ hz10).2.cell 4
  go_wp2_with fail
  refine H11.mono ?_
  rintro e w11 ⟨rfl, v11, hs11, hw11⟩
  have hb11 := Nat.le_trans hb10 hw11.kp.size
  have hz11 := hz10.trans hw11
  clear H11 kf11
  have H12 : Calls _ _ #[_, .int .i64 0, .int .i64 128] _ _ := qwnum w11 (gi + 1) (gi + 1 + 1) v11 _ ((0 : Nat) : Int) 128 hs11 hb11 (by simp [numBits_length]) (by omega) (by omega)
  go_wp2_with fail
  refine H12.mono ?_
  rintro e w12 ⟨rfl, v12, hs12, hw12⟩
  have hb12 := Nat.le_trans hb11 hw12.kp.size
  have hz12 := hz11.trans hw12
  clear H12
  have hL : (((((((((((([] : List Bool) ++ numBits ((1 : Nat) : Int) 1) ++ numBits ((0 : Nat) : Int) 7) ++ numBits ((34 : Nat) : Int) 24) ++ numBits (h.block : Int) 16) ++ numBits (h.block : Int) 16) ++ numBits ((0 : Nat) : Int) 24) ++ numBits ((0 : Nat) : Int) 24) ++ numBits (h.rate : Int) 20) ++ numBits ((h.channels - 1 : Nat) : Int) 3) ++ numBits ((h.bits - 1 : Nat) : Int) 5) ++ numBits (h.total : Int) 36) ++ numBits ((0 : Nat) : Int) 128 = infoBits h := by
    unfold infoBits
    simp only [List.append_assoc, List.nil_append]
  rw [hL] at hs12
  have HST := qwstring w12 (gi + 1) (gi + 1 + 1) v12 _ hs12 (by rw [infoBits_length]; omega)
  have hgf := (HNEW.out w12 v12 hz12).1
  have hstr := head_str (pack (infoBits h))
  have hsz : (⟨(pack (infoBits h)).toArray⟩ : ByteArray).size = 38 := by show (pack (infoBits h)).toArray.size = 38; rw [List.size_toArray, pack_length, infoBits_length]
  have hpost : FrWPost w (headBytes h) (.returned (.string ⟨(headBytes h).toArray⟩)) w12 := ⟨rfl, hgf⟩
  have HSTR : Hid ((⟨#[102, 76, 97, 67]⟩ : ByteArray) ++ ⟨(pack (infoBits h)).toArray⟩ = ⟨(headBytes h).toArray⟩) := hstr
  clear hs1 hs2 hs3 hs4 hs5 hs6 hs7 hs8 hs9 hs10 hs11 hs12 hL hgf hstr hw1 hw2 hw3 hw4 hw5 hw6 hw7 hw8 hw9 hw10 hw11 hw12 hz1 hz2 hz3 hz4 hz5 hz6 hz7 hz8 hz9 hz10 hz11 hz12
  go_wp2_with (go_at_call 73; refine HST.mono ?_; rintro e w13 ⟨rfl, rfl⟩)
  rw [HSTR.out]
  exact bodyPost_ret (v := .string ⟨(headBytes h).toArray⟩) (by simp [results, Try.results49, go_sem]) rfl hpost
end Go.Proofs.Ytncmgnmcggkhnaa

namespace Go.Proofs.Ytncmgnmcggkhnaa
open Go.RowKit

def EncPost (w : World) (rate bits block : Int) (chs : List (List Int)) (e : Ending) (w' : World) : Prop :=
  w.grownBy w' none ∧ ((∃ h, RightIn rate bits block chs h ∧ e = .returned (.tuple #[.string ⟨(encode h chs).toArray⟩, .int .i64 0])) ∨ ((∀ h, ¬ RightIn rate bits block chs h) ∧ e = .returned (.tuple #[.string ⟨#[]⟩, .int .i64 1])))

theorem cut_chunk (b k total : Nat) (chs : List (List Int)) (h : ∀ c ∈ chs, c.length = total) : cutAll (k * b) (min (k * b + b) total) chs = chunk b k chs := by
  unfold cutAll chunk
  refine List.map_congr_left (fun c hc => ?_)
  have hl := h c hc
  rcases Nat.le_total (k * b + b) total with h1 | h1
  · rw [Nat.min_eq_left h1, Nat.add_sub_cancel_left]
  · rw [Nat.min_eq_right h1, List.take_of_length_le (by rw [List.length_drop, hl]; exact Nat.le_refl _), List.take_of_length_le (by rw [List.length_drop, hl]; omega)]

theorem BldS.kp {w w' : World} {gb base : Nat} {p v : Value} {bs : List UInt8} (h : BldS w gb base p v bs) (hg : w.grownBy w' none) : BldS w' gb base p v bs :=
  ⟨h.box.kept hg (by simp), ownsRow_kp h.row (Kp.ofNone (S := fun _ => False) hg) (fun _ _ e => e), h.lt, h.ptr⟩

theorem flat_succ (h : Head) (chs : List (List Int)) (k : Nat) : (List.range (k + 1)).flatMap (encFr h chs) = (List.range k).flatMap (encFr h chs) ++ encFr h chs k := by
  rw [List.range_succ, List.flatMap_append]
  simp

set_option maxHeartbeats 4000000 in
set_option maxRecDepth 20000 in
theorem qencode (w : World) (v : Value) (rate bits block : Int) (chs : List (List Int)) (h : Ins w (fun q => q < w.heap.size) v chs) (hcl : chs.length ≤ 17592186044416) (hlen : ∀ c ∈ chs, c.length ≤ 17592186044416) :
    Calls Try.prog 21 #[.agg #[.int .i64 rate, .int .i64 bits, v], .int .i64 block] w (EncPost w rate bits block chs) := by
  obtain ⟨a, c, rfl⟩ := h.slice
  obtain ⟨n, hn⟩ : ∃ n, chs.length = n := ⟨_, rfl⟩
  rw [hn] at h ⊢
  have HN : Hid (chs.length = n) := hn
  obtain ⟨w0, hw0⟩ : ∃ w0, w.alloc (.cells #[.int .i64 rate, .int .i64 bits, .slice a n c] 26) = w0 := ⟨_, rfl⟩
  have hg0 : w.grownBy w0 none := by rw [← hw0]; exact grown_alloc (grown_refl _ _) _
  obtain ⟨gS, hgS⟩ : ∃ gS, w.heap.size = gS := ⟨_, rfl⟩
  have hbS0 : Box w0 gS #[.int .i64 rate, .int .i64 bits, .slice a n c] 26 := by rw [← hgS, ← hw0]; exact Box.new _ _ _
  have hins0 := h.kept hg0
  have HIO := qinfoof w0 _ _ rate bits block chs hins0 hcl hlen
  have HW0 : Hid (w.alloc (.cells #[.int .i64 rate, .int .i64 bits, .slice a n c] 26) = w0) := hw0
  have HGS : Hid (w.heap.size = gS) := hgS
  have z0 : w0.cell? ⟨gS, 0, none⟩ = some (.int .i64 rate) := hbS0.cell 0
  have z1 : w0.cell? ⟨gS, 1, none⟩ = some (.int .i64 bits) := hbS0.cell 1
  have z2 : w0.cell? ⟨gS, 2, none⟩ = some (.slice a n c) := hbS0.cell 2
  clear hw0 hgS hn
  go_enter Try.func21, Try.ntmps21
  go_upto_region 1 with fail
  rw [HW0.out, HGS.out]
  clear HW0
  go_wp2_with fail
  refine HIO.mono ?_
  rintro e w1 ⟨hg1, b1, b2, b3, b4, b5, ok, rfl, hcase⟩
  have hgg1 := grown_trans hg0 hg1
  have hbS1 := hbS0.kept hg1 (by simp)
  obtain ⟨w2, hw2⟩ : ∃ w2, w1.alloc (.cells #[Value.int .i64 b1, .int .i64 b2, .int .i64 b3, .int .i64 b4, .int .i64 b5] 77) = w2 := ⟨_, rfl⟩
  have hg2 : w1.grownBy w2 none := by rw [← hw2]; exact grown_alloc (grown_refl _ _) _
  obtain ⟨gI, hgI⟩ : ∃ gI, w1.heap.size = gI := ⟨_, rfl⟩
  have hbI2 : Box w2 gI #[Value.int .i64 b1, .int .i64 b2, .int .i64 b3, .int .i64 b4, .int .i64 b5] 77 := by rw [← hgI, ← hw2]; exact Box.new _ _ _
  have hs2 : w2.heap.size = gI + 1 := by rw [← hw2, ← hgI]; simp
  have hgg2 := grown_trans hgg1 hg2
  have hbS2 := hbS1.kept hg2 (by simp)
  have hins2 := h.kept hgg2
  have HW2 : Hid (w1.alloc (.cells #[Value.int .i64 b1, .int .i64 b2, .int .i64 b3, .int .i64 b4, .int .i64 b5] 77) = w2) := hw2
  have HGI : Hid (w1.heap.size = gI) := hgI
  have HS2 : Hid (w2.heap.size = gI + 1) := hs2
  have hSI : gS < gI := by have := hbS1.lt; omega
  clear HIO z0 z1 z2 hg0 hg1 hg2 hw2 hgI hs2 hgg1 hbS0 hbS1 hins0 h
  go_upto_region 2 with fail
  rw [HW2.out, HGI.out]
  clear HW2 HGI
  rcases hcase with ⟨rfl, hno⟩ | ⟨rfl, hh, hR, rfl, rfl, rfl, rfl, rfl⟩
  · have hpost : EncPost w rate bits block chs (.returned (.tuple #[.string ⟨#[]⟩, .int .i64 1])) w2 := ⟨hgg2, .inr ⟨hno, rfl⟩⟩
    clear hno hins2
    go_wp2
    exact bodyPost_ret (v := .tuple #[.string ⟨#[]⟩, .int .i64 1]) (by simp [results, Try.results21, go_sem]) rfl hpost
  have hRS := hR.2.2.2
  obtain ⟨p1, p2, p3, p4, p5, p6, p7, p8⟩ := headOk_parts hRS.ok
  have hblk : block = (hh.block : Int) := hR.2.2.1.symm
  subst hblk
  obtain ⟨w3, hw3⟩ : ∃ w3, w2.alloc (.cells #[.pointer none, .slice none 0 0] 95) = w3 := ⟨_, rfl⟩
  have hg3 : w2.grownBy w3 none := by rw [← hw3]; exact grown_alloc (grown_refl _ _) _
  have hs3 : w3.heap.size = gI + 2 := by rw [← hw3]; simp; have := HS2.out; omega
  have hbld3 : BldS w3 (gI + 1) (gI + 2) (.pointer none) (.slice none 0 0) [] := ⟨by rw [← HS2.out, ← hw3]; exact Box.new _ _ _, World.ownsRow_nil _ _ _ _, by omega, .inl rfl⟩
  have hbS3 := hbS2.kept hg3 (by simp)
  have hbI3 := hbI2.kept hg3 (by simp)
  have hins3 := hins2.kept hg3
  have hgg3 := grown_trans hgg2 hg3
  have HW3 : Hid (w2.alloc (.cells #[.pointer none, .slice none 0 0] 95) = w3) := hw3
  have HBW := qblwrite w3 hh hRS.ok hRS.ch1
  have HRS : Hid (RightS hh chs) := hRS
  have HR : Hid (RightIn rate bits hh.block chs hh) := hR
  have e0 : w3.cell? ⟨gI, 0, none⟩ = some (.int .i64 hh.block) := hbI3.cell 0
  have e1 : w3.cell? ⟨gI, 1, none⟩ = some (.int .i64 hh.rate) := hbI3.cell 1
  have e2 : w3.cell? ⟨gI, 2, none⟩ = some (.int .i64 hh.channels) := hbI3.cell 2
  have e3 : w3.cell? ⟨gI, 3, none⟩ = some (.int .i64 hh.bits) := hbI3.cell 3
  have e4 : w3.cell? ⟨gI, 4, none⟩ = some (.int .i64 hh.total) := hbI3.cell 4
  unfold headC at HBW
  clear hw3 hR hg3 hgg2 hbS2 hbI2 hins2
  go_upto_region 5 with fail
  rw [HW3.out, HS2.out]
  clear HW3
  go_wp2_with (first
    | (go_at_call 49; refine HBW.mono ?_; rintro e w4 ⟨rfl, hg4⟩))
  have hbld4 := hbld3.kp hg4
  have hsz42 : (⟨(headBytes hh).toArray⟩ : ByteArray).size = 42 := by show (headBytes hh).toArray.size = 42; rw [List.size_toArray, headBytes_length]
  have HWS := qbwrite w4 (gI + 1) (gI + 2) _ _ [] ⟨(headBytes hh).toArray⟩ hbld4 (by have := hg4.size; omega) (by simp) (by omega)
  rw [List.nil_append] at HWS
  refine HWS.mono ?_
  rintro e w5 ⟨rfl, v5, hbld5, hk5⟩
  have hk35 : Kp w3 w5 (fun b => b = gI + 1 ∨ gI + 2 ≤ b) := (Kp.ofNone hg4).trans hk5 (fun b hb => .inl hb)
  clear HBW HWS hbld4 hbld3 hg4 hk5 e0 e1 e2 e3 e4
  have hnf := hRS.nframes_le
  have HKB : Hid (∀ k, k ≤ 75 → k * hh.block ≤ 19200) := fun k hk => Nat.le_trans (Nat.mul_le_mul hk p2) (by omega)
  have HGG3 : Hid (w.grownBy w3 none) := hgg3
  have HS3 : Hid (w3.heap.size = gI + 2) := hs3
  have HCD : Hid (∀ b, b < w.heap.size → ¬ (b = gI + 1 ∨ gI + 2 ≤ b)) := fun b hb e => by have := HGS.out; omega
  have HLENN : Hid (∀ i, i < chs.length → (chs.getD i []).length = hh.total) := fun i hi => hRS.len _ (by simp [List.getD, hi])
  clear hs3 hgg3 hlen hcl hsz42
  go_wp2_with fail
  go_loopg [9] (nFrames hh) (fun gk t9 wr => ∃ (k : Nat) (v' : Value), gk + k = nFrames hh ∧ t9 = .int .i64 ((k * hh.block : Nat) : Int) ∧ BldS wr (gI + 1) (gI + 2) (.pointer (some ⟨gI + 1, 0, none⟩)) v' (headBytes hh ++ (List.range k).flatMap (encFr hh chs)) ∧ Kp w3 wr (fun b => b = gI + 1 ∨ gI + 2 ≤ b))
  case atStart => exact ⟨0, v5, rfl, by simp, by simpa using hbld5, hk35⟩
  case round =>
    clear hbld5 hk35
    obtain ⟨k, v', hgk, rfl, hbld, hk⟩ := hrel
    have hbIr := hbI3.kp hk (fun e => by omega)
    have hbSr := hbS3.kp hk (fun e => by omega)
    have hinsr := hins3.kp hk HCD.out
    have e3 : wr.cell? ⟨gI, 3, none⟩ = some (.int .i64 hh.bits) := hbIr.cell 3
    have e4 : wr.cell? ⟨gI, 4, none⟩ = some (.int .i64 hh.total) := hbIr.cell 4
    have z2 : wr.cell? ⟨gS, 2, none⟩ = some (.slice a n c) := hbSr.cell 2
    have hk75 : k ≤ 75 := by omega
    have hkB := HKB.out k hk75
    have hbl : (headBytes hh ++ (List.range k).flatMap (encFr hh chs)).length ≤ 6000 := by
      have h1 := hRS.frames_len k
      rw [List.length_append, headBytes_length]
      omega
    have hiff := hRS.nframes k
    obtain ⟨f, hf⟩ : ∃ f, k * hh.block = f := ⟨_, rfl⟩
    rw [hf] at hiff hkB ⊢
    have HF : Hid (k * hh.block = f) := hf
    clear hf
    by_cases hlt : f < hh.total
    · have hkn : k < nFrames hh := hiff.2 hlt
      have HFR := hRS.frame k hkn []
      obtain ⟨t, ht⟩ : ∃ t, min (f + hh.block) hh.total = t := ⟨_, rfl⟩
      have hft : f < t := by omega
      have htn : t ≤ hh.total := by omega
      have HB := qbetween wr _ _ chs hh.total f t hinsr (by rw [hRS.ch]; exact hRS.ch1) (by rw [hRS.ch]; exact p5) HLENN.out hft htn
      have hcut : cutAll f t chs = chunk hh.block k chs := by rw [← ht, ← HF.out]; exact cut_chunk hh.block k hh.total chs hRS.len
      rw [hcut] at HB
      have HT : Hid (min (f + hh.block) hh.total = t) := ht
      obtain ⟨ck, hck⟩ : ∃ ck, chunk hh.block k chs = ck := ⟨_, rfl⟩
      rw [hck] at HB
      have hckl : ck.length = n := by rw [← hck, ← HN.out]; unfold chunk; rw [List.length_map]
      have hcnt := hRS.chunk_len k
      rw [hck, HF.out] at hcnt
      have HHOLD := hRS.chunk_hold k (by rw [HF.out]; exact hlt)
      rw [hck, HF.out] at HHOLD
      have HCK : Hid (chunk hh.block k chs = ck) := hck
      have hfits := holdAll_fits _ _ _ _ HHOLD
      have hck3 : ∀ i, i < ck.length → 1 ≤ (ck.getD i []).length ∧ (ck.getD i []).length ≤ 256 ∧ Abs 32768 (ck.getD i []) := by
        intro i hi
        have h1 := hfits (ck.getD i []) (by simp [List.getD, hi])
        refine ⟨by omega, by omega, fun x hx => ?_⟩
        exact fits_bound hh.bits p7 x (h1.2 x hx)
      have HCK3 : Hid _ := hck3
      have HCKL : Hid (ck.length = n) := hckl
      have tlt : decide ((f : Int) < (hh.total : Int)) = true := decide_eq_true (by omega)
      have hnn : n = hh.channels := by rw [← HN.out]; exact hRS.ch
      have HNN : Hid (n = hh.channels) := hnn
      clear ht hcut hck hckl hcnt HHOLD hfits hck3 hiff HFR hnn
      go_upto_region 9 with fail
      go_cut [10] (fun s10 wx => BetPost wr (fun q => q < w.heap.size) ck (.returned s10) wx)
      case first =>
        have HBH : Hid (Calls Try.prog 50 #[.slice a n c, .int .i64 f, .int .i64 t] wr (BetPost wr (fun q => q < w.heap.size) ck)) := HB
        clear HB
        go_wp2_with fail
        · have e5 : t = hh.total := by have := HT.out; omega
          have HB := HBH.out
          rw [e5] at HB
          clear e5
          refine HB.mono ?_
          rintro e w6 hb6
          obtain ⟨g6, rfl, _⟩ := id hb6
          clear HB
          go_wp2
          go_meet
          case rel => exact hb6
        · have e5 : (t : Int) = (f : Int) + (hh.block : Int) := by have := HT.out; omega
          have HB := HBH.out
          rw [e5] at HB
          clear e5
          refine HB.mono ?_
          rintro e w6 hb6
          obtain ⟨g6, rfl, _⟩ := id hb6
          clear HB
          go_wp2
          go_meet
          case rel => exact hb6
      case rest =>
        obtain ⟨g6, hs10, hg6, _, _, hview⟩ := hcut
        injection hs10 with hs10
        subst hs10
        rw [HCKL.out] at hview ⊢
        have hgwl : wr.heap.size ≤ wc.heap.size := hg6.size
        have hchin : ChIn wc.drew (.slice (some ⟨g6, 0, none⟩) n n) ck := Views.chIn hview HCK3.out
        have HFW := qfrwrite wc.drew _ ck hh.bits k p7 (by omega) (by rw [HCKL.out, HNN.out]; exact hRS.ch1) (by rw [HCKL.out, HNN.out]; exact p5) hchin
        have hfb : frameBytes (modeOf ck.length) k (ck.headD []).length hh.bits (ck.map (shortest hh.bits)) = encFr hh chs k := by
          unfold encFr frameOf
          rw [HCK.out, HCKL.out, HNN.out]
        rw [hfb] at HFW
        have hbldc := hbld.kp (grown_trans hg6 (grown_drew (grown_refl wc none)))
        have e3c : wc.cell? ⟨gI, 3, none⟩ = some (.int .i64 hh.bits) := hg6.cell e3 (by simp)
        have hdiv : (f : Int) / (hh.block : Int) = (k : Int) := by
          have h9 := HF.out
          rw [← h9, Int.natCast_mul]
          exact Int.mul_ediv_cancel _ (by omega)
        have hfl : (⟨(encFr hh chs k).toArray⟩ : ByteArray).size ≤ 1100 := by
          show (encFr hh chs k).toArray.size ≤ 1100
          rw [List.size_toArray]
          have := hRS.encFr_le k
          omega
        have HWR := fun w7 (hg7 : wc.drew.grownBy w7 none) => qbwrite w7 (gI + 1) (gI + 2) _ _ _ ⟨(encFr hh chs k).toArray⟩ (hbldc.kp hg7) (by have h1 := hg7.size; have h2 := hk.size; have h3 := HS3.out; have h4 : wc.drew.heap.size = wc.heap.size := rfl; omega) (by omega) (by omega)
        have hkw : ∀ w7 w8, wc.drew.grownBy w7 none → Kp w7 w8 (fun b => b = gI + 1 ∨ gI + 2 ≤ b) → Kp w3 w8 (fun b => b = gI + 1 ∨ gI + 2 ≤ b) := fun w7 w8 h7 h8 =>
          (hk.trans (Kp.ofNone (S := fun _ => False) (grown_trans hg6 (grown_trans (grown_drew (grown_refl wc none)) h7))) (fun b e => e.elim)).trans h8 (fun b hb => .inl hb)
        have HKW : Hid _ := hkw
        have hbz : hh.block ≠ 0 := by omega
        have hwk : IntKind.i64.wrap (k : Int) = (k : Int) := by rw [IntKind.wrap_i64]; omega
        have hbz2 : ((hh.block : Int) == 0) = false := by simp; omega
        clear hbld hk hview hchin hg6 hfb hbldc hkw HB e3 z2
        go_upto_region 10 with fail
        go_region_with (first
          | (go_at_call 51; refine HFW.mono ?_; rintro e w7 ⟨rfl, hg7⟩)
          | (go_at_call 48; refine (HWR w7 hg7).mono ?_; rintro e w8 ⟨rfl, v8, hbld8, hk8⟩))
        all_goals
          have hk38 := HKW.out w7 w8 hg7 hk8
          clear HFW HWR hk8 hg7
          go_wp2
          go_roundg (gk - 1)
          case measure => omega
          case rel => exact ⟨k + 1, v8, by omega, by rw [Nat.succ_mul, HF.out]; go_num, by rw [flat_succ, ← List.append_assoc]; exact hbld8, hk38⟩
    · have hkn : k = nFrames hh := by
        have h1 : ¬ k < nFrames hh := fun e => hlt (hiff.1 e)
        omega
      subst hkn
      have tlt : decide ((f : Int) < (hh.total : Int)) = false := decide_eq_false (by omega)
      have HST := qbstring wr (gI + 1) (gI + 2) _ v' _ hbld (fun e => by have := congrArg List.length e; rw [List.length_append, headBytes_length] at this; simp at this)
      have hfin : ∀ wf, Below (gI + 2) wr wf → EncPost w rate bits hh.block chs (.returned (.tuple #[.string ⟨(encode hh chs).toArray⟩, .int .i64 0])) wf := by
        intro wf hbel
        have h1 : Kp wr wf (fun b => b = gI + 1 ∨ gI + 2 ≤ b) := ⟨hbel.os, hbel.tape, hbel.output, hbel.size, fun b hb hn => hbel.block b (by omega)⟩
        have h2 := (hk.trans h1 (fun b hb => .inl hb))
        have h3 : Kp w wf (fun b => b = gI + 1 ∨ gI + 2 ≤ b) := (Kp.ofNone HGG3.out).trans h2 (fun b hb => .inl hb)
        exact ⟨h3.grown (fun b hb => by have := HGS.out; omega), .inl ⟨hh, HR.out, rfl⟩⟩
      have HFIN : Hid _ := hfin
      clear hgk hbld hk hfin hiff hbl hinsr hbSr hbIr
      go_wp2_with fail
      refine HST.mono ?_
      rintro e wf ⟨rfl, hbel⟩
      have hpost := HFIN.out wf hbel
      clear HST hbel
      go_wp2
      exact bodyPost_ret (v := .tuple #[.string ⟨(encode hh chs).toArray⟩, .int .i64 0]) (by simp [results, Try.results21, go_sem, encode]) rfl hpost
end Go.Proofs.Ytncmgnmcggkhnaa
