import Derived.Test.YtncmgnmcggkhnaaG10
import Derived.Deep.RegionLaw
import Derived.BigRegion
namespace Go.Proofs.Ytncmgnmcggkhnaa
open Go.RowKit

theorem decode_long (s : ByteArray) (h : 6000 < s.size) : decode s.data.toList = .err 2 0 := by
  unfold decode
  rw [if_pos (by simpa using h)]

theorem decode_meta (s : ByteArray) (h : s.size ≤ 6000) (hp : pBlocks (bitsOf s.data.toList) = none) : decode s.data.toList = .err 3 0 := by
  unfold decode
  rw [if_neg (by simp; exact h), hp]

def ansOf (h : Head) : Except Nat (List (List Int)) → Answer
  | .error number => .err 4 number
  | .ok chs => if (chs.headD []).length = h.total then .sound h.rate h.bits chs else .err 5 0

theorem decode_frames (s : ByteArray) (hs : s.size ≤ 6000) {h : Head} {rb : List Bool} (hpb : pBlocks (bitsOf s.data.toList) = some (h, rb)) :
    decode s.data.toList = ansOf h (frames h (s.size + 1) 0 0 false (List.replicate h.channels []) (s.data.toList.drop (s.size - rb.length / 8))) := by
  have hl : s.data.toList.length = s.size := by simp
  unfold decode
  rw [if_neg (by omega), hpb, hl]
  rfl

theorem two_new (w : World) (g : Nat) (hg : w.heap.size = g) (c1 c2 : Array Value) (t1 t2 : TypeId) :
    w.grownBy ((w.alloc (.cells c1 t1)).alloc (.cells c2 t2)) none ∧ Box ((w.alloc (.cells c1 t1)).alloc (.cells c2 t2)) g c1 t1 ∧ Box ((w.alloc (.cells c1 t1)).alloc (.cells c2 t2)) (g + 1) c2 t2 := by
  subst hg
  refine ⟨grown_alloc (grown_alloc (grown_refl _ _) _) _, (Box.new w c1 t1).kept (grown_alloc (grown_refl _ none) _) (by simp), ?_⟩
  have := Box.new (w.alloc (.cells c1 t1)) c2 t2
  simpa using this

set_option maxHeartbeats 4000000 in
set_option maxRecDepth 20000 in
theorem rdecode (w : World) (s : ByteArray) (hsz : s.size ≤ maxLen) :
    Calls Try.prog 17 #[.string s] w (DecPost w s) := by
  have hmax : s.size ≤ 9223372036854775807 := hsz
  by_cases hlong : 6000 < s.size
  · have hd := decode_long s hlong
    go_enter Try.func17, Try.ntmps17
    go_wp2
    refine bodyPost_ret (v := .tuple #[noSound, .int .i64 2, .int .i64 0]) (by simp [results, Try.results17, go_sem, noSound]) rfl ⟨grown_alloc (grown_refl _ _) _, ?_⟩
    rw [hd]
    rfl
  have hs : s.size ≤ 6000 := by omega
  clear hlong hmax hsz
  go_enter Try.func17, Try.ntmps17
  go_wp2_with fail
  have hbr0 := Box.new w #[Value.int .i64 0, .int .i64 0, .slice none 0 0] 26
  obtain ⟨r, hr⟩ : ∃ r, w.heap.size = r := ⟨_, rfl⟩
  obtain ⟨wa, hwa⟩ : ∃ wa, w.alloc (.cells #[Value.int .i64 0, .int .i64 0, .slice none 0 0] 26) = wa := ⟨_, rfl⟩
  have hga : w.grownBy wa none := by rw [← hwa]; exact grown_alloc (grown_refl _ _) _
  have hsa : wa.heap.size = w.heap.size + 1 := by rw [← hwa]; simp
  rw [hwa] at hbr0
  have hrd0 : Rd 86 (wa.alloc (.cells #[Value.string s, .int .i64 0, .bool false] 86)) wa.heap.size s 0 false := Box.new wa #[Value.string s, .int .i64 0, .bool false] 86
  rw [hsa] at hrd0
  have hst0 : St 86 (wa.alloc (.cells #[Value.string s, .int .i64 0, .bool false] 86)) (w.heap.size + 1) s (some (bitsOf s.data.toList)) := ⟨0, Nat.zero_le _, rfl, hrd0⟩
  have hbr1 := hbr0.kept (grown_alloc (grown_refl wa none) (.cells #[Value.string s, .int .i64 0, .bool false] 86)) (by simp)
  have hgb : w.grownBy (wa.alloc (.cells #[Value.string s, .int .i64 0, .bool false] 86)) none := grown_alloc hga _
  rw [hwa]
  refine (rblocks _ _ s hs hst0).mono ?_
  rintro e w1 ⟨h, rfl, hg1, hcase⟩
  have hbr2 := hbr1.kept hg1 (fun e => by injection e with e; omega)
  have hgg1 : w.grownBy w1 none := grown_new hgb hg1 (fun g e => by injection e with e; omega)
  have hsz1 : w.heap.size + 2 ≤ w1.heap.size := by have := hg1.size; simp at this; omega
  rw [hr] at hbr2 hst0 hg1 hcase hsz1
  clear hbr0 hbr1 hrd0 hst0 hgb hg1 hsa hga hwa
  obtain ⟨w2, hw2⟩ : ∃ w2, w1.alloc (.cells #[Value.int .i64 h.block, .int .i64 h.rate, .int .i64 h.channels, .int .i64 h.bits, .int .i64 h.total] 87) = w2 := ⟨_, rfl⟩
  have hg2 : w1.grownBy w2 none := by rw [← hw2]; exact grown_alloc (grown_refl _ _) _
  have hgg2 := grown_new hgg1 hg2 (fun g e => by cases e)
  have hbr3 := hbr2.kept hg2 (by simp)
  obtain ⟨gH, hgH⟩ : ∃ gH, w1.heap.size = gH := ⟨_, rfl⟩
  have hbh3 : Box w2 gH (headC h) 87 := by rw [← hgH, ← hw2]; exact Box.new _ _ _
  have hsz2 : w2.heap.size = gH + 1 := by rw [← hw2, ← hgH]; simp
  rw [hgH] at hsz1
  have hcase2 : (∃ rb, pBlocks (bitsOf s.data.toList) = some (h, rb) ∧ St 86 w2 (r + 1) s (some rb)) ∨ pBlocks (bitsOf s.data.toList) = none ∧ w2.cell? ⟨r + 1, 2, none⟩ = some (.bool true) := by
    rcases hcase with ⟨rb, hpb, hst1⟩ | ⟨hnone, hmk⟩
    · exact .inl ⟨rb, hpb, hst1.kept hg2 (by simp)⟩
    · exact .inr ⟨hnone, cell_kept hmk hg2⟩
  have z0 : w2.cell? ⟨r, 0, none⟩ = some (.int .i64 0) := hbr3.cell 0
  have z1 : w2.cell? ⟨r, 1, none⟩ = some (.int .i64 0) := hbr3.cell 1
  have z2 : w2.cell? ⟨r, 2, none⟩ = some (.slice none 0 0) := hbr3.cell 2
  have y0 := hbr3.fz 0
  have y1 := hbr3.fz 1
  have y2 := hbr3.fz 2
  have HW2 : Hid (w1.alloc (.cells #[Value.int .i64 h.block, .int .i64 h.rate, .int .i64 h.channels, .int .i64 h.bits, .int .i64 h.total] 87) = w2) := hw2
  have HGH : Hid (w1.heap.size = gH) := hgH
  have HR : Hid (w.heap.size = r) := hr
  clear hcase hbr2 hgg1 hw2 hgH
  unfold headV
  rw [hr]
  clear hr
  go_upto_region 5 with fail
  rw [HW2.out, HGH.out]
  clear HW2 HGH hg2
  rcases hcase2 with ⟨rb, hpb, hst1⟩ | ⟨hnone, hmk⟩
  rotate_left
  · have hd := decode_meta s hs hnone
    have hf := dec_err hgg2 (by rw [HR.out]; omega) hbr3 hd
    go_wp2
    generalize (World.setCell _ _ (Value.slice none 0 0)) = wf at hf ⊢
    have x0 := hf.1.cell 0
    have x1 := hf.1.cell 1
    have x2 := hf.1.cell 2
    exact bodyPost_ret (v := .tuple #[noSound, .int .i64 3, .int .i64 0]) (by simp [results, Try.results17, go_sem, x0, x1, x2, noSound]) rfl hf.2
  have hm1 : w2.cell? ⟨r + 1, 2, none⟩ = some (.bool false) := hst1.mark
  have hspec := pBlocks_spec hpb (by rw [total_bits]; omega)
  have hc1 := hspec.2.2.2
  have hhok := hspec.2.2.1
  have hc2 : h.channels ≤ 2 := by unfold headOk at hhok; simp at hhok; omega
  go_upto_region 7 with fail
  go_cut [7] (fun s7 wx => ∃ gO gC wy d, s7 = .pointer (some ⟨gO, 0, none⟩) ∧ wx = wy.drewN d ∧ w2.grownBy wy none ∧ gH < gO ∧ gH < gC ∧ gO ≠ gC ∧ Box wy gO #[.int .i64 h.rate, .int .i64 h.bits, .slice (some ⟨gC, 0, none⟩) h.channels h.channels] 26 ∧
      Box wy gC (List.replicate h.channels (Value.slice none 0 0)).toArray 30)
  case first =>
    have e1 : w2.cell? ⟨gH, 1, none⟩ = some (.int .i64 h.rate) := hbh3.cell 1
    have e3 : w2.cell? ⟨gH, 3, none⟩ = some (.int .i64 h.bits) := hbh3.cell 3
    have e2 : w2.cell? ⟨gH, 2, none⟩ = some (.int .i64 h.channels) := hbh3.cell 2
    have hmk1 : ∀ w, (Instr.makeSlice 24 (.int .i64 1) (.int .i64 1)).run Try.prog w = .ok (.slice (some ⟨w.heap.size, 0, none⟩) 1 1) (w.alloc (.cells #[.slice none 0 0] 30)) := fun _ => by kernel_rfl
    have hmk2 : ∀ w, (Instr.makeSlice 24 (.int .i64 2) (.int .i64 2)).run Try.prog w = .ok (.slice (some ⟨w.heap.size, 0, none⟩) 2 2) (w.alloc (.cells #[.slice none 0 0, .slice none 0 0] 30)) := fun _ => by kernel_rfl
    rcases (show h.channels = 1 ∨ h.channels = 2 by omega) with hch | hch
    · have HCH : Hid (h.channels = 1) := hch
      clear hch hmk2
      have e2' : w2.cell? ⟨gH, 2, none⟩ = some (.int .i64 1) := by rw [e2, HCH.out]; rfl
      have HA := two_new w2 _ hsz2 #[Value.slice none 0 0] #[Value.int .i64 h.rate, .int .i64 h.bits, .slice (some ⟨gH + 1, 0, none⟩) 1 1] 30 26
      have HB := two_new w2 _ hsz2 #[Value.int .i64 h.rate, .int .i64 h.bits, .slice (some ⟨gH + 1 + 1, 0, none⟩) 1 1] #[Value.slice none 0 0] 26 30
      have HHA : Hid _ := HA
      have HHB : Hid _ := HB
      clear e2 HA HB
      go_region
      · go_wp2
        go_meet
        case rel =>
          refine ⟨gH + 1 + 1, gH + 1, _, 1, rfl, rfl, HHA.out.1, by omega, by omega, by omega, ?_, ?_⟩
          · rw [HCH.out]; exact HHA.out.2.2
          · rw [HCH.out]; exact HHA.out.2.1
      · go_wp2
        go_meet
        case rel =>
          refine ⟨gH + 1, gH + 1 + 1, _, 1, rfl, rfl, HHB.out.1, by omega, by omega, by omega, ?_, ?_⟩
          · rw [HCH.out]; exact HHB.out.2.1
          · rw [HCH.out]; exact HHB.out.2.2
    · have HCH : Hid (h.channels = 2) := hch
      clear hch hmk1
      have e2' : w2.cell? ⟨gH, 2, none⟩ = some (.int .i64 2) := by rw [e2, HCH.out]; rfl
      have HA := two_new w2 _ hsz2 #[Value.slice none 0 0, .slice none 0 0] #[Value.int .i64 h.rate, .int .i64 h.bits, .slice (some ⟨gH + 1, 0, none⟩) 2 2] 30 26
      have HB := two_new w2 _ hsz2 #[Value.int .i64 h.rate, .int .i64 h.bits, .slice (some ⟨gH + 1 + 1, 0, none⟩) 2 2] #[Value.slice none 0 0, .slice none 0 0] 26 30
      have HHA : Hid _ := HA
      have HHB : Hid _ := HB
      clear e2 HA HB
      go_region
      · go_wp2
        go_meet
        case rel =>
          refine ⟨gH + 1 + 1, gH + 1, _, 1, rfl, rfl, HHA.out.1, by omega, by omega, by omega, ?_, ?_⟩
          · rw [HCH.out]; exact HHA.out.2.2
          · rw [HCH.out]; exact HHA.out.2.1
      · go_wp2
        go_meet
        case rel =>
          refine ⟨gH + 1, gH + 1 + 1, _, 1, rfl, rfl, HHB.out.1, by omega, by omega, by omega, ?_, ?_⟩
          · rw [HCH.out]; exact HHB.out.2.1
          · rw [HCH.out]; exact HHB.out.2.2
  case rest =>
    obtain ⟨gO, gC, wy, d, hs7, hwc, hgy, hHO, hHC, hOC, hbO, hbC⟩ := hcut
    subst hs7
    obtain ⟨base, hbase⟩ : ∃ base, wc.heap.size = base := ⟨_, rfl⟩
    have hgyc : wy.grownBy wc none := by rw [hwc]; exact grown_drewN (grown_refl _ _) d
    have hg2c := grown_trans hgy hgyc
    have hbase' : wy.heap.size = base := by rw [← hbase, hwc]; rfl
    have hOb : gO < base := by rw [← hbase']; exact hbO.lt
    have hCb : gC < base := by rw [← hbase']; exact hbC.lt
    have hrr := HR.out
    have hlie : DLie w r (r + 1) gH gO gC base := ⟨by omega, by omega, by omega, by omega, by omega, by omega, hOb, hCb, by omega, by omega, by omega, by omega, by omega, by omega, by omega, by omega, by omega, by omega, by omega⟩
    have hmem0 : DMem w wc r gH gO gC base h (List.replicate h.channels (Value.slice none 0 0)) (List.replicate h.channels []) := by
      refine ⟨grown_new hgg2 hg2c (fun g e => by cases e), hbr3.kept hg2c (by simp), hbh3.kept hg2c (by simp), hbO.kept hgyc (by simp), hbC.kept hgyc (by simp), by simp, ?_, ?_⟩
      · intro i hi
        rw [List.length_replicate] at hi
        have e1 : (List.replicate h.channels (Value.slice none 0 0)).getD i undef = .slice none 0 0 := by simp [List.getD, hi]
        have e2 : (List.replicate h.channels ([] : List Int)).getD i [] = [] := by simp [List.getD, hi]
        rw [e1, e2]
        exact Own.nil _ _
      · intro i j q hij hj hq
        rw [List.length_replicate] at hj
        have e1 : (List.replicate h.channels (Value.slice none 0 0)).getD i undef = .slice none 0 0 := by simp [List.getD, show i < h.channels by omega]
        rw [e1] at hq
        cases hq
    have hst0 := hst1.kept hg2c (by simp)
    have hsuf := bits_suffix s 0 (Nat.zero_le _) s.data.toList rfl rb hst0 hspec.1 (by have := hspec.2.1; rw [bitsOf_length] at this; exact this)
    have hlen : s.data.toList.length = s.size := by simp
    rw [hlen] at hsuf
    obtain ⟨f0, hf0⟩ : ∃ f0, s.size - rb.length / 8 = f0 := ⟨_, rfl⟩
    have hdf := decode_frames s hs hpb
    rw [hf0] at hdf hsuf
    rw [hsuf] at hst0
    obtain ⟨res, hres⟩ : ∃ res, frames h (s.size + 1) 0 0 false (List.replicate h.channels []) (s.data.toList.drop f0) = res := ⟨_, rfl⟩
    rw [hres] at hdf
    have hfinv : FInv h s res (s.size + 1) 0 0 false (List.replicate h.channels []) f0 :=
      ⟨by omega, by omega, by omega, by omega, by simp, fun j hj => by simp [List.getD, hj], hres.symm⟩
    have hhk : headOk h = true ∧ True := ⟨hhok, trivial⟩
    have hb1 : 16 ≤ h.block ∧ h.block ≤ 256 ∧ 4 ≤ h.bits ∧ h.bits ≤ 16 ∧ h.rate ≤ 655350 ∧ h.total ≤ 1200 := by unfold headOk at hhok; simp at hhok; omega
    have HDF : Hid (decode s.data.toList = ansOf h res) := hdf
    have hbs : base ≤ wc.heap.size := by omega
    clear hdf hres hf0 hsuf hpb hst1 hspec hhok hhk hwc hgyc hg2c hgy hbase' hbO hbC hbr3 hbh3 hgg2 z0 z1 z2 y0 y1 y2 hm1 hsz2 hlen hbase hrr
    go_wp2_with fail
    go_loopg [8, 9, 10] (s.size + 1) (fun gk t8 t9 t10 wr => ∃ (number total : Nat) (ended : Bool) (acc : List (List Int)) (vs : List Value) (f : Nat), t8 = .int .i64 total ∧ t9 = .bool ended ∧ t10 = .int .i64 number ∧
        DMem w wr r gH gO gC base h vs acc ∧ St 86 wr (r + 1) s (some (bitsOf (s.data.toList.drop f))) ∧ base ≤ wr.heap.size ∧ FInv h s res gk number total ended acc f)
    case atStart => exact ⟨0, 0, false, _, _, f0, rfl, rfl, rfl, hmem0, hst0, hbs, hfinv⟩
    case round =>
      clear hmem0 hst0 hbs hfinv
      obtain ⟨number, total, ended, acc, vs, f, rfl, rfl, rfl, hmem, hst, hbs, hfinv⟩ := hrel
      have hfl := hfinv.1
      have hnum : number ≤ 6001 := by have := hfinv.2.2.1; omega
      have htot := hfinv.2.2.2.1
      have hat := (hst.at).1
      rw [bitsOf_length, List.length_drop, show 8 * s.size - 8 * (s.data.toList.length - f) = 8 * f by simp; show 8 * s.size - 8 * (s.size - f) = 8 * f; omega] at hat
      by_cases hf : f < s.size
      rotate_left
      · have hfe : f = s.size := by omega
        have hok := hfinv.stop hfe
        have hal := hfinv.2.2.2.2.1
        have hl0 : (acc.headD []).length = total := by rw [headD_getD]; exact hfinv.2.2.2.2.2.1 0 (by omega)
        have e4 : wr.cell? ⟨gH, 4, none⟩ = some (.int .i64 h.total) := hmem.hd.cell 4
        have o0 : wr.cell? ⟨gO, 0, none⟩ = some (.int .i64 h.rate) := hmem.out.cell 0
        have o1 : wr.cell? ⟨gO, 1, none⟩ = some (.int .i64 h.bits) := hmem.out.cell 1
        have o2 : wr.cell? ⟨gO, 2, none⟩ = some (.slice (some ⟨gC, 0, none⟩) h.channels h.channels) := hmem.out.cell 2
        have t0 : decide ((8 * f : Nat) < (8 * s.size : Nat)) = false := decide_eq_false (by omega)
        by_cases htt : total = h.total
        · have hd : decode s.data.toList = .sound h.rate h.bits acc := by rw [HDF.out, hok]; show (if _ then _ else _) = _; rw [if_pos (by omega)]
          have h3 := three_cells wr r _ _ _ _ (.int .i64 h.rate) (.int .i64 h.bits) (.slice (some ⟨gC, 0, none⟩) h.channels h.channels) hmem.res
          have hsubs := hmem.subs hlie (by rw [HR.out]; have := hlie.rb; omega) (by rw [hal, hmem.len]) hc2
          have hfin : ∀ wf, wr.grownBy wf (some r) → DecPost w s (.returned (.tuple #[.agg #[.int .i64 h.rate, .int .i64 h.bits, .slice (some ⟨gC, 0, none⟩) h.channels h.channels], .int .i64 0, .int .i64 0])) wf := by
            intro wf hgf
            refine ⟨grown_new hmem.grow hgf (fun g e => by injection e with e; rw [HR.out]; omega), ?_⟩
            rw [hd]
            refine ⟨_, vs, rfl, ?_⟩
            have hne : ∀ q, Value.ownBlock (.slice (some ⟨gC, 0, none⟩) h.channels h.channels) = some q → some q ≠ some r := fun q hq e => by
              have e1 : gC = q := by simpa [Value.ownBlock] using hq
              injection e with e
              have := hlie.cr
              omega
            refine ⟨World.ownsRow.kept hsubs.row hgf (.inr (hne gC rfl)), hsubs.len, fun i hi => ?_, hsubs.apartL, hsubs.apartV⟩
            refine World.ownsRow.kept (hsubs.own i hi) hgf ?_
            cases hq : (vs.getD i undef).ownBlock with
            | none => exact .inl rfl
            | some q =>
              refine .inr (fun e => ?_)
              injection e with e
              have := ((hmem.own i hi).lt q hq).1
              have := hlie.rb
              omega
          have z0 : wr.cell? ⟨r, 0, none⟩ = some (.int .i64 0) := hmem.res.cell 0
          have z1 : wr.cell? ⟨r, 1, none⟩ = some (.int .i64 0) := hmem.res.cell 1
          have z2 : wr.cell? ⟨r, 2, none⟩ = some (.slice none 0 0) := hmem.res.cell 2
          have y0 := hmem.res.fz 0
          have y1 := hmem.res.fz 1
          have y2 := hmem.res.fz 2
          have tt : ((total : Int) != (h.total : Int)) = false := by simp; omega
          clear hd hok hfinv hsubs hmem hst
          go_wp2
          generalize (World.setCell _ _ (Value.slice (some ⟨gC, 0, none⟩) h.channels h.channels)) = wf at h3 ⊢
          have x0 := h3.1.cell 0
          have x1 := h3.1.cell 1
          have x2 := h3.1.cell 2
          exact bodyPost_ret (v := .tuple #[.agg #[.int .i64 h.rate, .int .i64 h.bits, .slice (some ⟨gC, 0, none⟩) h.channels h.channels], .int .i64 0, .int .i64 0]) (by simp [results, Try.results17, go_sem, x0, x1, x2]) rfl (hfin wf h3.2)
        · have hd : decode s.data.toList = .err 5 0 := by rw [HDF.out, hok]; show (if _ then _ else _) = _; rw [if_neg (by omega)]
          have tt : ((total : Int) != (h.total : Int)) = true := by simp; omega
          have z0 : wr.cell? ⟨r, 0, none⟩ = some (.int .i64 0) := hmem.res.cell 0
          have z1 : wr.cell? ⟨r, 1, none⟩ = some (.int .i64 0) := hmem.res.cell 1
          have z2 : wr.cell? ⟨r, 2, none⟩ = some (.slice none 0 0) := hmem.res.cell 2
          have y0 := hmem.res.fz 0
          have y1 := hmem.res.fz 1
          have y2 := hmem.res.fz 2
          have hf := dec_err hmem.grow (by rw [HR.out]; omega) hmem.res hd
          clear hd hok hfinv hmem hst
          go_wp2
          generalize (World.setCell _ _ (Value.slice none 0 0)) = wf at hf ⊢
          have x0 := hf.1.cell 0
          have x1 := hf.1.cell 1
          have x2 := hf.1.cell 2
          exact bodyPost_ret (v := .tuple #[noSound, .int .i64 5, .int .i64 0]) (by simp [results, Try.results17, go_sem, x0, x1, x2, noSound]) rfl hf.2
      · have e0 : wr.cell? ⟨gH, 0, none⟩ = some (.int .i64 h.block) := hmem.hd.cell 0
        have e1 : wr.cell? ⟨gH, 1, none⟩ = some (.int .i64 h.rate) := hmem.hd.cell 1
        have e2 : wr.cell? ⟨gH, 2, none⟩ = some (.int .i64 h.channels) := hmem.hd.cell 2
        have e3 : wr.cell? ⟨gH, 3, none⟩ = some (.int .i64 h.bits) := hmem.hd.cell 3
        have e4 : wr.cell? ⟨gH, 4, none⟩ = some (.int .i64 h.total) := hmem.hd.cell 4
        go_wp2_with fail
        refine (rframe wr (r + 1) s h number f hs hfl (by omega) (by omega) hc1 hc2 (by omega) (by omega) (by omega) (by omega) hst).mono ?_
        rintro e w3 ⟨v, σ', rfl, hg3, hst3, hcase⟩
        have hmem3 := hmem.kept hlie hg3
        have hbs3 : base ≤ w3.heap.size := Nat.le_trans hbs hg3.size
        clear e0 e1 e2 e3 e4 hat hst
        rcases hcase with ⟨hp, rfl⟩ | ⟨chs, rest, hp, rfl, hchs⟩
        · have hd : decode s.data.toList = .err 4 number := by rw [HDF.out, hfinv.none hf hp]; rfl
          have hm3 : w3.cell? ⟨r + 1, 2, none⟩ = some (.bool true) := hst3.mark
          have z0 : w3.cell? ⟨r, 0, none⟩ = some (.int .i64 0) := hmem3.res.cell 0
          have z1 : w3.cell? ⟨r, 1, none⟩ = some (.int .i64 0) := hmem3.res.cell 1
          have z2 : w3.cell? ⟨r, 2, none⟩ = some (.slice none 0 0) := hmem3.res.cell 2
          have y0 := hmem3.res.fz 0
          have y1 := hmem3.res.fz 1
          have y2 := hmem3.res.fz 2
          have hf := dec_err hmem3.grow (by rw [HR.out]; omega) hmem3.res hd
          clear hfinv hmem hp
          go_wp2
          generalize (World.setCell _ _ (Value.slice none 0 0)) = wf at hf ⊢
          have x0 := hf.1.cell 0
          have x1 := hf.1.cell 1
          have x2 := hf.1.cell 2
          exact bodyPost_ret (v := .tuple #[noSound, .int .i64 4, .int .i64 number]) (by simp [results, Try.results17, go_sem, x0, x1, x2, noSound]) rfl hf.2
        · have hm3 : w3.cell? ⟨r + 1, 2, none⟩ = some (.bool false) := hst3.mark
          have hsp := pFrame_spec hp
          have hcl := hsp.1
          obtain ⟨n, hn⟩ : ∃ n, (chs.getD 0 []).length = n := ⟨_, rfl⟩
          have hn2 : 1 ≤ n ∧ n ≤ 256 ∧ ∀ j, j < h.channels → (chs.getD j []).length = n := by
            obtain ⟨_, n', k', h1, h2, h3, _⟩ := hsp
            have : n' = n := by rw [← hn, h3 0 (by omega)]
            subst this
            exact ⟨h1, by omega, h3⟩
          have hchs' := hchs
          obtain ⟨lg, lcap, rfl, hlg, hcells⟩ := hchs'
          obtain ⟨g0, cap0, hl0, hrow0⟩ := hcells 0 (by omega)
          rw [hn] at hl0
          have hover := fun ho => hfinv.over hf hp ho
          have hnext := fun ho => hfinv.next hc1 hf hp ho
          rw [hn] at hover hnext
          have HN : Hid ((chs.getD 0 []).length = n) := hn
          have HCL : Hid (chs.length = h.channels) := hcl
          clear hn hsp hcells hrow0 hcl
          have hlen0 : (0 : Int) < (chs.length : Int) := by have := HCL.out; omega
          have t0 : decide ((8 * f : Nat) < (8 * s.size : Nat)) = true := decide_eq_true (by omega)
          by_cases hov : ended = true ∨ 1200 < total + n
          · have hd : decode s.data.toList = .err 4 number := by rw [HDF.out, hover hov]; rfl
            have z0 : w3.cell? ⟨r, 0, none⟩ = some (.int .i64 0) := hmem3.res.cell 0
            have z1 : w3.cell? ⟨r, 1, none⟩ = some (.int .i64 0) := hmem3.res.cell 1
            have z2 : w3.cell? ⟨r, 2, none⟩ = some (.slice none 0 0) := hmem3.res.cell 2
            have y0 := hmem3.res.fz 0
            have y1 := hmem3.res.fz 1
            have y2 := hmem3.res.fz 2
            have hf := dec_err hmem3.grow (by rw [HR.out]; omega) hmem3.res hd
            clear hfinv hmem hp hover hnext hchs hd
            cases ended
            · have tt : decide ((1200 : Int) < (total : Int) + (n : Int)) = true := decide_eq_true (by simp at hov; omega)
              clear hov
              go_wp2
              generalize (World.setCell _ _ (Value.slice none 0 0)) = wf at hf ⊢
              have x0 := hf.1.cell 0
              have x1 := hf.1.cell 1
              have x2 := hf.1.cell 2
              exact bodyPost_ret (v := .tuple #[noSound, .int .i64 4, .int .i64 number]) (by simp [results, Try.results17, go_sem, x0, x1, x2, noSound]) rfl hf.2
            · clear hov
              go_wp2
              generalize (World.setCell _ _ (Value.slice none 0 0)) = wf at hf ⊢
              have x0 := hf.1.cell 0
              have x1 := hf.1.cell 1
              have x2 := hf.1.cell 2
              exact bodyPost_ret (v := .tuple #[noSound, .int .i64 4, .int .i64 number]) (by simp [results, Try.results17, go_sem, x0, x1, x2, noSound]) rfl hf.2
          · obtain ⟨f', hrest, hfinv'⟩ := hnext hov
            have hend : ended = false := by cases ended <;> simp at hov ⊢
            have htn : total + n ≤ 1200 := by omega
            subst hend
            have tt : decide ((1200 : Int) < (total : Int) + (n : Int)) = false := decide_eq_false (by omega)
            clear hov hover hnext hp
            rw [hrest] at hst3
            obtain ⟨B1, hB1⟩ : ∃ B1, wr.heap.size = B1 := ⟨_, rfl⟩
            have hBB : base ≤ B1 := by omega
            rw [hB1] at hchs
            have hal := hfinv.2.2.2.2.1
            have hac := hfinv.2.2.2.2.2.1
            have hin0 : InInv w w3 s r (r + 1) gH gO gC base B1 h (.slice (some ⟨lg, 0, none⟩) chs.length lcap) acc chs (bitsOf (s.data.toList.drop f')) 0 :=
              ⟨acc, vs, hmem3, hst3, hbs3, hchs, GrownUpto.start _ _ _ hal, fun j q _ hj hq => by have := ((hmem.own j (by rw [hmem.len]; exact hj)).lt q hq).2; omega⟩
            clear hmem hmem3 hst3 hbs3 hchs hfinv hbs hB1 hrest hg3
            go_wp2_with fail
            obtain ⟨wo, rfl⟩ : ∃ wo : World, wo = wr := ⟨_, rfl⟩
            obtain ⟨ko, rfl⟩ : ∃ ko : Nat, ko = gk := ⟨_, rfl⟩
            go_loopg [12] h.channels (fun gq i wq => ∃ k : Nat, gq + k = h.channels ∧ i = .int .i64 k ∧ InInv w wq s r (r + 1) gH gO gC base B1 h (.slice (some ⟨lg, 0, none⟩) chs.length lcap) acc chs (bitsOf (s.data.toList.drop f')) k)
            case atStart => exact ⟨0, rfl, rfl, hin0⟩
            case round =>
              clear hin0 hm3 hl0
              obtain ⟨k, hgq, rfl, acc', vs', hmem', hst', hbs', hchs', hup, hF⟩ := hrel
              have hchs2 := hchs'
              obtain ⟨lg', lcap', elg, hlg', hcells⟩ := hchs2
              obtain ⟨rfl, rfl⟩ : lg = lg' ∧ lcap = lcap' := by injection elg with e1 e2 e3; injection e1 with e1; injection e1 with e1; exact ⟨e1, e3⟩
              clear elg
              have e2 : wr.cell? ⟨gH, 2, none⟩ = some (.int .i64 h.channels) := hmem'.hd.cell 2
              by_cases hk : k < h.channels
              · obtain ⟨g1, cap1, hlk, hrowk⟩ := hcells k (by rw [HCL.out]; exact hk)
                have hcn := hn2.2.2 k hk
                rw [hcn] at hlk hrowk
                have hownk := hmem'.own k (by rw [hmem'.len]; exact hk)
                have hacck : acc'.getD k [] = acc.getD k [] := by rw [hup.2 k hk, if_neg (by omega)]
                have hownk' := hownk
                rw [hacck] at hownk'
                obtain ⟨a9, c9, hV⟩ := own_slice hownk'
                rw [hac k hk] at hV
                have ck : wr.cell? ⟨gC, k, none⟩ = some (.slice a9 total c9) := by
                  rw [hmem'.row.cell k, ← hV]
                  simp [List.getD, show k < vs'.length by rw [hmem'.len]; exact hk]
                have fk := hmem'.row.fz k
                have o2 : wr.cell? ⟨gO, 2, none⟩ = some (.slice (some ⟨gC, 0, none⟩) h.channels h.channels) := hmem'.out.cell 2
                have hlenk : (k : Int) < (chs.length : Int) := by have := HCL.out; omega
                obtain ⟨i0, hi, hz0, hz1, hz2⟩ := info_parts Try.info3
                have HI : Hid _ := hi
                have HZ0 : Hid _ := hz0
                have HZ1 : Hid _ := hz1
                have HZ2 : Hid _ := hz2
                clear hi hz0 hz1 hz2
                obtain ⟨xs, hxs⟩ : ∃ xs, acc.getD k [] = xs := ⟨_, rfl⟩
                obtain ⟨ys, hys⟩ : ∃ ys, chs.getD k [] = ys := ⟨_, rfl⟩
                have hxl : xs.length = total := by rw [← hxs]; exact hac k hk
                have hyl : ys.length = n := by rw [← hys]; exact hcn
                rw [hys] at hrowk
                have HOWN : Hid (wr.ownsRow base 3 1 (.slice a9 total c9) total (xs.map (Value.int .i64))) := by
                  have h9 := hownk'
                  unfold Own at h9
                  rw [hV, hxs, hxl] at h9
                  exact h9
                have HNEWS : Hid (∀ j u, (ys.map (Value.int .i64))[j]? = some u → wr.cell? ((⟨g1, 0, none⟩ : Addr).add j) = some u) := row_news hrowk
                have HINT : Hid (∀ u ∈ ys.map (Value.int .i64), u.oneCell' = true) := by
                  intro u hu
                  obtain ⟨x, _, rfl⟩ := List.mem_map.1 hu
                  rfl
                have HLN : Hid ((ys.map (Value.int .i64)).length = n * 1) := by show _ = _; rw [List.length_map, hyl]; omega
                have hvne : ∀ q, q < base → some q ≠ (Value.slice a9 total c9).ownBlock := by
                  intro q hq e
                  rw [← hV] at e
                  have := (hownk.lt q e.symm).1
                  omega
                have HNO : Hid (some gO ≠ (Value.slice a9 total c9).ownBlock) := hvne gO hOb
                have HNC : Hid (some gC ≠ (Value.slice a9 total c9).ownBlock) := hvne gC hCb
                have HIN : Hid (∀ w' g cap, wr.grownBy w' (Value.slice a9 total c9).ownBlock → w'.ownsRow base 3 1 (.slice (some ⟨g, 0, none⟩) (total + n) cap) (total + n) (xs.map (Value.int .i64) ++ ys.map (Value.int .i64)) →
                    ((Value.slice a9 total c9).ownBlock = some g ∨ g = wr.heap.size) → InInv w (w'.setCell ⟨gC, k, none⟩ (.slice (some ⟨g, 0, none⟩) (total + n) cap)) s r (r + 1) gH gO gC base B1 h (.slice (some ⟨lg, 0, none⟩) chs.length lcap) acc chs (bitsOf (s.data.toList.drop f')) (k + 1)) := by
                  intro w' g cap hg' hown' hat'
                  rw [← hV] at hg' hat'
                  refine in_step hlie hBB hk hmem' hst' hbs' hchs' hup hF hg' ?_ hat'
                  unfold Own
                  rw [hxs, hys, List.map_append, List.length_append, hxl, hyl]
                  exact hown'
                have HCK : Hid (wr.cell? ⟨gC, k, none⟩ = some (.slice a9 total c9)) := ck
                have HO2 : Hid (wr.cell? ⟨gO, 2, none⟩ = some (.slice (some ⟨gC, 0, none⟩) h.channels h.channels)) := o2
                have HFK : Hid (wr.frozen? ⟨gC, k, none⟩ = false) := fk
                have HCLT : Hid (gC < wr.heap.size) := hmem'.row.lt
                clear hxs hys hxl hyl hownk hownk' hV hacck hvne hrowk hcn hcells hchs' hmem' hst' hup hF
                go_upto_region 19 with fail
                go_region_law ((refine step_append_lies _ rfl (.tmp 80) (.tmp 84) 30 rfl base 3 i0 (.int .i64 0) 1 8 Try.underlying30 HI.out HZ0.out HZ1.out HZ2.out rfl (by decide) (.slice a9 total c9) total (xs.map (Value.int .i64)) (by simp [Act.eval]) HOWN.out ⟨g1, 0, none⟩ n cap1 (ys.map (Value.int .i64)) (by simp [Act.eval]) HLN.out HNEWS.out HINT.out (by omega) (by unfold maxLen; omega) (by omega) hbs' _ rfl ?_; intro g cap w' hown' hgrow hat' hlt'; have q1 : w'.cell? ⟨gO, 2, none⟩ = some (.slice (some ⟨gC, 0, none⟩) h.channels h.channels) := hgrow.cell HO2.out HNO.out; have q2 : w'.cell? ⟨gC, k, none⟩ = some (.slice a9 total c9) := hgrow.cell HCK.out HNC.out; have q3 : w'.frozen? ⟨gC, k, none⟩ = false := (World.frozen?_of_block (a := ⟨gC, k, none⟩) (hgrow.block gC HCLT.out HNC.out)).trans HFK.out))
                all_goals
                  have hin := HIN.out w' g cap ⟨hgrow.os, hgrow.tape, hgrow.output, hgrow.size, hgrow.block⟩ hown' hat'
                  clear hown' hgrow hat' hlt' q1 q2 q3 HIN HOWN HNEWS
                  go_wp2
                  go_roundg (gk - 1)
                  case measure => omega
                  case rel => exact ⟨k + 1, by omega, by go_num, hin⟩
              · have hke : k = h.channels := by omega
                have hall := (hke ▸ hup : GrownUpto acc chs acc' h.channels h.channels).all hal HCL.out
                subst hall
                obtain ⟨g0, cap0, hl0, _⟩ := hcells 0 (by rw [HCL.out]; omega)
                rw [HN.out] at hl0
                have e0 : wr.cell? ⟨gH, 0, none⟩ = some (.int .i64 h.block) := hmem'.hd.cell 0
                have tk : decide ((k : Int) < (h.channels : Int)) = false := decide_eq_false (by omega)
                have hlt1 : gH < base := hlie.hb
                go_wp2
                go_quiet (fail)
                go_wp2
                go_roundg (ko - 1)
                case measure => have := hfinv'.2.1; omega
                case rel => exact ⟨number + 1, total + n, decide (n < h.block), _, vs', f', by go_num, rfl, by go_num, hmem'.drewN nq, hst'.drewN nq, hbs', hfinv'⟩
end Go.Proofs.Ytncmgnmcggkhnaa
