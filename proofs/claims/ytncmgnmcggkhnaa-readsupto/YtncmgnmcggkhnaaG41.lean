import Derived.Test.YtncmgnmcggkhnaaG40
import Derived.Deep.RegionHeld
namespace Go.Proofs.Ytncmgnmcggkhnaa
open Go.RowKit

set_option maxHeartbeats 8000000 in
set_option maxRecDepth 20000 in
theorem rdr_read (w : World) (gB gM : Nat) (h : Head) (chs : List (List Int)) (l : List Fr) (pv : Value) (pos nM : Nat) (M : Int → Option Value) (KB : Nat → Prop) (hr : Rdr w gB gM h l pv pos nM M KB) (hf : FrOk h chs l) (hp : pos ≤ h.total) (n : Nat) (hn : n ≤ 9223372036854775807) (hnM : nM ≤ 9223372036854000000) :
    Calls Try.prog 36 #[.pointer (some ⟨gB, 0, none⟩), .int .i64 n] w (RdrPost w gB gM h chs l pv nM KB pos (pos + min n (h.total - pos))) := by
  obtain ⟨b1, b2, b3, b4, b5, b6, b7, b8⟩ := headOk_parts hf.ok
  obtain ⟨i1, hi, hz0, hz1, hz2⟩ := info_parts Try.info30
  have HI : Hid _ := hi
  have HZ0 : Hid _ := hz0
  have HZ1 : Hid _ := hz1
  have HZ2 : Hid _ := hz2
  clear hi hz0 hz1 hz2
  have c0 : w.cell? ⟨gB, 0, none⟩ = some (.int .i64 h.block) := hr.box.cell 0
  have c2 : w.cell? ⟨gB, 2, none⟩ = some (.int .i64 h.channels) := hr.box.cell 2
  have c4 : w.cell? ⟨gB, 4, none⟩ = some (.int .i64 h.total) := hr.box.cell 4
  have c6 : w.cell? ⟨gB, 6, none⟩ = some (.int .i64 pos) := hr.box.cell 6
  obtain ⟨en, hen⟩ : ∃ en, pos + min n (h.total - pos) = en := ⟨_, rfl⟩
  obtain ⟨rem, hrem⟩ : ∃ rem, h.total - pos = rem := ⟨_, rfl⟩
  have hremz : (h.total : Int) - (pos : Int) = (rem : Int) := by omega
  have HEN : Hid (pos + min n (h.total - pos) = en) := hen
  have hent : en ≤ h.total ∧ pos ≤ en := by omega
  have t0 : decide ((n : Int) < 0) = false := decide_eq_false (by omega)
  have HR : Hid (Rdr w gB gM h l pv pos nM M KB) := hr
  rw [hen]
  clear hr hen
  go_enter Try.func36, Try.ntmps36
  go_upto_region 4 with fail
  go_cut [7] (fun s7 wx => s7 = .int .i64 en ∧ wx = w.drew)
  case first =>
    go_region
    all_goals
      go_wp2
      all_goals
        go_meet
        case rel => exact ⟨by have := HEN.out; congr 1; omega, rfl⟩
  case rest =>
  obtain ⟨rfl, hwc⟩ := hcut
  have hgd : w.grownBy wc none := by rw [hwc]; exact grown_drew (grown_refl _ _)
  have hrw : Rdr wc gB gM h l pv pos nM M KB := HR.out.kp (Kp.ofNone (S := fun _ => False) hgd) (fun _ _ e => e)
  have hsz : wc.heap.size = w.heap.size := by rw [hwc]; rfl
  have HSZ : Hid (wc.heap.size = w.heap.size) := hsz
  clear hwc hsz c0 c2 c4 c6 hrem hremz t0
  have c0 : wc.cell? ⟨gB, 0, none⟩ = some (.int .i64 h.block) := hrw.box.cell 0
  have c2 : wc.cell? ⟨gB, 2, none⟩ = some (.int .i64 h.channels) := hrw.box.cell 2
  have c6 : wc.cell? ⟨gB, 6, none⟩ = some (.int .i64 pos) := hrw.box.cell 6
  go_wp2_with (first
    | (at_make; refine wpList_make_full _ rfl _ _ 24 rfl wc.heap.size 30 i1 (.slice none 0 0) 1 Try.underlying24 HI.out HZ0.out HZ1.out _ _ _ _ h.channels rfl rfl rfl rfl ?m1 ?m2 ?m3 ?_))
  case m1 => rw [HZ2.out]; omega
  case m2 => unfold maxLen; omega
  case m3 => exact Nat.le_refl _
  intro w1 hmade hg1
  have hboxC : Box w1 wc.heap.size (List.replicate h.channels (Value.slice none 0 0)).toArray 30 := by
    rcases hmade.2 with ⟨e, _⟩ | ⟨g, cap, cur, e, _, hblk, _, _, hcs, htake⟩
    · cases e
    · simp only [Value.slice.injEq, Option.some.injEq, Addr.mk.injEq, and_true, true_and] at e
      obtain ⟨rfl, rfl⟩ := e
      rw [Nat.mul_one] at hcs htake
      have hr := replicate_of_made hcs htake
      rw [← hr]
      exact hblk
  obtain ⟨gC, hgC⟩ : ∃ gC, wc.heap.size = gC := ⟨_, rfl⟩
  rw [hgC] at hboxC
  rw [hgC]
  have hgC2 : gC = w.heap.size := by rw [← hgC]; exact HSZ.out
  have hgg1 := grown_trans hgd hg1
  have hr1 : Rdr w1 gB gM h l pv pos nM M KB := hrw.kp (Kp.ofNone (S := fun _ => False) hg1) (fun _ _ e => e)
  have HR1 : Hid (Rdr w1 gB gM h l pv pos nM M KB) := hr1
  have HBC : Hid (Box w1 gC (List.replicate h.channels (Value.slice none 0 0)).toArray 30) := hboxC
  have HG1 : Hid (w.grownBy w1 none) := hgg1
  have HGC : Hid (gC = w.heap.size) := hgC2
  clear hmade hboxC hg1 hgd hrw c0 c2 c6 hgC hgC2 hgg1 HI HZ0 HZ1 HZ2
  have c6 : w1.cell? ⟨gB, 6, none⟩ = some (.int .i64 pos) := hr1.box.cell 6
  clear hr1
  obtain ⟨k0, hk0⟩ : ∃ k0, pos / h.block = k0 := ⟨_, rfl⟩
  have hk0z : wrap64 ((pos : Int) / (h.block : Int)) = (k0 : Int) := by
    rw [← hk0]
    have h1 : ((pos : Int) / (h.block : Int)) = ((pos / h.block : Nat) : Int) := by simp
    have h2 : pos / h.block ≤ pos := Nat.div_le_self _ _
    rw [h1]
    unfold wrap64
    omega
  have hk0b : k0 * h.block ≤ pos ∧ pos < k0 * h.block + h.block := by
    have h1 := Nat.div_add_mod pos h.block
    have h2 := Nat.mod_lt pos (show h.block > 0 by omega)
    rw [hk0, Nat.mul_comm] at h1
    omega
  have HK0 : Hid (k0 * h.block ≤ pos ∧ pos < k0 * h.block + h.block) := hk0b
  go_upto_region 7 with fail
  rw [hk0z]
  have hI0 : RdI w w1 gB gM gC h chs l pv nM KB pos en k0 k0 (List.replicate h.channels (.slice none 0 0)) M KB := by
    have hm := CM.start w1 gC (gC + 1) h.channels HBC.out
    have e1 : fillV h.channels [] = List.replicate h.channels (Value.slice none 0 0) := by simp [fillV]
    have e2 : fillX h.channels [] = cutAll pos (min (k0 * h.block) en) chs := by
      unfold fillX cutAll
      rw [List.nil_append, List.length_nil, Nat.sub_zero, ← hf.ch]
      have e3 : min (k0 * h.block) en - pos = 0 := by omega
      rw [e3]
      simp [List.map_const']
    rw [e1, e2] at hm
    refine ⟨Kp.ofNone HG1.out, by rw [Nat.sub_self]; exact HR1.out, fun b hb => .inl hb, hm, by simp, fun b hb => ?_⟩
    have hbC : b = gC := by
      rcases hb with e | ⟨i, hi, hq⟩
      · exact e
      · rw [List.length_replicate] at hi
        have e1 : (List.replicate h.channels (Value.slice none 0 0)).getD i undef = .slice none 0 0 := by simp [List.getD, hi]
        rw [e1] at hq
        cases hq
    rw [hbC, HGC.out]
    exact ⟨Nat.le_refl _, fun e => by have := (HR.out.kb _ e).2; omega⟩
  have hC1 : gC + 1 ≤ w1.heap.size := HBC.out.lt
  have HW1 : Hid (gC + 1 ≤ w1.heap.size) := hC1
  clear hk0z hk0 hk0b hC1 c6 HBC HR1
  go_loopg [9] 1300 (fun gk t9 wr => ∃ (k : Nat) (vs : List Value) (M' : Int → Option Value) (KB' : Nat → Prop), gk + k = k0 + 1300 ∧ k0 ≤ k ∧ t9 = .int .i64 k ∧ gC + 1 ≤ wr.heap.size ∧ RdI w wr gB gM gC h chs l pv nM KB pos en k0 k vs M' KB')
  case atStart => exact ⟨k0, _, M, KB, by omega, Nat.le_refl _, rfl, HW1.out, hI0⟩
  case round =>
    clear hI0 HW1
    obtain ⟨k, vs, M', KB', hgk, hk0k, rfl, hwr, hI⟩ := hrel
    obtain ⟨fs, hfs⟩ : ∃ fs, k * h.block = fs := ⟨_, rfl⟩
    have hfsz : (k : Int) * (h.block : Int) = (fs : Int) := by rw [← hfs]; simp
    by_cases hlt : fs < en
    · have tlt : decide ((fs : Int) < (en : Int)) = true := decide_eq_true (by omega)
      have hkl : k < l.length := (hf.num k).2 (by rw [hfs]; omega)
      have hk12 : k < 1200 := by
        have h1 : k * 1 ≤ k * h.block := Nat.mul_le_mul_left _ (by omega)
        omega
      have hll : l.length ≤ 6000 := by
        rcases Nat.lt_or_ge 6000 l.length with h1 | h1
        · have h2 := (hf.num 6000).1 h1
          have h3 : 6000 * 1 ≤ 6000 * h.block := Nat.mul_le_mul_left _ (by omega)
          omega
        · exact h1
      have hk0fs : pos < fs + h.block := by
        have h1 := HK0.out
        have h2 : k0 * h.block ≤ k * h.block := Nat.mul_le_mul_right _ hk0k
        omega
      obtain ⟨f, hf0⟩ : ∃ f, pos - fs = f := ⟨_, rfl⟩
      obtain ⟨t, ht⟩ : ∃ t, min (en - fs) h.block = t := ⟨_, rfl⟩
      obtain ⟨rm, hrm⟩ : ∃ rm, en - fs = rm := ⟨_, rfl⟩
      have hrmz : (en : Int) - (fs : Int) = (rm : Int) := by omega
      have c6 : wr.cell? ⟨gB, 6, none⟩ = some (.int .i64 pos) := hI.rdr.box.cell 6
      have E1 : Hid ((if IntKind.i64.wrap ((pos : Int) - (fs : Int)) < 0 then (0 : Int) else IntKind.i64.wrap ((pos : Int) - (fs : Int))) = (f : Int)) := by
        show _ = _
        rw [IntKind.wrap_i64]
        split <;> omega
      have E2 : Hid ((if (h.block : Int) < IntKind.i64.wrap (rm : Int) then (h.block : Int) else IntKind.i64.wrap (rm : Int)) = (t : Int)) := by
        show _ = _
        rw [IntKind.wrap_i64]
        split <;> omega
      have HI : Hid (RdI w wr gB gM gC h chs l pv nM KB pos en k0 k vs M' KB') := hI
      have HFR := qframeof wr.drew gB gM h chs l pv pos (nM + (k - k0)) M' KB' k (show Rdr wr.drew gB gM h l pv pos (nM + (k - k0)) M' KB' from ⟨hI.rdr.box, hI.rdr.row, hI.rdr.lt, hI.rdr.map, hI.rdr.kept, hI.rdr.kb⟩) hf hkl hll (by omega)
      have HBT : Hid (∀ (w2 : World) (KB2 : Nat → Prop) (v2 : Value), Views w2 KB2 v2 (l.getD k ([], [])).2 → Calls Try.prog 50 #[v2, .int .i64 f, .int .i64 t] w2 (BetAny w2 KB2 (cutAll f t (l.getD k ([], [])).2))) := by
        intro w2 KB2 v2 hv2
        obtain ⟨hl1, _⟩ := pFrame_spec (hf.frame k hkl)
        have hch1 := hf.ch1
        have hlen : ∀ i, i < (l.getD k ([], [])).2.length → ((l.getD k ([], [])).2.getD i []).length = min h.block (h.total - fs) := by
          intro i hi
          rw [hf.part k hkl i (by omega), hfs, List.length_take, List.length_drop, hf.total i (by omega)]
        exact qbet w2 KB2 v2 _ (min h.block (h.total - fs)) f t hv2 (by omega) (by omega) hlen (by omega) (by omega)
      have HJN : Hid (∀ (w2 w3 : World) (KB2 : Nat → Prop) (M2 : Int → Option Value) (g : Nat), wr.drew.grownBy w2 (some gM) → Rdr w2 gB gM h l pv pos (nM + (k - k0) + 1) M2 KB2 → (∀ b, KB2 b → KB' b ∨ wr.drew.heap.size ≤ b) → w2.grownBy w3 none → w2.heap.size ≤ g → g < w3.heap.size →
          GV w3 (fun q => KB2 q ∨ q = g) (.slice (some ⟨g, 0, none⟩) (cutAll f t (l.getD k ([], [])).2).length (cutAll f t (l.getD k ([], [])).2).length) (cutAll f t (l.getD k ([], [])).2) →
          Calls Try.prog 43 #[.slice (some ⟨gC, 0, none⟩) h.channels h.channels, .slice (some ⟨g, 0, none⟩) (cutAll f t (l.getD k ([], [])).2).length (cutAll f t (l.getD k ([], [])).2).length] w3 (RdNext w gB gM gC h chs l pv nM KB pos en k0 (k + 1))) := by
        rw [← hf0, ← ht]
        intro w2 w3 KB2 M2 g hg2 hr2 hs2 hg3 hwg hgl hgv
        exact rd_join w wr w2 w3 gB gM gC h chs l pv nM M KB pos en k0 k fs vs M' KB' KB2 M2 g HR.out hf hfs hlt hent.1 hent.2 hk0fs hkl hk0k HGC.out hI hwr ⟨hg2.os, hg2.tape, hg2.output, hg2.size, hg2.block⟩ hr2 hs2 hg3 hwg hgl hgv
      have HOM : Hid (gk + k = k0 + 1300 ∧ k < 1200 ∧ k0 ≤ k) := ⟨hgk, hk12, hk0k⟩
      have u1 : fs ≤ 1200 := by omega
      have u2 : pos ≤ 1200 := by omega
      have u3 : en ≤ 1200 := by omega
      have u4 : rm ≤ 1200 := by omega
      have u5 : k ≤ 1200 := by omega
      obtain ⟨cs, hcs⟩ : ∃ cs, cutAll f t (l.getD k ([], [])).2 = cs := ⟨_, rfl⟩
      rw [hcs] at HBT HJN
      obtain ⟨nc, hnc⟩ : ∃ nc, cs.length = nc := ⟨_, rfl⟩
      have HBT2 : Hid (∀ (w2 : World) (KB2 : Nat → Prop) (v2 : Value), Views w2 KB2 v2 (l.getD k ([], [])).2 → Calls Try.prog 50 #[v2, .int .i64 f, .int .i64 t] w2 (BetN w2 KB2 cs nc)) := by
        intro w2 KB2 v2 hv2
        refine (HBT.out w2 KB2 v2 hv2).mono ?_
        rintro e w' ⟨g, h1, h2, h3, h4, h5⟩
        rw [hnc] at h1 h5
        exact ⟨g, h1, h2, h3, h4, h5⟩
      rw [hnc] at HJN
      clear hI HBT hcs hnc hkl hll hk0fs hf0 ht hrm hf hwr hgk hk12 hk0k hfs hp hn hnM hent b1 b3 b4 b5 b6 b7 b8 HEN HR HSZ HG1 HGC HK0 HI
      go_upto_region 10 with fail
      have e1 := E1.out
      have e2 := E2.out
      go_region_held (fun w' => w'.cell? ⟨gB, 6, none⟩ = some (.int .i64 pos)) (go_keep) (first
        | (go_at_call 59; refine HFR.mono ?_; rintro e w2 ⟨v2, M2, KB2, rfl, hg2, hr2, hs2, hv2⟩; have c62 : w2.cell? ⟨gB, 6, none⟩ = some (.int .i64 pos) := hr2.box.cell 6; have HB2 := HBT2.out w2 KB2 v2 hv2; have HR2 : Hid _ := hr2; have HV2 : Hid _ := hv2; have HG2 : Hid _ := hg2; have HS2 : Hid _ := hs2; clear hr2 hv2 hg2 hs2)
        | (go_at_call 50; (try rw [E1.out]); (try rw [E2.out]); refine HB2.mono ?_; rintro e w3 ⟨g3, rfl, hg3, hwg3, hgl3, hgv3⟩; have c63 : w3.cell? ⟨gB, 6, none⟩ = some (.int .i64 pos) := hg3.cell c62 (by simp); have HJ3 := HJN.out w2 w3 KB2 M2 g3 HG2.out HR2.out HS2.out hg3 hwg3 hgl3 hgv3; clear hg3 hwg3 hgl3 hgv3)
        | (go_at_call 43; refine HJ3.mono ?_; intro e w4 hnx; obtain rfl := hnx.1; have c64 : w4.cell? ⟨gB, 6, none⟩ = some (.int .i64 pos) := hnx.pos))
      all_goals
        obtain ⟨_, hwr4, vs4, M4, KB4, hI4⟩ := hnx
        have HI4 : Hid (RdI w w4 gB gM gC h chs l pv nM KB pos en k0 (k + 1) vs4 M4 KB4) := hI4
        clear hI4
        have hom := HOM.out
        go_wp2
        go_roundg (gk - 1)
        case measure => omega
        case rel => exact ⟨k + 1, vs4, M4, KB4, by omega, by omega, by go_num, hwr4, HI4.out⟩
    · have tlt : decide ((fs : Int) < (en : Int)) = false := decide_eq_false (by omega)
      have hge : ¬ fs < en := hlt
      have tlt2 : decide (fs < en) = false := decide_eq_false hlt
      have hle : en ≤ fs := by omega
      have hk0p : k0 ≤ 1200 := by
        have h1 : k0 * 1 ≤ k0 * h.block := Nat.mul_le_mul_left _ (by omega)
        have h2 := HK0.out
        omega
      have hfsb : fs ≤ 640000 := by
        rw [← hfs]
        have h1 : k * h.block ≤ 2500 * 256 := Nat.mul_le_mul (by omega) b2
        omega
      have hmin : min fs en = en := by omega
      have hcm := hI.cm
      rw [hfs, hmin] at hcm
      have hgw : gC + 1 ≤ wr.heap.size := hwr
      have hbx := hI.rdr.box
      have c6 : wr.cell? ⟨gB, 6, none⟩ = some (.int .i64 pos) := hbx.cell 6
      have f6 := hbx.fz 6
      have hsubs := hcm.subs (base' := gC) (Nat.le_refl _) (by omega) (by rw [hI.len]; exact b5)
      have hmv := hI.rdr.move en
      have hgs := grown_set wr gB 6 (.int .i64 en)
      have hgBl : gB < gC := by have := HR.out.box.lt; have := HGC.out; omega
      have hml := HR.out.lt
      rw [hI.len] at hsubs
      have hpost : RdrPost w gB gM h chs l pv nM KB pos en (.returned (.tuple #[.slice (some ⟨gC, 0, none⟩) h.channels h.channels, .int .i64 0])) (wr.setCell ⟨gB, 6, none⟩ (.int .i64 en)) := by
        refine ⟨_, vs, M', KB', rfl, (hI.kp.mono (fun b hb => .inl (.inr hb))).trans (Kp.of hgs) (fun b hb => .inl (.inl (by injection hb))), ⟨hmv.box, hmv.row, hmv.lt, hmv.map.more (by omega), hmv.kept, hmv.kb⟩, hI.sub, ?_, fun b hb => ?_⟩
        · have := hsubs.kept hgs hgBl
          rw [← HGC.out]
          exact this
        · rcases hb with hb | ⟨i, hi, hb⟩
          · have e1 : gC = b := by simpa [Value.ownBlock] using hb
            exact (hI.own b (.inl e1.symm)).2
          · exact (hI.own b (.inr ⟨i, hi, hb⟩)).2
      clear hI hcm hsubs hmv hgs hbx hmin hgk hge hlt
      have HFS : Hid (k * h.block = fs) := hfs
      clear hfs
      go_wp2
      exact bodyPost_ret (v := .tuple #[.slice (some ⟨gC, 0, none⟩) h.channels h.channels, .int .i64 0]) (by simp [results, Try.results36, go_sem]) rfl hpost
end Go.Proofs.Ytncmgnmcggkhnaa
