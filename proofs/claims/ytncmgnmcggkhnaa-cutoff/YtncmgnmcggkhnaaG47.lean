import Derived.Test.YtncmgnmcggkhnaaG32
import Derived.Test.YtncmgnmcggkhnaaG33
import Derived.Test.YtncmgnmcggkhnaaG34
namespace Go.Proofs.Ytncmgnmcggkhnaa
open Go.RowKit

theorem dec_of_err {w w' : World} {s : ByteArray} {e : Ending} {er p : Nat} (hA : decode s.data.toList = .err er p) (h : DecPost w s e w') : e = .returned (.tuple #[.agg #[.int .i64 0, .int .i64 0, .slice none 0 0], .int .i64 er, .int .i64 p]) ∧ w.grownBy w' none := by
  obtain ⟨hg, h⟩ := h
  rw [hA] at h
  exact ⟨h, hg⟩

theorem open_of_err {w w' : World} {s : ByteArray} {e : Ending} {er p : Nat} (hA : decode s.data.toList = .err er p) (h : OpenPost w s e w') : e = .returned (.tuple #[.pointer none, .int .i64 er, .int .i64 p]) ∧ w.grownBy w' none := by
  obtain ⟨hg, h⟩ := h
  rw [hA] at h
  exact ⟨h, hg⟩

set_option maxHeartbeats 4000000 in
set_option maxRecDepth 20000 in
theorem cutoff_walk (w : World) (vr : Value) (raw : List Int) (wide channels size at_ : Int) (more : ByteArray) (h : Rin w vr raw) (hrl : raw.length ≤ 9223372036854775807) (hr64 : ∀ x ∈ raw, -9223372036854775808 ≤ x ∧ x ≤ 9223372036854775807)
    (hw64 : -9223372036854775808 ≤ wide ∧ wide ≤ 9223372036854775807) (hc64 : -9223372036854775808 ≤ channels ∧ channels ≤ 9223372036854775807) (hb64 : -9223372036854775808 ≤ size ∧ size ≤ 9223372036854775807) (ha64 : -9223372036854775808 ≤ at_ ∧ at_ ≤ 9223372036854775807) (hmo : more.size ≤ 140737488351232) :
    Calls Try.prog 11 #[vr, .int .i64 wide, .int .i64 channels, .int .i64 size, .int .i64 at_, .string more] w fun e w' => e = .returned (.bool true) ∧ w.grownBy w' none := by
  have HSO := ksound w vr raw wide channels 7 h hrl hr64 hw64 hc64 (by omega)
  obtain ⟨a, c, rfl, _⟩ := h
  obtain ⟨n, hn⟩ : ∃ n, raw.length = n := ⟨_, rfl⟩
  rw [hn] at HSO ⊢
  clear hn hr64 hw64 hc64 hrl
  go_enter Try.func11, Try.ntmps11
  go_wp2_with fail
  refine HSO.mono ?_
  rintro e w1 ⟨rt, bits, lv, vs, chs, rfl, hg1, hsubs, hM⟩
  clear HSO
  have hch1 : 1 ≤ chs.length := by obtain ⟨_, _, _, _, h5, _⟩ := hM; omega
  have hvl := hsubs.len
  obtain ⟨lg, lcap, hlv, _, _, hcells⟩ := hsubs.cell (by omega)
  subst hlv
  obtain ⟨a0, c0, hv0⟩ := own_slice (hsubs.own 0 (by omega))
  have hl0 := hcells 0 (by omega)
  rw [hv0] at hl0
  obtain ⟨n0, hn0⟩ : ∃ n0, (chs.getD 0 []).length = n0 := ⟨_, rfl⟩
  rw [hn0] at hl0
  obtain ⟨k, hk⟩ : ∃ k, vs.length = k := ⟨_, rfl⟩
  rw [hk] at hsubs ⊢
  have hk1 : 1 ≤ k := by omega
  have hins := hsubs.ins
  clear hk hcells hv0 hn0 hvl
  obtain ⟨w2, hw2⟩ : ∃ w2, w1.alloc (.cells #[.int .i64 rt, .int .i64 bits, .slice (some ⟨lg, 0, none⟩) k lcap] 26) = w2 := ⟨_, rfl⟩
  have hg2 : w1.grownBy w2 none := by rw [← hw2]; exact grown_alloc (grown_refl _ _) _
  obtain ⟨gT, hgT⟩ : ∃ gT, w1.heap.size = gT := ⟨_, rfl⟩
  have hbT : Box w2 gT #[.int .i64 rt, .int .i64 bits, .slice (some ⟨lg, 0, none⟩) k lcap] 26 := by rw [← hgT, ← hw2]; exact Box.new _ _ _
  have hins2 := (hins.kept hg2).mono (D' := fun q => q < w2.heap.size) (fun b _ hb => hb)
  have HEN := kencoded w2 _ rt bits (min n 600) size chs hins2 hM (by omega) hb64
  have HW2 : Hid (w1.alloc (.cells #[.int .i64 rt, .int .i64 bits, .slice (some ⟨lg, 0, none⟩) k lcap] 26) = w2) := hw2
  have HGT : Hid (w1.heap.size = gT) := hgT
  have y0 : w2.cell? ⟨gT, 0, none⟩ = some (.int .i64 rt) := hbT.cell 0
  have y1 : w2.cell? ⟨gT, 1, none⟩ = some (.int .i64 bits) := hbT.cell 1
  have y2 : w2.cell? ⟨gT, 2, none⟩ = some (.slice (some ⟨lg, 0, none⟩) k lcap) := hbT.cell 2
  have HM : Hid (Made rt bits (min n 600) chs) := hM
  clear hw2 hgT hM hsubs hins
  go_upto_region 2 with fail
  rw [HW2.out, HGT.out]
  clear HW2 HGT
  go_wp2_with fail
  refine HEN.mono ?_
  rintro e w3 ⟨hg3, hh, hRS, hhr, hhb, rfl⟩
  have hgr3 := grown_trans hg2 hg3
  have hgg3 := grown_trans hg1 hgr3
  have hel := hRS.encode_len
  have hdec := hRS.decode
  rw [hhr, hhb] at hdec
  have hsz := size_of (encode hh chs)
  have hdt := data_of (encode hh chs)
  have hsnd3 := (hins2.kept hg3).snd
  have hbT3 := hbT.kept hg3 (by simp)
  have hl3 := hgr3.cell hl0 (by simp)
  have HCUT : Hid (∀ k, k < (encode hh chs).length → ∃ e p, decode ((encode hh chs).take k) = .err e p ∧ 3 ≤ e ∧ e ≤ 5 ∧ (k < 42 → e = 3)) := right_cut hRS
  have HMORE : Hid (((encode hh chs).length + 1 + more.data.toList.length > 6000 ∧ decode (encode hh chs ++ 0 :: more.data.toList) = .err 2 0) ∨ ∃ n, decode (encode hh chs ++ 0 :: more.data.toList) = .err 4 n) := right_more hRS more.data.toList
  obtain ⟨st, hst⟩ : ∃ st, (⟨(encode hh chs).toArray⟩ : ByteArray) = st := ⟨_, rfl⟩
  rw [hst] at hsz hdt ⊢
  rw [← hdt] at HCUT HMORE
  have hst60 : 42 ≤ st.size ∧ st.size ≤ 6000 := by omega
  have HCO := kcomes w3 _ rt bits chs st (by unfold maxLen; omega) (by rw [hdt]; exact hdec) hsnd3 (by obtain ⟨_, _, _, _, h5, _⟩ := HM.out; omega) (fun d hd => by have := (HM.out.2.2.2.2.2 d hd).1; omega)
  have z0 : w3.cell? ⟨gT, 0, none⟩ = some (.int .i64 rt) := hbT3.cell 0
  have z1 : w3.cell? ⟨gT, 1, none⟩ = some (.int .i64 bits) := hbT3.cell 1
  have z2 : w3.cell? ⟨gT, 2, none⟩ = some (.slice (some ⟨lg, 0, none⟩) k lcap) := hbT3.cell 2
  have hdl : st.data.toList.length = st.size := dlen st
  clear HEN hst hsz hdt hdec hel hRS hhr hhb hsnd3 hins2 hg3 hg2 hg1 y0 y1 y2 hbT hgr3 hl0
  go_wp2_with fail
  refine HCO.mono ?_
  rintro e w4 ⟨rfl, hg4⟩
  have hgg4 := grown_trans hgg3 hg4
  have hbT4 := hbT3.kept hg4 (by simp)
  have hl4 := hg4.cell hl3 (by simp)
  clear HCO z0 z1 z2 hbT3 hgg3 hg4 hl3
  have HPI : Calls _ _ #[_, .int .i64 st.size] _ _ := pick_any at_ st.size w4 ha64.1 ha64.2 (by omega) (by omega)
  go_wp2_with fail
  refine HPI.mono ?_
  rintro e w9 ⟨q, hq, rfl, rfl⟩
  clear HPI
  obtain ⟨er, pl, hcut, her3, her5, her42⟩ := HCUT.out q (by rw [hdl]; exact hq)
  have hexl : (st.extract 0 q).data.toList = st.data.toList.take q := by rw [extract_list]; simp
  have hexs : (st.extract 0 q).size ≤ 6000 := by rw [← dlen, hexl, List.length_take, hdl]; omega
  rw [← hexl] at hcut
  have HCUTE : Hid (decode (st.extract 0 q).data.toList = .err er pl) := hcut
  have HD1 := qdecode w9 (st.extract 0 q) (by unfold maxLen; omega)
  have HO1 := fun w => qopen w (st.extract 0 q) (by unfold maxLen; omega)
  have hqz : (q : Int) ≤ (st.size : Int) := by omega
  clear hcut hexl hexs HCUT
  go_wp2_with fail
  refine HD1.mono ?_
  intro e w10 hdp
  obtain ⟨rfl, hg10⟩ := dec_of_err HCUTE.out hdp
  clear hdp HD1
  obtain ⟨gX, hgX⟩ : ∃ gX, w10.heap.size = gX := ⟨_, rfl⟩
  obtain ⟨w11, hw11⟩ : ∃ w11, w10.alloc (.cells #[.int .i64 0, .int .i64 0, .slice none 0 0] 26) = w11 := ⟨_, rfl⟩
  have hg11 : w10.grownBy w11 none := by rw [← hw11]; exact grown_alloc (grown_refl _ _) _
  have hbX11 : Box w11 gX #[.int .i64 0, .int .i64 0, .slice none 0 0] 26 := by rw [← hgX, ← hw11]; exact Box.new _ _ _
  have hgr11 := grown_trans hg10 hg11
  have hgg11 := grown_trans hgg4 hgr11
  have hbT11 := hbT4.kept hgr11 (by simp)
  have hl11 := hgr11.cell hl4 (by simp)
  have HO2 := HO1 w11
  have HW11 : Hid (w10.alloc (.cells #[.int .i64 0, .int .i64 0, .slice none 0 0] 26) = w11) := hw11
  have HGX : Hid (w10.heap.size = gX) := hgX
  clear HO1 hw11 hgX hg10 hg11 hgr11 hgg4 hbT4 hl4
  go_upto_region 8 with fail
  rw [HW11.out, HGX.out]
  clear HW11 HGX
  go_wp2_with fail
  refine HO2.mono ?_
  intro e w12 hdp
  obtain ⟨rfl, hg12⟩ := open_of_err HCUTE.out hdp
  clear hdp HO2 HCUTE
  have hgg12 := grown_trans hgg11 hg12
  have hbT12 := hbT11.kept hg12 (by simp)
  have hbX12 := hbX11.kept hg12 (by simp)
  have hl12 := hg12.cell hl11 (by simp)
  have x0 : w12.cell? ⟨gX, 0, none⟩ = some (.int .i64 0) := hbX12.cell 0
  have x2 : w12.cell? ⟨gX, 2, none⟩ = some (.slice none 0 0) := hbX12.cell 2
  have z2 : w12.cell? ⟨gT, 2, none⟩ = some (.slice (some ⟨lg, 0, none⟩) k lcap) := hbT12.cell 2
  have te : ((er : Int) == 0) = false := by simp; omega
  have tn : ((er : Int) != (er : Int)) = false := by simp
  have hkz : (0 : Int) < (k : Int) := by omega
  clear hg12 hgg11 hbT11 hbX11 hl11
  go_upto_region 11 with fail
  go_cut [101] (fun s101 wx => s101 = .bool false ∧ wx = w12)
  case first =>
    by_cases hn0 : n0 = 0
    · have t0 : ((n0 : Int) == 0) = true := by simp; omega
      by_cases h42 : q < 42
      · have t1 : decide ((q : Int) < 42) = true := decide_eq_true (by omega)
        have t2 : ((er : Int) != 3) = false := by rw [her42 h42]; rfl
        clear hn0 her42
        go_wp2
        go_meet
        case rel => exact ⟨rfl, rfl⟩
      · have t1 : decide ((q : Int) < 42) = false := decide_eq_false (by omega)
        clear hn0 her42
        go_wp2
        go_meet
        case rel => exact ⟨rfl, rfl⟩
    · have t0 : ((n0 : Int) == 0) = false := by simp; omega
      clear her42
      go_wp2
      go_meet
      case rel => exact ⟨rfl, rfl⟩
  case rest =>
  obtain ⟨rfl, rfl⟩ := hcut
  clear x0 x2 z2 te tn her42 hl12 hbX12 hbT12
  have hcl : (st ++ ⟨#[0]⟩ ++ more).data.toList = st.data.toList ++ 0 :: more.data.toList := by
    rw [ByteArray.data_append, ByteArray.data_append, Array.toList_append, Array.toList_append, List.append_assoc]
    rfl
  have hcs : (st ++ ⟨#[0]⟩ ++ more).size ≤ maxLen := by
    rw [← dlen, hcl, List.length_append, List.length_cons, dlen, dlen]
    unfold maxLen
    omega
  have HD2 := qdecode wc _ hcs
  have hmore : ∃ g p, decode (st ++ ⟨#[0]⟩ ++ more).data.toList = .err g p ∧ (g = 4 ∨ (g = 2 ∧ 6000 < st.size + 1 + more.size)) := by
    rw [hcl]
    rcases HMORE.out with ⟨h1, h2⟩ | ⟨n, h2⟩
    · rw [hdl, dlen] at h1
      exact ⟨2, 0, h2, .inr ⟨rfl, h1⟩⟩
    · exact ⟨4, n, h2, .inl rfl⟩
  obtain ⟨g, p, hdg, hg4⟩ := hmore
  have HDG : Hid (decode (st ++ ⟨#[0]⟩ ++ more).data.toList = .err g p) := hdg
  clear HMORE hcl hcs hdg
  go_wp2_with fail
  refine HD2.mono ?_
  intro e w13 hdp
  obtain ⟨rfl, hg13⟩ := dec_of_err HDG.out hdp
  have hgf : w.grownBy (w13.alloc (.cells #[.int .i64 0, .int .i64 0, .slice none 0 0] 26)) none := grown_alloc (grown_trans hgg12 hg13) _
  have HGF : Hid _ := hgf
  clear hdp HD2 HDG hgf hgg12 hg13
  rcases hg4 with rfl | ⟨rfl, hlong⟩
  · go_wp2
    exact bodyPost_ret (v := .bool true) (by simp [results, Try.results11, go_sem]) rfl ⟨rfl, HGF.out⟩
  · have tl : decide ((6000 : Int) < (st.size : Int) + 1 + (more.size : Int)) = true := decide_eq_true (by omega)
    go_wp2
    exact bodyPost_ret (v := .bool true) (by simp [results, Try.results11, go_sem]) rfl ⟨rfl, HGF.out⟩
end Go.Proofs.Ytncmgnmcggkhnaa
