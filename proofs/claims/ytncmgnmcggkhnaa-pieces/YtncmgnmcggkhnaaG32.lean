import Derived.Test.YtncmgnmcggkhnaaG31
import Derived.Test.YtncmgnmcggkhnaaG30
import Derived.Test.YtncmgnmcggkhnaaG22
import Derived.ProofKit
import Derived.OpenShut
namespace Go.Proofs.Ytncmgnmcggkhnaa
open Go.RowKit

theorem Subs.ins {w : World} {base : Nat} {lv : Value} {vs : List Value} {xss : List (List Int)} (h : Subs w base lv vs xss) : Ins w (fun q => q < w.heap.size) lv xss := by
  have hl := h.len
  rcases h.row.2 with ⟨h1, h2⟩ | ⟨g, cap, cur, hv, hb, hg, hnc, hcm, hcs, htake⟩
  · exact .inl ⟨h1, List.eq_nil_of_length_eq_zero (by omega)⟩
  · have hglt : g < w.heap.size := (World.ownsRow.lt h.row g (by rw [hv]; rfl)).2
    refine .inr ⟨g, cap, by rw [hv, hl], hglt, hglt, fun i hi => ?_⟩
    have hr := h.row
    rw [hv] at hr
    have hc := World.ownsRow.cellAt hr i (by omega)
    refine ⟨vs.getD i undef, by rw [hc]; simp [List.getD, show i < vs.length by omega], ?_⟩
    have ho := h.own i (by omega)
    rcases ho.2 with ⟨e1, e2⟩ | ⟨g1, cap1, cur1, hv1, hb1, hg1, hnc1, hcm1, hcs1, htake1⟩
    · exact .inl ⟨e1, List.eq_nil_of_length_eq_zero e2⟩
    · have hrow : Row w base g1 (xss.getD i []).length cap1 (xss.getD i []) := by unfold Own at ho; rw [hv1] at ho; exact ho
      exact .inr ⟨g1, 0, cap1, hv1, hnc1, hrow.lt.2, hrow.lt.2, fun j hj => by rw [Nat.zero_add]; exact hrow.cell j hj⟩

theorem Made.right {rate bits m : Nat} {chs : List (List Int)} (h : Made rate bits m chs) (b : Nat) (hb : 16 ≤ b ∧ b ≤ 256) (hm : m ≤ 1200) : RightIn rate bits b chs ⟨b, rate, chs.length, bits, m⟩ := by
  obtain ⟨h1, h2, h3, h4, h5, h6⟩ := h
  refine ⟨rfl, rfl, rfl, ?_, rfl, by show 1 ≤ chs.length; omega, fun c hc => (h6 c hc).1, fun c hc => (h6 c hc).2⟩
  unfold headOk
  simp only [Bool.and_eq_true, decide_eq_true_eq]
  omega

def EncdPost (w : World) (rate bits : Nat) (chs : List (List Int)) (e : Ending) (w' : World) : Prop :=
  w.grownBy w' none ∧ ∃ h, RightS h chs ∧ h.rate = rate ∧ h.bits = bits ∧ e = .returned (.tuple #[.string ⟨(encode h chs).toArray⟩, .bool true])

set_option maxHeartbeats 2000000 in
set_option maxRecDepth 20000 in
theorem kencoded (w : World) (v : Value) (rate bits m : Nat) (block : Int) (chs : List (List Int)) (h : Ins w (fun q => q < w.heap.size) v chs) (hM : Made rate bits m chs) (hm : m ≤ 1200) (hb64 : -9223372036854775808 ≤ block ∧ block ≤ 9223372036854775807) :
    Calls Try.prog 32 #[.agg #[.int .i64 rate, .int .i64 bits, v], .int .i64 block] w (EncdPost w rate bits chs) := by
  obtain ⟨a, c, rfl⟩ := h.slice
  obtain ⟨w0, hw0⟩ : ∃ w0, w.alloc (.cells #[.int .i64 rate, .int .i64 bits, .slice a chs.length c] 26) = w0 := ⟨_, rfl⟩
  have hg0 : w.grownBy w0 none := by rw [← hw0]; exact grown_alloc (grown_refl _ _) _
  obtain ⟨gS, hgS⟩ : ∃ gS, w.heap.size = gS := ⟨_, rfl⟩
  have hbS0 : Box w0 gS #[.int .i64 rate, .int .i64 bits, .slice a chs.length c] 26 := by rw [← hgS, ← hw0]; exact Box.new _ _ _
  have hcl : chs.length ≤ 2 := by obtain ⟨_, _, _, _, h5, _⟩ := hM; omega
  have hins0 : Ins w0.drew (fun q => q < w0.drew.heap.size) (.slice a chs.length c) chs := by
    have h1 := h.kept (grown_drew hg0)
    rcases h1 with h1 | ⟨lg, lcap, hv, hD, hlt, hc⟩
    · exact .inl h1
    · refine .inr ⟨lg, lcap, hv, hlt, hlt, fun i hi => ?_⟩
      obtain ⟨vi, h2, h3⟩ := hc i hi
      refine ⟨vi, h2, ?_⟩
      rcases h3 with h3 | ⟨b, off, cap, e1, e2, _, e4, e5⟩
      · exact .inl h3
      · exact .inr ⟨b, off, cap, e1, e2, e4, e4, e5⟩
  have HPK : Calls _ _ #[_, .int .i64 241] _ _ := pick_any block 241 w0.drew hb64.1 hb64.2 (by omega) (by omega)
  have HEN : ∀ p : Nat, p < 241 → Calls Try.prog 21 #[.agg #[.int .i64 rate, .int .i64 bits, .slice a chs.length c], .int .i64 (16 + (p : Int))] w0.drew fun e w' => w.grownBy w' none ∧ ∃ h, RightS h chs ∧ h.rate = rate ∧ h.bits = bits ∧ e = .returned (.tuple #[.string ⟨(encode h chs).toArray⟩, .int .i64 0]) := by
    intro p hp
    have h1 := qencode w0.drew (.slice a chs.length c) rate bits ((16 + p : Nat) : Int) chs hins0 (by omega) (fun d hd => by have := (hM.2.2.2.2.2 d hd).1; omega)
    rw [show ((16 + p : Nat) : Int) = 16 + (p : Int) by omega] at h1
    refine h1.mono ?_
    rintro e w' ⟨hg, hcase⟩
    rcases hcase with ⟨hh, hR, rfl⟩ | ⟨hno, _⟩
    · refine ⟨grown_trans (grown_drew hg0) hg, hh, hR.2.2.2, by have := hR.1; omega, by have := hR.2.1; omega, rfl⟩
    · have h2 := hM.right (16 + p) (by omega) hm
      rw [show ((16 + p : Nat) : Int) = 16 + (p : Int) by omega] at h2
      exact absurd h2 (hno _)
  have z0 : w0.cell? ⟨gS, 0, none⟩ = some (.int .i64 rate) := hbS0.cell 0
  have z1 : w0.cell? ⟨gS, 1, none⟩ = some (.int .i64 bits) := hbS0.cell 1
  have z2 : w0.cell? ⟨gS, 2, none⟩ = some (.slice a chs.length c) := hbS0.cell 2
  have HW0 : Hid (w.alloc (.cells #[.int .i64 rate, .int .i64 bits, .slice a chs.length c] 26) = w0) := hw0
  have HGS : Hid (w.heap.size = gS) := hgS
  obtain ⟨n, hn⟩ : ∃ n, chs.length = n := ⟨_, rfl⟩
  rw [hn] at HEN z2 HW0 ⊢
  clear hw0 hgS hins0 hbS0 hg0 h hM hn hcl
  go_enter Try.func32, Try.ntmps32
  go_upto_region 1 with fail
  rw [HW0.out, HGS.out]
  clear HW0 HGS
  go_region_with (first
    | (go_at_call 30; refine HPK.mono ?_; rintro e w9 ⟨p, hp, rfl, rfl⟩; have hwp : IntKind.i64.wrap (16 + (p : Int)) = 16 + (p : Int) := by (rw [IntKind.wrap_i64]; omega))
    | (go_at_call 21; refine (HEN p hp).mono ?_; rintro e w5 ⟨hg5, hh, hRS, hr, hb, rfl⟩; have HHR : Hid (hh.rate = rate ∧ hh.bits = bits) := (⟨hr, hb⟩ : _ ∧ _); clear hr hb))
  all_goals
    have hl42 := hRS.encode_len
    have hsz : (⟨(encode hh chs).toArray⟩ : ByteArray).size = (encode hh chs).length := by show (encode hh chs).toArray.size = _; rw [List.size_toArray]
    have hpost : EncdPost w rate bits chs (.returned (.tuple #[.string ⟨(encode hh chs).toArray⟩, .bool true])) w5 := ⟨hg5, hh, hRS, HHR.out.1, HHR.out.2, rfl⟩
    have h42 : (42 : Int) ≤ ((⟨(encode hh chs).toArray⟩ : ByteArray).size : Int) := by omega
    have h60 : (⟨(encode hh chs).toArray⟩ : ByteArray).size ≤ 6000 := by omega
    generalize (⟨(encode hh chs).toArray⟩ : ByteArray) = st at *
    clear HEN HPK hRS hg5 hsz hl42
    go_wp2
    exact bodyPost_ret (v := .tuple #[.string st, .bool true]) (by simp [results, Try.results32, go_sem]) rfl hpost

theorem Ins.mono {w : World} {D D' : Nat → Prop} {v : Value} {chs : List (List Int)} (h : Ins w D v chs) (hd : ∀ b, D b → b < w.heap.size → D' b) : Ins w D' v chs := by
  rcases h with h | ⟨lg, lcap, hv, hD, hlt, hc⟩
  · exact .inl h
  · refine .inr ⟨lg, lcap, hv, hd lg hD hlt, hlt, fun i hi => ?_⟩
    obtain ⟨vi, h1, h2⟩ := hc i hi
    refine ⟨vi, h1, ?_⟩
    rcases h2 with h2 | ⟨b, off, cap, e1, e2, e3, e4, e5⟩
    · exact .inl h2
    · exact .inr ⟨b, off, cap, e1, e2, hd b e3 e4, e4, e5⟩

set_option maxHeartbeats 2000000 in
set_option maxRecDepth 20000 in
/-- a stream that is decoded as this sound -/
theorem kcomes (w : World) (v : Value) (rate bits : Nat) (chs : List (List Int)) (st : ByteArray) (hsz : st.size ≤ maxLen) (hd : decode st.data.toList = .sound rate bits chs) (h : SndIn w v chs) (hcl : chs.length ≤ 1099511627776) (hlen : ∀ c ∈ chs, c.length ≤ 1099511627776) :
    Calls Try.prog 33 #[.string st, .agg #[.int .i64 rate, .int .i64 bits, v]] w fun e w' => e = .returned (.bool true) ∧ w.grownBy w' none := by
  obtain ⟨a, c, rfl⟩ := h.slice
  obtain ⟨w0, hw0⟩ : ∃ w0, w.alloc (.cells #[.int .i64 rate, .int .i64 bits, .slice a chs.length c] 26) = w0 := ⟨_, rfl⟩
  have hg0 : w.grownBy w0 none := by rw [← hw0]; exact grown_alloc (grown_refl _ _) _
  obtain ⟨gS, hgS⟩ : ∃ gS, w.heap.size = gS := ⟨_, rfl⟩
  have hbS0 : Box w0 gS #[.int .i64 rate, .int .i64 bits, .slice a chs.length c] 26 := by rw [← hgS, ← hw0]; exact Box.new _ _ _
  have HDE := qdecode w0 st hsz
  have HW0 : Hid (w.alloc (.cells #[.int .i64 rate, .int .i64 bits, .slice a chs.length c] 26) = w0) := hw0
  have HGS : Hid (w.heap.size = gS) := hgS
  have HD : Hid (decode st.data.toList = .sound rate bits chs) := hd
  have HLEN : Hid (∀ c ∈ chs, c.length ≤ 1099511627776) := hlen
  clear hw0 hgS hd hlen hsz
  go_enter Try.func33, Try.ntmps33
  go_upto_region 1 with fail
  rw [HW0.out, HGS.out]
  clear HW0
  go_wp2_with fail
  refine HDE.mono ?_
  rintro e w1 ⟨hg1, hcase⟩
  rw [HD.out] at hcase
  obtain ⟨lv, vs, rfl, hsubs⟩ := hcase
  have hsnd1 := hsubs.ins.snd
  obtain ⟨a1, c1, rfl⟩ := hsnd1.slice
  obtain ⟨n, hn⟩ : ∃ n, chs.length = n := ⟨_, rfl⟩
  obtain ⟨w2, hw2⟩ : ∃ w2, w1.alloc (.cells #[.int .i64 rate, .int .i64 bits, .slice a1 chs.length c1] 26) = w2 := ⟨_, rfl⟩
  have hg2 : w1.grownBy w2 none := by rw [← hw2]; exact grown_alloc (grown_refl _ _) _
  obtain ⟨gT, hgT⟩ : ∃ gT, w1.heap.size = gT := ⟨_, rfl⟩
  have hbT : Box w2 gT #[.int .i64 rate, .int .i64 bits, .slice a1 chs.length c1] 26 := by rw [← hgT, ← hw2]; exact Box.new _ _ _
  have hg02 := grown_trans hg1 hg2
  have hbS2 := hbS0.kept hg02 (by simp)
  have hgg2 := grown_trans hg0 hg02
  have HKS := ksame w2 _ _ rate bits chs (hsnd1.kept hg2) (h.kept hgg2) hcl HLEN.out
  have HW2 : Hid (w1.alloc (.cells #[.int .i64 rate, .int .i64 bits, .slice a1 chs.length c1] 26) = w2) := hw2
  have HGT : Hid (w1.heap.size = gT) := hgT
  have z0 : w2.cell? ⟨gS, 0, none⟩ = some (.int .i64 rate) := hbS2.cell 0
  have z1 : w2.cell? ⟨gS, 1, none⟩ = some (.int .i64 bits) := hbS2.cell 1
  have z2 : w2.cell? ⟨gS, 2, none⟩ = some (.slice a chs.length c) := hbS2.cell 2
  have y0 : w2.cell? ⟨gT, 0, none⟩ = some (.int .i64 rate) := hbT.cell 0
  have y1 : w2.cell? ⟨gT, 1, none⟩ = some (.int .i64 bits) := hbT.cell 1
  have y2 : w2.cell? ⟨gT, 2, none⟩ = some (.slice a1 chs.length c1) := hbT.cell 2
  clear HDE hw2 hgT hsubs hsnd1 hg02 hg1 hg2 hn
  go_upto_region 2 with fail
  rw [HW2.out, HGT.out]
  clear HW2
  go_wp2_with fail
  refine HKS.mono ?_
  rintro e w3 ⟨rfl, hg3⟩
  have hgf := grown_trans hgg2 hg3
  clear HKS
  go_wp2
  exact bodyPost_ret (v := .bool true) (by simp [results, Try.results33, go_sem]) rfl ⟨rfl, hgf⟩
end Go.Proofs.Ytncmgnmcggkhnaa

namespace Go.Proofs.Ytncmgnmcggkhnaa
open Go.RowKit

theorem data_of (l : List UInt8) : (⟨l.toArray⟩ : ByteArray).data.toList = l := rfl
theorem size_of (l : List UInt8) : (⟨l.toArray⟩ : ByteArray).size = l.length := by show l.toArray.size = _; rw [List.size_toArray]

theorem rin_of_row {w : World} {a0 : Option Addr} {len0 cap0 : Nat} {z0 : List Int}
    (h : (a0 = none ∧ len0 = 0 ∧ cap0 = 0 ∧ z0 = []) ∨ ∃ x, a0 = some x ∧ len0 ≤ cap0 ∧ cap0 ≤ maxLen ∧ z0.length = cap0 ∧ (∀ i, i < z0.length → w.cell? (x.add i) = some (.int .i64 (z0.getD i 0))) ∧ ∀ n ∈ z0, (Lit.int .i64 n).wf = true) :
    Rin w (.slice a0 len0 cap0) (z0.take len0) ∧ (z0.take len0).length ≤ 9223372036854775807 ∧ ∀ x ∈ z0.take len0, -9223372036854775808 ≤ x ∧ x ≤ 9223372036854775807 := by
  rcases h with ⟨rfl, rfl, rfl, rfl⟩ | ⟨x, rfl, hlc, hcm, hzl, hcell, hwf⟩
  · exact ⟨⟨none, 0, rfl, fun k hk => by simp at hk⟩, by simp, fun x hx => by simp at hx⟩
  · have hl : (z0.take len0).length = len0 := by rw [List.length_take]; omega
    have hcm' : cap0 ≤ 9223372036854775807 := hcm
    refine ⟨⟨some x, cap0, by rw [hl], fun k hk => ?_⟩, by omega, fun y hy => bounds_i64 (hwf y (List.mem_of_mem_take hy))⟩
    rw [hl] at hk
    have hc := hcell k (by omega)
    have h0 := hcell 0 (by omega)
    have e0 : x.add 0 = x := by unfold Addr.add; rw [if_pos rfl]
    rw [e0] at h0
    have hsp : x.spot = none := World.cell?_spot h0
    obtain ⟨b, off, sp⟩ := x
    have hsp' : sp = none := hsp
    subst hsp'
    refine ⟨b, off, rfl, ?_⟩
    have e : (⟨b, off, none⟩ : Addr).add k = ⟨b, off + k, none⟩ := by
      unfold Addr.add
      split
      · rename_i e; rw [e, Nat.add_zero]
      · rfl
    rw [e] at hc
    rw [hc]
    have e2 : (z0.take len0).getD k 0 = z0.getD k 0 := by simp [List.getD, hk]
    rw [e2]

set_option maxHeartbeats 2000000 in
set_option maxRecDepth 20000 in
theorem back_walk (w : World) (vr : Value) (raw : List Int) (wide channels rate block : Int) (h : Rin w vr raw) (hrl : raw.length ≤ 9223372036854775807) (hr64 : ∀ x ∈ raw, -9223372036854775808 ≤ x ∧ x ≤ 9223372036854775807)
    (hw64 : -9223372036854775808 ≤ wide ∧ wide ≤ 9223372036854775807) (hc64 : -9223372036854775808 ≤ channels ∧ channels ≤ 9223372036854775807) (hra64 : -9223372036854775808 ≤ rate ∧ rate ≤ 9223372036854775807) (hb64 : -9223372036854775808 ≤ block ∧ block ≤ 9223372036854775807) :
    Calls Try.prog 8 #[vr, .int .i64 wide, .int .i64 channels, .int .i64 rate, .int .i64 block] w fun e w' => e = .returned (.bool true) ∧ w.grownBy w' none := by
  have HSO := ksound w vr raw wide channels rate h hrl hr64 hw64 hc64 hra64
  obtain ⟨a, c, rfl, _⟩ := h
  obtain ⟨n, hn⟩ : ∃ n, raw.length = n := ⟨_, rfl⟩
  rw [hn] at HSO ⊢
  clear hn hr64 hw64 hc64 hra64 hrl
  go_enter Try.func8, Try.ntmps8
  go_wp2_with fail
  refine HSO.mono ?_
  rintro e w1 ⟨rt, bits, lv, vs, chs, rfl, hg1, hsubs, hM⟩
  clear HSO
  obtain ⟨al, cl, hlv⟩ := row_slice hsubs.row
  subst hlv
  obtain ⟨k, hk⟩ : ∃ k, vs.length = k := ⟨_, rfl⟩
  rw [hk] at hsubs ⊢
  clear hk
  have hins := hsubs.ins
  obtain ⟨w2, hw2⟩ : ∃ w2, w1.alloc (.cells #[.int .i64 rt, .int .i64 bits, .slice al k cl] 26) = w2 := ⟨_, rfl⟩
  have hg2 : w1.grownBy w2 none := by rw [← hw2]; exact grown_alloc (grown_refl _ _) _
  obtain ⟨gT, hgT⟩ : ∃ gT, w1.heap.size = gT := ⟨_, rfl⟩
  have hbT : Box w2 gT #[.int .i64 rt, .int .i64 bits, .slice al k cl] 26 := by rw [← hgT, ← hw2]; exact Box.new _ _ _
  have hins2 := (hins.kept hg2).mono (D' := fun q => q < w2.heap.size) (fun b _ hb => hb)
  have HEN := kencoded w2 _ rt bits (min n 600) block chs hins2 hM (by omega) hb64
  have HW2 : Hid (w1.alloc (.cells #[.int .i64 rt, .int .i64 bits, .slice al k cl] 26) = w2) := hw2
  have HGT : Hid (w1.heap.size = gT) := hgT
  have y0 : w2.cell? ⟨gT, 0, none⟩ = some (.int .i64 rt) := hbT.cell 0
  have y1 : w2.cell? ⟨gT, 1, none⟩ = some (.int .i64 bits) := hbT.cell 1
  have y2 : w2.cell? ⟨gT, 2, none⟩ = some (.slice al k cl) := hbT.cell 2
  have HM : Hid (Made rt bits (min n 600) chs) := hM
  clear hw2 hgT hM hsubs hins
  go_upto_region 2 with fail
  rw [HW2.out, HGT.out]
  clear HW2 HGT
  go_wp2_with fail
  refine HEN.mono ?_
  rintro e w3 ⟨hg3, hh, hRS, hhr, hhb, rfl⟩
  have hgg3 := grown_trans hg1 (grown_trans hg2 hg3)
  have hel := hRS.encode_len
  have hdec := hRS.decode
  rw [hhr, hhb] at hdec
  have hsz := size_of (encode hh chs)
  have hdt := data_of (encode hh chs)
  have hsnd3 := (hins2.kept hg3).snd
  have hbT3 := hbT.kept hg3 (by simp)
  obtain ⟨st, hst⟩ : ∃ st, (⟨(encode hh chs).toArray⟩ : ByteArray) = st := ⟨_, rfl⟩
  rw [hst] at hsz hdt ⊢
  have hst60 : st.size ≤ 6000 := by omega
  have HCO := kcomes w3 _ rt bits chs st (by unfold maxLen; omega) (by rw [hdt]; exact hdec) hsnd3 (by obtain ⟨_, _, _, _, h5, _⟩ := HM.out; omega) (fun d hd => by have := (HM.out.2.2.2.2.2 d hd).1; omega)
  have z0 : w3.cell? ⟨gT, 0, none⟩ = some (.int .i64 rt) := hbT3.cell 0
  have z1 : w3.cell? ⟨gT, 1, none⟩ = some (.int .i64 bits) := hbT3.cell 1
  have z2 : w3.cell? ⟨gT, 2, none⟩ = some (.slice al k cl) := hbT3.cell 2
  clear HEN hst hsz hdt hdec hel hRS hhr hhb hsnd3 hins2 hg3 hg2 hg1 y0 y1 y2 hbT hbT3
  go_wp2_with fail
  refine HCO.mono ?_
  rintro e w4 ⟨rfl, hg4⟩
  have hgf := grown_trans hgg3 hg4
  have hs60 : (st.size : Int) ≤ 6000 := by omega
  clear HCO
  go_wp2
  exact bodyPost_ret (v := .bool true) (by simp [results, Try.results8, go_sem]) rfl ⟨rfl, hgf⟩
end Go.Proofs.Ytncmgnmcggkhnaa
