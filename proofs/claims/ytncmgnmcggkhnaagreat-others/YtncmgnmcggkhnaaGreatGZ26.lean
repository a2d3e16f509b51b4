import Derived.Test.YtncmgnmcggkhnaaGreatGZ22
import Derived.Test.YtncmgnmcggkhnaaGreatGZ24
import Derived.Test.YtncmgnmcggkhnaaGreatGZ25
import Derived.ProofKit
import Derived.OpenShut
import Derived.Lib.BufferWrite
import Derived.Laws.MakeOwn
import Derived.Test.YtncmgnmcggkhnaaGreatGZ19
import Derived.Deep.RegionLaw
import Derived.Deep.AppendLies
import Derived.Carry
namespace Go.Proofs.YtncmgnmcggkhnaaGreat
open Go.RowKit

theorem Subs.ins {w : World} {base : Nat} {lv : Value} {vs : List Value} {xss : List (List Int)} (h : Subs w base lv vs xss) : Ins w (fun q => q < w.heap.size) lv xss := by
  have hl := h.len
  rcases h.row.2 with ⟨h1, h2⟩ | ⟨g, cap, cur, hv, hb, hg, hnc, hcm, hcs, htake⟩
  · exact .inl ⟨h1, List.eq_nil_of_length_eq_zero (by omega)⟩
  · have hglt : g < w.heap.size := (World.ownsRow.lt h.row g (by rw [hv]; rfl)).2
    refine .inr ⟨g, cap, by rw [hv, hl], hglt, hglt, fun i hi => ?_⟩
    have hr := h.row
    rw [hv] at hr
    have hc := World.ownsRow.cellAt hr i (by omega)
    refine ⟨vs.getD i undef, by rw [hc]; simp [List.getD, show i < vs.length by omega], ?_⟩
    have ho := h.own i (by omega)
    rcases ho.2 with ⟨e1, e2⟩ | ⟨g1, cap1, cur1, hv1, hb1, hg1, hnc1, hcm1, hcs1, htake1⟩
    · exact .inl ⟨e1, List.eq_nil_of_length_eq_zero e2⟩
    · have hrow : Row w base g1 (xss.getD i []).length cap1 (xss.getD i []) := by unfold Own at ho; rw [hv1] at ho; exact ho
      exact .inr ⟨g1, 0, cap1, hv1, hnc1, hrow.lt.2, hrow.lt.2, fun j hj => by rw [Nat.zero_add]; exact hrow.cell j hj⟩

theorem Made.right {rate bits m : Nat} {chs : List (List Int)} (h : Made rate bits m chs) (b : Nat) (hb : 16 ≤ b ∧ b ≤ 256) (hm : m ≤ 1200) : RightIn rate bits b chs ⟨b, rate, chs.length, bits, m⟩ := by
  obtain ⟨h1, h2, h3, h4, h5, h6⟩ := h
  refine ⟨rfl, rfl, rfl, ?_, rfl, by show 1 ≤ chs.length; omega, fun c hc => (h6 c hc).1, fun c hc => (h6 c hc).2⟩
  unfold headOk
  simp only [Bool.and_eq_true, decide_eq_true_eq]
  omega

def EncdPost (w : World) (rate bits : Nat) (chs : List (List Int)) (e : Ending) (w' : World) : Prop :=
  w.grownBy w' none ∧ ∃ h, RightS h chs ∧ h.rate = rate ∧ h.bits = bits ∧ e = .returned (.tuple #[.string ⟨(encode h chs).toArray⟩, .bool true])

set_option maxHeartbeats 2000000 in
set_option maxRecDepth 20000 in
theorem kencoded (w : World) (v : Value) (rate bits m : Nat) (block : Int) (chs : List (List Int)) (h : Ins w (fun q => q < w.heap.size) v chs) (hM : Made rate bits m chs) (hm : m ≤ 1200) (hb64 : -9223372036854775808 ≤ block ∧ block ≤ 9223372036854775807) :
    Calls Tryz.prog 5 #[.agg #[.int .i64 rate, .int .i64 bits, v], .int .i64 block] w (EncdPost w rate bits chs) := by
  obtain ⟨a, c, rfl⟩ := h.slice
  obtain ⟨w0, hw0⟩ : ∃ w0, w.alloc (.cells #[.int .i64 rate, .int .i64 bits, .slice a chs.length c] 25) = w0 := ⟨_, rfl⟩
  have hg0 : w.grownBy w0 none := by rw [← hw0]; exact grown_alloc (grown_refl _ _) _
  obtain ⟨gS, hgS⟩ : ∃ gS, w.heap.size = gS := ⟨_, rfl⟩
  have hbS0 : Box w0 gS #[.int .i64 rate, .int .i64 bits, .slice a chs.length c] 25 := by rw [← hgS, ← hw0]; exact Box.new _ _ _
  have hcl : chs.length ≤ 2 := by obtain ⟨_, _, _, _, h5, _⟩ := hM; omega
  have hins0 : Ins w0.drew (fun q => q < w0.drew.heap.size) (.slice a chs.length c) chs := by
    have h1 := h.kept (grown_drew hg0)
    rcases h1 with h1 | ⟨lg, lcap, hv, hD, hlt, hc⟩
    · exact .inl h1
    · refine .inr ⟨lg, lcap, hv, hlt, hlt, fun i hi => ?_⟩
      obtain ⟨vi, h2, h3⟩ := hc i hi
      refine ⟨vi, h2, ?_⟩
      rcases h3 with h3 | ⟨b, off, cap, e1, e2, _, e4, e5⟩
      · exact .inl h3
      · exact .inr ⟨b, off, cap, e1, e2, e4, e4, e5⟩
  have HPK : Calls _ _ #[_, .int .i64 241] _ _ := pick_any block 241 w0.drew hb64.1 hb64.2 (by omega) (by omega)
  have HEN : ∀ p : Nat, p < 241 → Calls Tryz.prog 13 #[.agg #[.int .i64 rate, .int .i64 bits, .slice a chs.length c], .int .i64 (16 + (p : Int))] w0.drew fun e w' => w.grownBy w' none ∧ ∃ h, RightS h chs ∧ h.rate = rate ∧ h.bits = bits ∧ e = .returned (.tuple #[.string ⟨(encode h chs).toArray⟩, .int .i64 0]) := by
    intro p hp
    have h1 := qencode w0.drew (.slice a chs.length c) rate bits ((16 + p : Nat) : Int) chs hins0 (by omega) (fun d hd => by have := (hM.2.2.2.2.2 d hd).1; omega)
    rw [show ((16 + p : Nat) : Int) = 16 + (p : Int) by omega] at h1
    refine h1.mono ?_
    rintro e w' ⟨hg, hcase⟩
    rcases hcase with ⟨hh, hR, rfl⟩ | ⟨hno, _⟩
    · refine ⟨grown_trans (grown_drew hg0) hg, hh, hR.2.2.2, by have := hR.1; omega, by have := hR.2.1; omega, rfl⟩
    · have h2 := hM.right (16 + p) (by omega) hm
      rw [show ((16 + p : Nat) : Int) = 16 + (p : Int) by omega] at h2
      exact absurd h2 (hno _)
  have z0 : w0.cell? ⟨gS, 0, none⟩ = some (.int .i64 rate) := hbS0.cell 0
  have z1 : w0.cell? ⟨gS, 1, none⟩ = some (.int .i64 bits) := hbS0.cell 1
  have z2 : w0.cell? ⟨gS, 2, none⟩ = some (.slice a chs.length c) := hbS0.cell 2
  have HW0 : Hid (w.alloc (.cells #[.int .i64 rate, .int .i64 bits, .slice a chs.length c] 25) = w0) := hw0
  have HGS : Hid (w.heap.size = gS) := hgS
  obtain ⟨n, hn⟩ : ∃ n, chs.length = n := ⟨_, rfl⟩
  rw [hn] at HEN z2 HW0 ⊢
  clear hw0 hgS hins0 hbS0 hg0 h hM hn hcl
  go_enter Tryz.func5, Tryz.ntmps5
  go_upto_region 1 with fail
  rw [HW0.out, HGS.out]
  clear HW0 HGS
  go_region_with (first
    | (go_at_call 9; refine HPK.mono ?_; rintro e w9 ⟨p, hp, rfl, rfl⟩; have hwp : IntKind.i64.wrap (16 + (p : Int)) = 16 + (p : Int) := by (rw [IntKind.wrap_i64]; omega))
    | (go_at_call 13; refine (HEN p hp).mono ?_; rintro e w5 ⟨hg5, hh, hRS, hr, hb, rfl⟩; have HHR : Hid (hh.rate = rate ∧ hh.bits = bits) := (⟨hr, hb⟩ : _ ∧ _); clear hr hb))
  all_goals
    have hl42 := hRS.encode_len
    have hsz : (⟨(encode hh chs).toArray⟩ : ByteArray).size = (encode hh chs).length := by show (encode hh chs).toArray.size = _; rw [List.size_toArray]
    have hpost : EncdPost w rate bits chs (.returned (.tuple #[.string ⟨(encode hh chs).toArray⟩, .bool true])) w5 := ⟨hg5, hh, hRS, HHR.out.1, HHR.out.2, rfl⟩
    have h42 : (42 : Int) ≤ ((⟨(encode hh chs).toArray⟩ : ByteArray).size : Int) := by omega
    have h60 : (⟨(encode hh chs).toArray⟩ : ByteArray).size ≤ 6000 := by omega
    generalize (⟨(encode hh chs).toArray⟩ : ByteArray) = st at *
    clear HEN HPK hRS hg5 hsz hl42
    go_wp2
    exact bodyPost_ret (v := .tuple #[.string st, .bool true]) (by simp [results, Tryz.results5, go_sem]) rfl hpost

theorem Ins.mono {w : World} {D D' : Nat → Prop} {v : Value} {chs : List (List Int)} (h : Ins w D v chs) (hd : ∀ b, D b → b < w.heap.size → D' b) : Ins w D' v chs := by
  rcases h with h | ⟨lg, lcap, hv, hD, hlt, hc⟩
  · exact .inl h
  · refine .inr ⟨lg, lcap, hv, hd lg hD hlt, hlt, fun i hi => ?_⟩
    obtain ⟨vi, h1, h2⟩ := hc i hi
    refine ⟨vi, h1, ?_⟩
    rcases h2 with h2 | ⟨b, off, cap, e1, e2, e3, e4, e5⟩
    · exact .inl h2
    · exact .inr ⟨b, off, cap, e1, e2, hd b e3 e4, e4, e5⟩

set_option maxHeartbeats 2000000 in
set_option maxRecDepth 20000 in
/-- a stream that is decoded as this sound -/
theorem kcomes (w : World) (v : Value) (rate bits : Nat) (chs : List (List Int)) (st : ByteArray) (hsz : st.size ≤ maxLen) (hd : decode st.data.toList = .sound rate bits chs) (h : SndIn w v chs) (hcl : chs.length ≤ 1099511627776) (hlen : ∀ c ∈ chs, c.length ≤ 1099511627776) :
    Calls Tryz.prog 8 #[.string st, .agg #[.int .i64 rate, .int .i64 bits, v]] w fun e w' => e = .returned (.bool true) ∧ w.grownBy w' none := by
  obtain ⟨a, c, rfl⟩ := h.slice
  obtain ⟨w0, hw0⟩ : ∃ w0, w.alloc (.cells #[.int .i64 rate, .int .i64 bits, .slice a chs.length c] 25) = w0 := ⟨_, rfl⟩
  have hg0 : w.grownBy w0 none := by rw [← hw0]; exact grown_alloc (grown_refl _ _) _
  obtain ⟨gS, hgS⟩ : ∃ gS, w.heap.size = gS := ⟨_, rfl⟩
  have hbS0 : Box w0 gS #[.int .i64 rate, .int .i64 bits, .slice a chs.length c] 25 := by rw [← hgS, ← hw0]; exact Box.new _ _ _
  have HDE := qdecode w0 st hsz
  have HW0 : Hid (w.alloc (.cells #[.int .i64 rate, .int .i64 bits, .slice a chs.length c] 25) = w0) := hw0
  have HGS : Hid (w.heap.size = gS) := hgS
  have HD : Hid (decode st.data.toList = .sound rate bits chs) := hd
  have HLEN : Hid (∀ c ∈ chs, c.length ≤ 1099511627776) := hlen
  clear hw0 hgS hd hlen hsz
  go_enter Tryz.func8, Tryz.ntmps8
  go_upto_region 1 with fail
  rw [HW0.out, HGS.out]
  clear HW0
  go_wp2_with fail
  refine HDE.mono ?_
  rintro e w1 ⟨hg1, hcase⟩
  rw [HD.out] at hcase
  obtain ⟨lv, vs, rfl, hsubs⟩ := hcase
  have hsnd1 := hsubs.ins.snd
  obtain ⟨a1, c1, rfl⟩ := hsnd1.slice
  obtain ⟨n, hn⟩ : ∃ n, chs.length = n := ⟨_, rfl⟩
  obtain ⟨w2, hw2⟩ : ∃ w2, w1.alloc (.cells #[.int .i64 rate, .int .i64 bits, .slice a1 chs.length c1] 25) = w2 := ⟨_, rfl⟩
  have hg2 : w1.grownBy w2 none := by rw [← hw2]; exact grown_alloc (grown_refl _ _) _
  obtain ⟨gT, hgT⟩ : ∃ gT, w1.heap.size = gT := ⟨_, rfl⟩
  have hbT : Box w2 gT #[.int .i64 rate, .int .i64 bits, .slice a1 chs.length c1] 25 := by rw [← hgT, ← hw2]; exact Box.new _ _ _
  have hg02 := grown_trans hg1 hg2
  have hbS2 := hbS0.kept hg02 (by simp)
  have hgg2 := grown_trans hg0 hg02
  have HKS := ksame w2 _ _ rate bits chs (hsnd1.kept hg2) (h.kept hgg2) hcl HLEN.out
  have HW2 : Hid (w1.alloc (.cells #[.int .i64 rate, .int .i64 bits, .slice a1 chs.length c1] 25) = w2) := hw2
  have HGT : Hid (w1.heap.size = gT) := hgT
  have z0 : w2.cell? ⟨gS, 0, none⟩ = some (.int .i64 rate) := hbS2.cell 0
  have z1 : w2.cell? ⟨gS, 1, none⟩ = some (.int .i64 bits) := hbS2.cell 1
  have z2 : w2.cell? ⟨gS, 2, none⟩ = some (.slice a chs.length c) := hbS2.cell 2
  have y0 : w2.cell? ⟨gT, 0, none⟩ = some (.int .i64 rate) := hbT.cell 0
  have y1 : w2.cell? ⟨gT, 1, none⟩ = some (.int .i64 bits) := hbT.cell 1
  have y2 : w2.cell? ⟨gT, 2, none⟩ = some (.slice a1 chs.length c1) := hbT.cell 2
  clear HDE hw2 hgT hsubs hsnd1 hg02 hg1 hg2 hn
  go_upto_region 2 with fail
  rw [HW2.out, HGT.out]
  clear HW2
  go_wp2_with fail
  refine HKS.mono ?_
  rintro e w3 ⟨rfl, hg3⟩
  have hgf := grown_trans hgg2 hg3
  clear HKS
  go_wp2
  exact bodyPost_ret (v := .bool true) (by simp [results, Tryz.results8, go_sem]) rfl ⟨rfl, hgf⟩
end Go.Proofs.YtncmgnmcggkhnaaGreat

namespace Go.Proofs.YtncmgnmcggkhnaaGreat
open Go.RowKit

theorem data_of (l : List UInt8) : (⟨l.toArray⟩ : ByteArray).data.toList = l := rfl
theorem size_of (l : List UInt8) : (⟨l.toArray⟩ : ByteArray).size = l.length := by show l.toArray.size = _; rw [List.size_toArray]

theorem rin_of_row {w : World} {a0 : Option Addr} {len0 cap0 : Nat} {z0 : List Int}
    (h : (a0 = none ∧ len0 = 0 ∧ cap0 = 0 ∧ z0 = []) ∨ ∃ x, a0 = some x ∧ len0 ≤ cap0 ∧ cap0 ≤ maxLen ∧ z0.length = cap0 ∧ (∀ i, i < z0.length → w.cell? (x.add i) = some (.int .i64 (z0.getD i 0))) ∧ ∀ n ∈ z0, (Lit.int .i64 n).wf = true) :
    Rin w (.slice a0 len0 cap0) (z0.take len0) ∧ (z0.take len0).length ≤ 9223372036854775807 ∧ ∀ x ∈ z0.take len0, -9223372036854775808 ≤ x ∧ x ≤ 9223372036854775807 := by
  rcases h with ⟨rfl, rfl, rfl, rfl⟩ | ⟨x, rfl, hlc, hcm, hzl, hcell, hwf⟩
  · exact ⟨⟨none, 0, rfl, fun k hk => by simp at hk⟩, by simp, fun x hx => by simp at hx⟩
  · have hl : (z0.take len0).length = len0 := by rw [List.length_take]; omega
    have hcm' : cap0 ≤ 9223372036854775807 := hcm
    refine ⟨⟨some x, cap0, by rw [hl], fun k hk => ?_⟩, by omega, fun y hy => bounds_i64 (hwf y (List.mem_of_mem_take hy))⟩
    rw [hl] at hk
    have hc := hcell k (by omega)
    have h0 := hcell 0 (by omega)
    have e0 : x.add 0 = x := by unfold Addr.add; rw [if_pos rfl]
    rw [e0] at h0
    have hsp : x.spot = none := World.cell?_spot h0
    obtain ⟨b, off, sp⟩ := x
    have hsp' : sp = none := hsp
    subst hsp'
    refine ⟨b, off, rfl, ?_⟩
    have e : (⟨b, off, none⟩ : Addr).add k = ⟨b, off + k, none⟩ := by
      unfold Addr.add
      split
      · rename_i e; rw [e, Nat.add_zero]
      · rfl
    rw [e] at hc
    rw [hc]
    have e2 : (z0.take len0).getD k 0 = z0.getD k 0 := by simp [List.getD, hk]
    rw [e2]

end Go.Proofs.YtncmgnmcggkhnaaGreat

namespace Go.Proofs.YtncmgnmcggkhnaaGreat
open Go.RowKit

set_option maxHeartbeats 2000000 in
set_option maxRecDepth 100000 in
/-- a copy of a text -/
theorem qslclone (w : World) (s : ByteArray) (hs : s.size ≤ 6000) :
    Calls Tryz.prog 30 #[.string s] w fun e w' => e = .returned (.string s) ∧ w.grownBy w' none := by
  by_cases h0 : s.size = 0
  · have hs : s = ⟨#[]⟩ := by
      apply ByteArray.ext
      exact Array.eq_empty_of_size_eq_zero h0
    subst hs
    go_enter Tryz.func30, Tryz.ntmps30
    go_wp2
    go_ret
    exact ⟨rfl, grown_refl _ _⟩
  · obtain ⟨i0, hi, hz0, hz1, hz2⟩ := info_parts infoU8
    have hsz1 : (Tryz.prog.info? 5).map (·.size) = some 1 := by rw [hi]; simp [hz1]
    obtain ⟨Z, hZ⟩ : ∃ Z, Z = madeCells (Value.int .u8 0).cells (((s.size : Nat) : Int).toNat * i0.size) := ⟨_, rfl⟩
    have hZs : Z.size = s.size := by rw [hZ, size_madeCells, hz1]; simp
    obtain ⟨w1, hw1⟩ : ∃ w1, w.alloc (.cells Z 5) = w1 := ⟨_, rfl⟩
    obtain ⟨g, hg⟩ : ∃ g, w.heap.size = g := ⟨_, rfl⟩
    have hmake : (Instr.makeSlice 30 (.int .i64 (s.size : Int)) (.int .i64 (s.size : Int))).run Tryz.prog w = .ok (.slice (some ⟨g, 0, none⟩) s.size s.size) w1 := by
      have h := run_make (P := Tryz.prog) w 30 5 i0 (.int .u8 0) Tryz.underlying30 hi hz0 .i64 .i64 (s.size : Int) (s.size : Int) (by omega) (by omega) (by rw [hz2]; omega) (by omega)
      rw [← hZ, hw1, hg] at h
      simpa using h
    have hb1 : Box w1 g Z 5 := by rw [← hg, ← hw1]; exact Box.new _ _ _
    have hbl1 : Below g w w1 := by rw [← hw1, ← hg]; exact (Below.refl _ w).alloc (Nat.le_refl _) _
    have hcopy := Lib.run_copy_row_string (P := Tryz.prog) w1 30 9 3 5 g 0 s.size s.size s Z 5 Tryz.underlying30 hsz1 hb1 (Nat.le_refl _) (by omega)
    obtain ⟨C, hC⟩ : ∃ C, (Z.toList.take 0 ++ Lib.byteCells s.data.toList ++ Z.toList.drop (0 + s.size)).toArray = C := ⟨_, rfl⟩
    rw [hC] at hcopy
    have hCl : C.toList = Lib.byteCells s.data.toList := by
      rw [← hC, List.toList_toArray, List.take_zero, List.nil_append, List.drop_of_length_le (by rw [Array.length_toList]; omega), List.append_nil]
    have hCs : C.size = s.size := by rw [← Array.length_toList, hCl, Lib.byteCells_length, ← Lib.size_eq]
    obtain ⟨w2, hw2⟩ : ∃ w2, w1.setRow g C = w2 := ⟨_, rfl⟩
    rw [hw2] at hcopy
    have hb2 : w2.heap[g]? = some (.cells C 5 (0, 0)) := by rw [← hw2]; exact setRow_heap _ _ Z _ 5 (0, 0) hb1
    have hbl2 : Below g w1 w2 := by rw [← hw2]; exact ⟨rfl, rfl, rfl, by simp, fun k hk => setRow_other _ _ _ _ (by omega)⟩
    have hne : s.data.toList ≠ [] := fun e => h0 (by rw [Lib.size_eq, e]; rfl)
    have hstr := Lib.run_unsafeString_row (P := Tryz.prog) w2 95 3 9 5 bldByteP bldCells g C.size (by unfold World.shape?; rw [hb2]) s.data.toList hne (by rw [← Lib.size_eq]; omega) (by rw [← Lib.size_eq]; omega)
      (fun j x hx => Lib.cells_of_row hb2 C.size j _ (by rw [List.take_of_length_le (by rw [Array.length_toList]; exact Nat.le_refl _), hCl]; simp [Lib.byteCells, hx]))
    rw [← Lib.size_eq] at hstr
    have hfin : Below g w (w2.freeze ⟨g, 0, none⟩ s.size) := Lib.below_freeze (hbl1.trans hbl2) (p := ⟨g, 0, none⟩) (Nat.le_refl _) _
    have HFIN : Hid (w.grownBy (w2.freeze ⟨g, 0, none⟩ s.size) none) := ⟨hfin.os, hfin.tape, hfin.output, hfin.size, fun k hk _ => hfin.block k (by rw [← hg]; exact hk)⟩
    have hpos : (0 : Int) < (s.size : Int) := by omega
    clear hfin hbl1 hbl2 hb1 hb2 hC hCl hCs hw1 hw2 hZ hZs hg hi hz0 hz1 hz2 hsz1
    go_enter Tryz.func30, Tryz.ntmps30
    go_wp2
    go_ret
    exact ⟨rfl, HFIN.out⟩

theorem qsclone (w : World) (s : ByteArray) (hs : s.size ≤ 6000) :
    Calls Tryz.prog 17 #[.string s] w fun e w' => e = .returned (.string s) ∧ w.grownBy w' none := by
  have HC := qslclone w s hs
  go_enter Tryz.func17, Tryz.ntmps17
  go_wp2_with (go_at_call 30; refine HC.mono ?_; rintro e w1 ⟨rfl, hg1⟩)
  go_ret
  exact ⟨rfl, hg1⟩
end Go.Proofs.YtncmgnmcggkhnaaGreat

namespace Go.Proofs.YtncmgnmcggkhnaaGreat
open Go.RowKit

theorem infoStr : (Tryz.prog.info? 9).map (fun i => (i.zero, i.size, i.bytes)) = some (some (.string ⟨#[]⟩), 1, 16) := by kernel_rfl

def strV (l : List UInt8) : Value := .string ⟨l.toArray⟩

theorem strV_data (s : ByteArray) : strV s.data.toList = .string s := by
  unfold strV
  rfl

/-- a reader in memory: its head, the bytes of its frames, where it is, the block of what it keeps -/
def readerC (h : Head) (pv : Value) (pos gM : Nat) : Array Value :=
  #[.int .i64 h.block, .int .i64 h.rate, .int .i64 h.channels, .int .i64 h.bits, .int .i64 h.total, pv, .int .i64 pos, .map (some gM)]

/-- what Open's function has made of the frames ahead: a list of their bytes -/
def JOpen (gV gB gM base : Nat) (h : Head) (w : World) (l : List Fr) (S : Nat → Prop) : Prop :=
  Box w gV #[.pointer (some ⟨gB, 0, none⟩)] 31 ∧ gM < gB ∧ gB < gV ∧ gV < base ∧ base ≤ w.heap.size ∧ w.heap[gM]? = some (.map #[] 0) ∧
    ∃ pv, Box w gB (readerC h pv 0 gM) 52 ∧ w.ownsRow base 9 1 pv l.length (l.map fun p => strV p.1) ∧ ∀ b, S b ↔ (b = gB ∨ pv.ownBlock = some b)

set_option maxHeartbeats 4000000 in
set_option maxRecDepth 20000 in
theorem take_open (gV gB gM base : Nat) (h : Head) : TakeOk 16 #[.pointer (some ⟨gV, 0, none⟩)] h (JOpen gV gB gM base h) := by
  refine ⟨?_, ?_, ?_⟩
  · intro w l S hJ b hb
    obtain ⟨_, _, _, _, h5, _, pv, hB, hrow, hS⟩ := hJ
    rcases (hS b).1 hb with rfl | e
    · exact hB.lt
    · exact (World.ownsRow.lt hrow b e).2
  · intro w w' l S hJ hg
    obtain ⟨h1, h2, h3, h4, h5, h6, pv, hB, hrow, hS⟩ := hJ
    refine ⟨h1.kept hg (by simp), h2, h3, h4, Nat.le_trans h5 hg.size, ?_, pv, hB.kept hg (by simp), ownsRow_kp hrow (Kp.ofNone (S := fun _ => False) hg) (fun _ _ e => e), hS⟩
    have hlt : gM < w.heap.size := by
      rcases Nat.lt_or_ge gM w.heap.size with h1 | h1
      · exact h1
      · rw [Array.getElem?_eq_none h1] at h6; cases h6
    rw [hg.block gM hlt (by simp), h6]
  · intro W l S D part chs v n total hJ _ _ _ _ _ _ _ _ hll hps
    obtain ⟨h1, h2, h3, h4, h5, h6, pv, hB, hrow, hS⟩ := hJ
    obtain ⟨i0, hi, hz0, hz1, hz2⟩ := info_parts infoStr
    have HI : Hid _ := hi
    have HZ0 : Hid _ := hz0
    have HZ1 : Hid _ := hz1
    have HZ2 : Hid _ := hz2
    clear hi hz0 hz1 hz2
    have HCL := fun w => qsclone w part hps
    obtain ⟨ap, cp, rfl⟩ := row_slice hrow
    obtain ⟨m, hm⟩ : ∃ m, l.length = m := ⟨_, rfl⟩
    obtain ⟨vs, hvs⟩ : ∃ vs, l.map (fun p => strV p.1) = vs := ⟨_, rfl⟩
    rw [hm] at hll
    rw [hm, hvs] at hrow
    rw [hm] at hB hS
    have hlt := World.ownsRow.lt hrow
    have HOWN : Hid (∀ w4 o, W.grownBy w4 none → (w4.alloc o).ownsRow base 9 1 (.slice ap m cp) m vs) := by
      intro w4 o hg4
      exact World.ownsRow.alloc (ownsRow_kp hrow (Kp.ofNone (S := fun _ => False) hg4) (fun _ _ e => e)) o
    have HBASE : Hid (∀ (w4 : World) o, W.grownBy w4 none → base ≤ (w4.alloc o).heap.size) := by
      intro w4 o hg4
      exact Nat.le_trans (Nat.le_trans h5 hg4.size) (by simp)
    have cV : W.cell? ⟨gV, 0, none⟩ = some (.pointer (some ⟨gB, 0, none⟩)) := h1.cell 0
    have cB : W.cell? ⟨gB, 5, none⟩ = some (.slice ap m cp) := hB.cell 5
    have fB := hB.fz 5
    have HV : Hid (∀ (w5 : World) o (w4 : World), W.grownBy w4 none → (w4.alloc o).grownBy w5 (Value.slice ap m cp).ownBlock → Box w5 gV #[.pointer (some ⟨gB, 0, none⟩)] 31 ∧ Box w5 gB (readerC h (.slice ap m cp) 0 gM) 52) := by
      intro w5 o w4 hg4 hg5
      have hga : W.grownBy (w4.alloc o) none := grown_alloc hg4 _
      refine ⟨(h1.kept hga (by simp)).kept hg5 (fun e => ?_), (hB.kept hga (by simp)).kept hg5 (fun e => ?_)⟩
      · have := (hlt gV e.symm).1; omega
      · have := (hlt gB e.symm).1; omega
    have hgM : gM < W.heap.size := by omega
    have hfin : ∀ (w4 : World) o (g cap' : Nat) (w5 : World), W.grownBy w4 none → (w4.alloc o).grownBy w5 (Value.slice ap m cp).ownBlock → w5.ownsRow base 9 1 (.slice (some ⟨g, 0, none⟩) (m + 1) cap') (m + 1) (vs ++ [.string part]) →
        ((Value.slice ap m cp).ownBlock = some g ∨ g = (w4.alloc o).heap.size) → TakePost (JOpen gV gB gM base h) W l S (part.data.toList, chs) (.returned (.tuple #[])) (w5.setCell ⟨gB, 5, none⟩ (.slice (some ⟨g, 0, none⟩) (m + 1) cap')) := by
      intro w4 o g cap' w5 hg4 hg5 hrow5 hat
      have hga : W.grownBy (w4.alloc o) none := grown_alloc hg4 _
      have hk5 : Kp W w5 S := (Kp.ofNone (S := S) hga).trans (Kp.of hg5) (fun b hb => .inl ((hS b).2 (.inr hb.symm)))
      have hgs := grown_set w5 gB 5 (.slice (some ⟨g, 0, none⟩) (m + 1) cap')
      have hk6 : Kp W (w5.setCell ⟨gB, 5, none⟩ (.slice (some ⟨g, 0, none⟩) (m + 1) cap')) S := hk5.trans (Kp.of hgs) (fun b hb => .inl ((hS b).2 (.inl (by injection hb))))
      have hgb := (World.ownsRow.lt hrow5 g rfl).1
      obtain ⟨bV, bB⟩ := HV.out w5 o w4 hg4 hg5
      refine ⟨rfl, hk6, fun b => b = gB ∨ b = g, ⟨bV.kept hgs (by simp; omega), h2, h3, h4, Nat.le_trans h5 hk6.size, ?_, _, bB.set 5 (.slice (some ⟨g, 0, none⟩) (m + 1) cap'), ?_, fun b => ?_⟩, fun b hb => ?_⟩
      · rw [hk6.block gM hgM (fun e => ?_), h6]
        rcases (hS gM).1 e with e | e
        · omega
        · have := (hlt gM e).1; omega
      · have := ownsRow_kp hrow5 (Kp.of hgs) (fun q hq e => by have hq' : g = q := (by simpa [Value.ownBlock] using hq); injection e with e; omega)
        rw [List.length_append, List.length_singleton, hm, List.map_append, hvs, List.map_singleton, strV_data]
        exact this
      · show (b = gB ∨ b = g) ↔ (b = gB ∨ some g = some b)
        constructor
        · rintro (e | e)
          · exact .inl e
          · exact .inr (by rw [e])
        · rintro (e | e)
          · exact .inl e
          · injection e with e
            exact .inr e.symm
      · rcases hb with e | e
        · exact .inl ((hS b).2 (.inl e))
        · rcases hat with h9 | h9
          · exact .inl ((hS b).2 (.inr (by rw [e]; exact h9)))
          · refine .inr ?_
            have := hga.size
            omega
    have HFIN : Hid _ := hfin
    show Calls Tryz.prog 16 #[.string part, v, .pointer (some ⟨gV, 0, none⟩)] W _
    have HD : Hid (∀ d, W.grownBy (W.drewN d) none) := fun d => grown_drewN (grown_refl _ _) d
    clear hfin hrow hS hB h1 h6 hm hvs hlt hgM
    go_enter Tryz.func16, Tryz.ntmps16
    go_upto_region 0 with fail
    go_region_law ((first
      | (refine step_append_lies _ (by rfl) (.tmp 9) (.tmp 12) 50 (by rfl) base 9 i0 (.string ⟨#[]⟩) 1 16 Tryz.underlying50 HI.out HZ0.out HZ1.out HZ2.out rfl (by decide) (.slice ap m cp) m vs (by simp [Act.eval]) (HOWN.out w4 _ hg4) ⟨w4.heap.size, 0, none⟩ 1 1 [.string part] (by simp [Act.eval]) rfl (one_elem w4 _ _) (by intro u hu; rw [List.mem_singleton.1 hu]; rfl) (by omega) (by unfold maxLen; omega) (by omega) (HBASE.out w4 _ hg4) _ rfl ?_; intro g cap' w5 hrow' hgrow hat hglt; have cV5 : w5.cell? ⟨gV, 0, none⟩ = some (.pointer (some ⟨gB, 0, none⟩)) := (HV.out w5 _ w4 hg4 hgrow).1.cell 0; have cB5 : w5.cell? ⟨gB, 5, none⟩ = some (.slice ap m cp) := (HV.out w5 _ w4 hg4 hgrow).2.cell 5; have fB5 := (HV.out w5 _ w4 hg4 hgrow).2.fz 5; have HROW' : Hid _ := hrow'; have HGROW : Hid _ := hgrow; have HAT : Hid _ := hat; clear hrow' hgrow hat)
      | (go_simp; go_at_call 17; refine (HCL _).mono ?_; rintro e w4 ⟨rfl, hg4d⟩; have hg4 : W.grownBy w4 none := grown_trans (grown_drew (grown_refl W none)) hg4d; have cV4 := hg4.cell cV (by simp); have cB4 := hg4.cell cB (by simp); have cV4a := (grown_alloc hg4 (.cells #[.string part] 9)).cell cV (by simp); have cB4a := (grown_alloc hg4 (.cells #[.string part] 9)).cell cB (by simp))))
    all_goals
      exact bodyPost_end (v := .tuple #[]) (by simp [results, Tryz.results16, go_sem]) rfl (HFIN.out w4 _ g cap' w5 hg4 HGROW.out HROW'.out HAT.out)
end Go.Proofs.YtncmgnmcggkhnaaGreat

namespace Go.Proofs.YtncmgnmcggkhnaaGreat
open Go.RowKit

/-- a reader in memory, as Open leaves it: the bytes of the frames of a stream that is right -/
def RdrNew (w : World) (base gB : Nat) (rate bits : Nat) (chs : List (List Int)) : Prop :=
  ∃ (h : Head) (l : List Fr) (pv : Value) (gM : Nat) (D : List UInt8) (ended : Bool), h.rate = rate ∧ h.bits = bits ∧ joined h.channels l = chs ∧ Fls h D l D.length ended ∧ headOk h = true ∧ 1 ≤ h.channels ∧ (chs.headD []).length = h.total ∧ D.length ≤ 6000 ∧
    base ≤ gM ∧ gM < gB ∧ Box w gB (readerC h pv 0 gM) 52 ∧ w.heap[gM]? = some (.map #[] 0) ∧ ∃ b2, gB < b2 ∧ w.ownsRow b2 9 1 pv l.length (l.map fun p => strV p.1)

def OpenPost (w : World) (s : ByteArray) (e : Ending) (w' : World) : Prop :=
  w.grownBy w' none ∧ match decode s.data.toList with
    | .inl (er, p) => e = .returned (.tuple #[.pointer none, .int .i64 er, .int .i64 p])
    | .inr (r, b, chs) => ∃ gB, e = .returned (.tuple #[.pointer (some ⟨gB, 0, none⟩), .int .i64 0, .int .i64 0]) ∧ RdrNew w' w.heap.size gB r b chs

set_option maxHeartbeats 4000000 in
set_option maxRecDepth 20000 in
theorem qopen (w : World) (s : ByteArray) (hsz : s.size ≤ maxLen) :
    Calls Tryz.prog 7 #[.string s] w (OpenPost w s) := by
  have HPH := fun w => qphead w s hsz
  clear hsz
  go_enter Tryz.func7, Tryz.ntmps7
  go_wp2_with fail
  refine (HPH w).mono ?_
  rintro e w1 ⟨hg1, hv, d, er, rfl, hcase⟩
  clear HPH
  have hvf : ∃ b1 b2 b3 b4 b5 : Int, hv = .agg #[.int .i64 b1, .int .i64 b2, .int .i64 b3, .int .i64 b4, .int .i64 b5] := by
    rcases hcase with ⟨_, rfl, _⟩ | ⟨_, rfl, _⟩ | ⟨_, _, h, _, _, rfl, _⟩
    · exact ⟨_, _, _, _, _, rfl⟩
    · exact ⟨_, _, _, _, _, rfl⟩
    · exact ⟨_, _, _, _, _, rfl⟩
  obtain ⟨b1, b2, b3, b4, b5, rfl⟩ := hvf
  obtain ⟨w2, hw2⟩ : ∃ w2, w1.alloc (.cells #[Value.int .i64 b1, .int .i64 b2, .int .i64 b3, .int .i64 b4, .int .i64 b5] 46) = w2 := ⟨_, rfl⟩
  have hg2 : w1.grownBy w2 none := by rw [← hw2]; exact grown_alloc (grown_refl _ _) _
  have hgg2 := grown_trans hg1 hg2
  obtain ⟨gH, hgH⟩ : ∃ gH, w1.heap.size = gH := ⟨_, rfl⟩
  have hbh2 : Box w2 gH #[Value.int .i64 b1, .int .i64 b2, .int .i64 b3, .int .i64 b4, .int .i64 b5] 46 := by rw [← hgH, ← hw2]; exact Box.new _ _ _
  have hs2 : w2.heap.size = gH + 1 := by rw [← hw2, ← hgH]; simp
  have HW2 : Hid (w1.alloc (.cells #[Value.int .i64 b1, .int .i64 b2, .int .i64 b3, .int .i64 b4, .int .i64 b5] 46) = w2) := hw2
  have HGH : Hid (w1.heap.size = gH) := hgH
  have HS2 : Hid (w2.heap.size = gH + 1) := hs2
  have hwH : w.heap.size ≤ gH := by rw [← hgH]; exact hg1.size
  clear hg1 hw2 hgH hg2 hs2
  go_upto_region 2 with fail
  rw [HW2.out, HGH.out]
  clear HW2 HGH
  by_cases her : er ≠ 0
  · have hd : decode s.data.toList = .err er 0 := by
      rcases hcase with ⟨rfl, _, hlong⟩ | ⟨rfl, _, hs, hnone⟩ | ⟨h1, _⟩
      · exact decode_long s hlong
      · exact decode_meta s hs hnone
      · exact absurd h1 her
    have hpost : OpenPost w s (.returned (.tuple #[.pointer none, .int .i64 er, .int .i64 0])) w2 := ⟨hgg2, by rw [hd]; rfl⟩
    have te : ((er : Int) != 0) = true := by simp; omega
    clear hd hcase her
    go_wp2
    exact bodyPost_ret (v := .tuple #[.pointer none, .int .i64 er, .int .i64 0]) (by simp [results, Tryz.results7, go_sem]) rfl hpost
  have her0 : er = 0 := by omega
  subst her0
  obtain ⟨hs, h, at', hat, hhv, rfl, hpb⟩ : s.size ≤ 6000 ∧ ∃ (h : Head) (at' : Nat), at' ≤ s.size ∧ Value.agg #[.int .i64 b1, .int .i64 b2, .int .i64 b3, .int .i64 b4, .int .i64 b5] = .agg (headC h) ∧ d = s.extract at' s.size ∧ pBlocks (bitsOf s.data.toList) = some (h, bitsOf (s.data.toList.drop at')) := by
    rcases hcase with ⟨h1, _⟩ | ⟨h1, _⟩ | ⟨_, h2, h3⟩
    · omega
    · omega
    · exact ⟨h2, h3⟩
  clear hcase her
  have hb5 : b1 = h.block ∧ b2 = h.rate ∧ b3 = h.channels ∧ b4 = h.bits ∧ b5 = h.total := by
    unfold headC at hhv
    injection hhv with e
    injection e with e
    injection e with e1 e
    injection e with e2 e
    injection e with e3 e
    injection e with e4 e
    injection e with e5 e
    injection e1 with _ e1
    injection e2 with _ e2
    injection e3 with _ e3
    injection e4 with _ e4
    injection e5 with _ e5
    exact ⟨e1, e2, e3, e4, e5⟩
  obtain ⟨rfl, rfl, rfl, rfl, rfl⟩ := hb5
  clear hhv
  have hspec := pBlocks_spec hpb (by rw [total_bits]; omega)
  have hc1 := hspec.2.2.2
  have hhok := hspec.2.2.1
  have hb1 : 16 ≤ h.block ∧ h.block ≤ 256 ∧ 4 ≤ h.bits ∧ h.bits ≤ 16 ∧ h.rate ≤ 655350 ∧ h.total ≤ 1200 ∧ h.channels ≤ 2 := by unfold headOk at hhok; simp at hhok; omega
  have HHOK : Hid (headOk h = true) := hhok
  have hdf := decode_frames s hs hpb
  have hrl : s.size - (bitsOf (s.data.toList.drop at')).length / 8 = at' := by rw [bitsOf_length, List.length_drop, dlen]; omega
  rw [hrl] at hdf
  have hex : (s.extract at' s.size).data.toList = s.data.toList.drop at' := by rw [extract_list, List.take_of_length_le (by rw [List.length_drop, dlen]; omega)]
  have hexs : (s.extract at' s.size).size = s.size - at' := by rw [← dlen, hex, List.length_drop, dlen]
  rw [frames_fuel h (s.size + 1) ((s.extract at' s.size).size + 1) 0 0 false _ _ (by rw [List.length_drop, dlen]; omega) (by rw [List.length_drop, dlen]; omega), ← hex] at hdf
  obtain ⟨d, hd⟩ : ∃ d, s.extract at' s.size = d := ⟨_, rfl⟩
  rw [hd] at hdf hexs ⊢
  obtain ⟨res, hres⟩ : ∃ res, frames h (d.size + 1) 0 0 false (List.replicate h.channels []) d.data.toList = res := ⟨_, rfl⟩
  have HRES : Hid (frames h (d.size + 1) 0 0 false (List.replicate h.channels []) d.data.toList = res) := hres
  rw [hres] at hdf
  have HDF : Hid (decode s.data.toList = ansOf h res) := hdf
  have hdsz : d.size ≤ 6000 := by omega
  clear hdf hres hex hexs hrl hhok hspec hpb hd hat
  have e0 : w2.cell? ⟨gH, 0, none⟩ = some (.int .i64 h.block) := hbh2.cell 0
  have e1 : w2.cell? ⟨gH, 1, none⟩ = some (.int .i64 h.rate) := hbh2.cell 1
  have e2 : w2.cell? ⟨gH, 2, none⟩ = some (.int .i64 h.channels) := hbh2.cell 2
  have e3 : w2.cell? ⟨gH, 3, none⟩ = some (.int .i64 h.bits) := hbh2.cell 3
  have e4 : w2.cell? ⟨gH, 4, none⟩ = some (.int .i64 h.total) := hbh2.cell 4
  have hmm := @run_makeMap Tryz.prog
  go_upto_region 5 with fail
  obtain ⟨gM, hgM⟩ : ∃ gM, w2.heap.size = gM := ⟨_, rfl⟩
  rw [hgM]
  obtain ⟨w5, hw5⟩ : ∃ w5, (((w2.alloc (.map #[] 0)).alloc (.cells #[.int .i64 h.block, .int .i64 h.rate, .int .i64 h.channels, .int .i64 h.bits, .int .i64 h.total, .slice none 0 0, .int .i64 0, .map (some gM)] 52)).alloc (.cells #[.pointer (some ⟨gM + 1, 0, none⟩)] 31)) = w5 := ⟨_, rfl⟩
  rw [hw5]
  have hg5 : w2.grownBy w5 none := by rw [← hw5]; exact grown_alloc (grown_alloc (grown_alloc (grown_refl _ _) _) _) _
  have hs5 : w5.heap.size = gM + 3 := by rw [← hw5, ← hgM]; simp
  have hm5 : w5.heap[gM]? = some (.map #[] 0) := by
    rw [← hw5, ← hgM]
    rw [Below.heap_alloc _ _ _ (by simp; omega), Below.heap_alloc _ _ _ (by simp)]
    show (w2.heap.push _)[w2.heap.size]? = _
    simp
  have hbB5 : Box w5 (gM + 1) (readerC h (.slice none 0 0) 0 gM) 52 := by
    have e : (w2.alloc (.map #[] 0)).heap.size = gM + 1 := by rw [← hgM]; simp
    rw [← hw5, ← e]
    exact (Box.new _ _ _).kept (grown_alloc (grown_refl _ none) _) (by simp)
  have hbV5 : Box w5 (gM + 2) #[.pointer (some ⟨gM + 1, 0, none⟩)] 31 := by
    have e : ((w2.alloc (.map #[] 0)).alloc (.cells #[.int .i64 h.block, .int .i64 h.rate, .int .i64 h.channels, .int .i64 h.bits, .int .i64 h.total, .slice none 0 0, .int .i64 0, .map (some gM)] 52)).heap.size = gM + 2 := by rw [← hgM]; simp
    rw [← hw5, ← e]
    exact Box.new _ _ _
  have hgg5 := grown_trans hgg2 hg5
  have hbh5 := hbh2.kept hg5 (by simp)
  have hwM : w.heap.size ≤ gM := by rw [← hgM]; exact hgg2.size
  have hJ0 : JOpen (gM + 2) (gM + 1) gM (gM + 3) h w5 [] (fun b => b = gM + 1 ∨ (Value.slice none 0 0).ownBlock = some b) :=
    ⟨hbV5, by omega, by omega, by omega, by omega, hm5, _, hbB5, World.ownsRow_nil _ _ _ _, fun b => Iff.rfl⟩
  have HEA := qeachframe w5 d h res 16 #[.pointer (some ⟨gM + 2, 0, none⟩)] _ _ (enters_of Tryz.func16 (by kernel_rfl) rfl) (take_open (gM + 2) (gM + 1) gM (gM + 3) h) hJ0 hdsz hc1 (by omega) (by omega) (by omega) (by omega) HRES.out
  clear e0 e1 e2 e3 e4 hw5 hgM hg5 hs5 hm5 hbB5 hmm
  have e0 : w5.cell? ⟨gH, 0, none⟩ = some (.int .i64 h.block) := hbh5.cell 0
  have e1 : w5.cell? ⟨gH, 1, none⟩ = some (.int .i64 h.rate) := hbh5.cell 1
  have e2 : w5.cell? ⟨gH, 2, none⟩ = some (.int .i64 h.channels) := hbh5.cell 2
  have e3 : w5.cell? ⟨gH, 3, none⟩ = some (.int .i64 h.bits) := hbh5.cell 3
  have e4 : w5.cell? ⟨gH, 4, none⟩ = some (.int .i64 h.total) := hbh5.cell 4
  unfold headC at HEA
  go_wp2_with fail
  refine HEA.mono ?_
  intro e w6 hpost
  obtain ⟨er, k, rfl⟩ := each_shape hpost
  clear HEA e0 e1 e2 e3 e4 hbh5 hbh2
  have hk6 : Kp w5 w6 (fun b => b = gM + 1 ∨ (Value.slice none 0 0).ownBlock = some b) := by obtain ⟨_, _, _, hk, _⟩ := hpost; exact hk
  have hgg6 : w.grownBy w6 none := by
    refine ⟨hk6.os.trans hgg5.os, hk6.tape.trans hgg5.tape, hk6.output.trans hgg5.output, Nat.le_trans hgg5.size hk6.size, fun b hb hn => ?_⟩
    rw [hk6.block b (Nat.lt_of_lt_of_le hb hgg5.size) (fun e => by rcases e with e | e; omega; cases e), hgg5.block b hb hn]
  by_cases her : er ≠ 0
  · have hd : decode s.data.toList = .err er k := by rw [HDF.out]; exact each_err hpost her
    have hpo : OpenPost w s (.returned (.tuple #[.pointer none, .int .i64 er, .int .i64 k])) w6 := ⟨hgg6, by rw [hd]⟩
    have te : ((er : Int) != 0) = true := by simp; omega
    clear hd her hpost hJ0 hk6
    go_wp2
    exact bodyPost_ret (v := .tuple #[.pointer none, .int .i64 er, .int .i64 k]) (by simp [results, Tryz.results7, go_sem]) rfl hpo
  have her0 : er = 0 := by omega
  subst her0
  obtain ⟨rfl, l, S', hJ, _, hS', hres, hans, ended, hfls⟩ := each_ok hpost
  have hd : decode s.data.toList = .sound h.rate h.bits (joined h.channels l) := by rw [HDF.out]; exact hans
  obtain ⟨bV6, j1, j2, j3, j4, j5, pv, bB6, hrow6, _⟩ := hJ
  have htot : ((joined h.channels l).headD []).length = h.total := by
    rw [hres] at hans
    unfold ansOf at hans
    by_cases hc : ((joined h.channels l).headD []).length = h.total
    · exact hc
    · simp only at hans
      rw [if_neg hc] at hans
      cases hans
  have hpo : OpenPost w s (.returned (.tuple #[.pointer (some ⟨gM + 1, 0, none⟩), .int .i64 0, .int .i64 0])) w6 := by
    refine ⟨hgg6, ?_⟩
    rw [hd]
    exact ⟨gM + 1, rfl, h, l, pv, gM, d.data.toList, ended, rfl, rfl, rfl, hfls, HHOK.out, hc1, htot, by rw [dlen]; exact hdsz, hwM, j1, bB6, j5, gM + 3, by omega, hrow6⟩
  have eV : w6.cell? ⟨gM + 2, 0, none⟩ = some (.pointer (some ⟨gM + 1, 0, none⟩)) := bV6.cell 0
  clear hd her hpost hJ0 hk6 hres hans hS' hfls bV6 bB6 hrow6 j5 htot
  go_wp2
  exact bodyPost_ret (v := .tuple #[.pointer (some ⟨gM + 1, 0, none⟩), .int .i64 0, .int .i64 0]) (by simp [results, Tryz.results7, go_sem]) rfl hpo
end Go.Proofs.YtncmgnmcggkhnaaGreat
