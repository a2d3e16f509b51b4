import Derived.Test.YtncmgnmcggkhnaaG07
import Derived.Test.YtncmgnmcggkhnaaG15
import Derived.Test.YtncmgnmcggkhnaaG42
import Derived.Test.YtncmgnmcggkhnaaG43
import Derived.Test.YtncmgnmcggkhnaaG44
import Derived.Test.YtncmgnmcggkhnaaG38
import Derived.Test.YtncmgnmcggkhnaaG30
namespace Go.Proofs.Ytncmgnmcggkhnaa
open Go.RowKit

theorem bytes_data (l : List UInt8) : (⟨l.toArray⟩ : ByteArray).data.toList = l := rfl
theorem bytes_size (l : List UInt8) : (⟨l.toArray⟩ : ByteArray).size = l.length := by show l.toArray.size = _; rw [List.size_toArray]

/-- where a stream's answer is a sound -/
theorem sound_ans {w w' : World} {s : ByteArray} {e : Ending} {r b : Nat} {chs : List (List Int)} (hA : decode s.data.toList = .sound r b chs) (h : DecPost w s e w') :
    w.grownBy w' none ∧ ∃ lv vs, e = .returned (.tuple #[.agg #[.int .i64 r, .int .i64 b, lv], .int .i64 0, .int .i64 0]) ∧ Subs w' w.heap.size lv vs chs := by
  obtain ⟨hg, h⟩ := h
  rw [hA] at h
  exact ⟨hg, h⟩

theorem Subs.lsTwo {w : World} {base : Nat} {lv : Value} {vs : List Value} {xss : List (List Int)} (h : Subs w base lv vs xss) : Ls2 w lv xss := by
  have hl := h.len
  rcases Nat.eq_zero_or_pos vs.length with h0 | hpos
  · have hx : xss = [] := List.eq_nil_of_length_eq_zero (by omega)
    subst hx
    rcases h.row.2 with ⟨hv, _⟩ | ⟨g, cap, cur, hv, _⟩
    · exact .inl ⟨hv, rfl⟩
    · exact .inr ⟨g, cap, by rw [hv, h0]; rfl, fun i hi => by simp at hi⟩
  · obtain ⟨lg, lcap, hv, _, _, hc⟩ := h.cell hpos
    exact .inr ⟨lg, lcap, by rw [hv, hl], fun i hi => ⟨_, hc i (by omega), (h.own i (by omega)).ls⟩⟩
end Go.Proofs.Ytncmgnmcggkhnaa

namespace Go.Proofs.Ytncmgnmcggkhnaa
open Go.RowKit

/-- the sound of nothing has a stream of 42 bytes -/
def SmallPost (w : World) (e : Ending) (w' : World) : Prop := ∃ st : ByteArray, e = .returned (.tuple #[.string st, .int .i64 0]) ∧ st.size = 42 ∧ w.grownBy w' none

theorem qencode_small (w : World) (v : Value) (h : Ins w (fun q => q < w.heap.size) v [[]]) :
    Calls Try.prog 21 #[.agg #[.int .i64 1, .int .i64 8, v], .int .i64 16] w (SmallPost w) := by
  refine (qencode w v 1 8 16 [[]] h (by decide) (fun c hc => by rw [List.mem_singleton.1 hc]; decide)).mono ?_
  intro e w' ⟨hg, hp⟩
  rcases hp with ⟨hh, hr, rfl⟩ | ⟨hno, _⟩
  · refine ⟨_, rfl, ?_, hg⟩
    obtain ⟨h1, h2, h3, hs⟩ := hr
    have h4 := hs.ch
    have h5 := hs.len [] (by simp)
    obtain ⟨b, r, c, bt, t⟩ := hh
    simp at h1 h2 h3 h4 h5
    have e1 : r = 1 := by omega
    have e2 : bt = 8 := by omega
    have e3 : b = 16 := by omega
    subst e1 e2 e3 h4 h5
    rw [bytes_size]
    unfold encode
    rw [List.length_append, headBytes_length]
    rfl
  · refine absurd (RightB.rightIn (rate := 1) (bits := 8) (chs := [[]]) ?_ 16 (by decide)) (hno _)
    refine ⟨by decide, by decide, by decide, by decide, by decide, by decide, fun c hc => ?_⟩
    rw [List.mem_singleton.1 hc]
    exact ⟨rfl, by decide, fun x hx => by cases hx⟩

set_option maxHeartbeats 4000000 in
set_option maxRecDepth 20000 in
theorem encodes_walk (w : World) (vs : Value) (rate bits block : Int) (chs : List (List Int)) (hs : RSnd w vs chs) (hcl : chs.length + 8 ≤ 11728124029610) (hlen : ∀ c ∈ chs, c.length ≤ 17592186044416)
    (hb64 : -9223372036854775808 ≤ block ∧ block ≤ 9223372036854775807) :
    Calls Try.prog 5 #[.agg #[.int .i64 rate, .int .i64 bits, vs], .int .i64 block] w fun e w' => e = .returned (.bool true) ∧ w.grownBy w' none := by
  obtain ⟨a, c, rfl⟩ := hs.slice
  obtain ⟨n, hn⟩ : ∃ n, chs.length = n := ⟨_, rfl⟩
  have HN : Hid (chs.length = n) := hn
  have HCL : Hid (chs.length + 8 ≤ 11728124029610) := hcl
  have HLEN : Hid (∀ c ∈ chs, c.length ≤ 17592186044416) := hlen
  have HRS : Hid (RSnd w (.slice a chs.length c) chs) := hs
  rw [hn] at HRS ⊢
  clear hn hs hlen hcl
  go_enter Try.func5, Try.ntmps5
  go_upto_region 1 with fail
  go_wp2_with fail
  obtain ⟨gS, hgS⟩ : ∃ gS, w.heap.size = gS := ⟨_, rfl⟩
  obtain ⟨w1, hw1⟩ : ∃ w1, ((w.alloc (.cells #[.int .i64 rate, .int .i64 bits, .slice a n c] 26)).alloc (.cells #[] 3)).alloc (.cells #[.slice (some ⟨w.heap.size + 1, 0, none⟩) 0 0] 30) = w1 := ⟨_, rfl⟩
  have hg1 : w.grownBy w1 none := by rw [← hw1]; exact grown_alloc (grown_alloc (grown_alloc (grown_refl _ _) _) _) _
  have hbS : Box w1 gS #[.int .i64 rate, .int .i64 bits, .slice a n c] 26 := by
    rw [← hgS, ← hw1]
    exact (Box.new w _ _).kept (grown_alloc (grown_alloc (grown_refl _ none) _) _) (by simp)
  have hins1 : Ins w1 (fun q => q < w1.heap.size) (.slice (some ⟨gS + 1 + 1, 0, none⟩) 1 1) [[]] := by
    have hs3 : w1.heap.size = gS + 3 := by rw [← hw1, ← hgS]; simp
    have hs2 : ((w.alloc (.cells #[.int .i64 rate, .int .i64 bits, .slice a n c] 26)).alloc (.cells #[] 3)).heap.size = gS + 1 + 1 := by rw [← hgS]; simp
    have hb3 : Box w1 (gS + 1 + 1) #[.slice (some ⟨w.heap.size + 1, 0, none⟩) 0 0] 30 := by rw [← hs2, ← hw1]; exact Box.new _ _ _
    refine .inr ⟨gS + 1 + 1, 1, rfl, by omega, by omega, fun i hi => ?_⟩
    obtain rfl : i = 0 := by simpa using hi
    refine ⟨.slice (some ⟨w.heap.size + 1, 0, none⟩) 0 0, hb3.cell 0, .inr ⟨w.heap.size + 1, 0, 0, rfl, Nat.le_refl _, by omega, by omega, fun j hj => by simp at hj⟩⟩
  rw [hw1, hgS]
  clear hw1 hgS
  refine (qencode_small w1 _ hins1).mono ?_
  rintro e w2 ⟨st0, rfl, hst0, hg2⟩
  have hgg2 := grown_trans hg1 hg2
  have hbS2 := hbS.kept hg2 (by simp)
  have HRS2 : Hid (RSnd w2 (.slice a n c) chs) := HRS.out.kept hgg2
  have s0 : w2.cell? ⟨gS, 0, none⟩ = some (.int .i64 rate) := hbS2.cell 0
  have s1 : w2.cell? ⟨gS, 1, none⟩ = some (.int .i64 bits) := hbS2.cell 1
  have s2 : w2.cell? ⟨gS, 2, none⟩ = some (.slice a n c) := hbS2.cell 2
  have t42 : ((st0.size : Int) != 42) = false := by rw [hst0]; rfl
  clear hins1 hbS hg2 hg1 HRS hst0
  have HLE : Calls _ _ _ _ _ := llent w2 (.slice a n c) rate bits chs HRS2.out HCL.out HLEN.out
  go_wp2_with fail
  refine HLE.mono ?_
  rintro e w3 ⟨vx, rfl, hlx, hg3⟩
  clear HLE
  obtain ⟨lgx, hvx, _⟩ := id hlx
  rw [HN.out] at hvx
  subst hvx
  obtain ⟨gX, hgX⟩ : ∃ gX, w3.heap.size = gX := ⟨_, rfl⟩
  obtain ⟨w4, hw4⟩ : ∃ w4, w3.alloc (.cells #[.int .i64 rate, .int .i64 bits, .slice (some ⟨lgx, 0, none⟩) n (n + 8)] 26) = w4 := ⟨_, rfl⟩
  have hg4 : w3.grownBy w4 none := by rw [← hw4]; exact grown_alloc (grown_refl _ _) _
  have hbX : Box w4 gX #[.int .i64 rate, .int .i64 bits, .slice (some ⟨lgx, 0, none⟩) n (n + 8)] 26 := by rw [← hgX, ← hw4]; exact Box.new _ _ _
  have hgr4 := grown_trans hg3 hg4
  have hgg4 := grown_trans hgg2 hgr4
  have hbS4 := hbS2.kept hgr4 (by simp)
  have hlx4 := hlx.kept hg4
  have HRS4 : Hid (RSnd w4 (.slice a n c) chs) := HRS2.out.kept hgr4
  have HW4 : Hid (w3.alloc (.cells #[.int .i64 rate, .int .i64 bits, .slice (some ⟨lgx, 0, none⟩) n (n + 8)] 26) = w4) := hw4
  have HGX : Hid (w3.heap.size = gX) := hgX
  have x0 : w4.cell? ⟨gX, 0, none⟩ = some (.int .i64 rate) := hbX.cell 0
  have x1 : w4.cell? ⟨gX, 1, none⟩ = some (.int .i64 bits) := hbX.cell 1
  have x2 : w4.cell? ⟨gX, 2, none⟩ = some (.slice (some ⟨lgx, 0, none⟩) n (n + 8)) := hbX.cell 2
  have HEN := qencode w4 _ rate bits block chs hlx4.ins (by have := HCL.out; omega) HLEN.out
  clear hw4 hgX hg3 hg4 hgr4 hlx hbS2 HRS2 s0 s1 s2
  go_upto_region 5 with fail
  rw [HW4.out, HGX.out]
  clear HW4 HGX
  go_wp2_with fail
  refine HEN.mono ?_
  rintro e w5 ⟨hg5, hp5⟩
  clear HEN x0 x1 x2
  have hgg5 := grown_trans hgg4 hg5
  have hbX5 := hbX.kept hg5 (by simp)
  have hbS5 := hbS4.kept hg5 (by simp)
  have hlx5 := hlx4.kept hg5
  have HRS5 : Hid (RSnd w5 (.slice a n c) chs) := HRS4.out.kept hg5
  have HAL : Calls _ _ _ _ _ := laslent w5 (.slice (some ⟨lgx, 0, none⟩) n (n + 8)) (.slice a n c) rate bits chs hlx5 HRS5.out (by have := HCL.out; omega) HLEN.out
  have x0 : w5.cell? ⟨gX, 0, none⟩ = some (.int .i64 rate) := hbX5.cell 0
  have x1 : w5.cell? ⟨gX, 1, none⟩ = some (.int .i64 bits) := hbX5.cell 1
  have x2 : w5.cell? ⟨gX, 2, none⟩ = some (.slice (some ⟨lgx, 0, none⟩) n (n + 8)) := hbX5.cell 2
  have s0 : w5.cell? ⟨gS, 0, none⟩ = some (.int .i64 rate) := hbS5.cell 0
  have s1 : w5.cell? ⟨gS, 1, none⟩ = some (.int .i64 bits) := hbS5.cell 1
  have s2 : w5.cell? ⟨gS, 2, none⟩ = some (.slice a n c) := hbS5.cell 2
  clear hbX hbS4 hlx4 HRS4 hg5 hgg4 hgg2 hbX5 hlx5
  rcases hp5 with ⟨hh, hri, rfl⟩ | ⟨hno, rfl⟩
  · have hrb := RightIn.rightB hri
    obtain ⟨hrt, hbt, hbl, hRS⟩ := hri
    have hel := hRS.encode_len
    have hdec := hRS.decode
    have hsz := bytes_size (encode hh chs)
    have hdt := bytes_data (encode hh chs)
    have HBK : Hid (∀ w, Calls Try.prog 26 #[.string ⟨(encode hh chs).toArray⟩, .int .i64 block] w fun e w' => e = .returned (.bool true) ∧ ∃ d, w' = w.drewN d) := by
      intro w
      rw [← hbl]
      exact lblocks_encode w hh chs hRS
    have HMO : Hid (∀ w, RSnd w (.slice a n c) chs → Calls Try.prog 25 #[.agg #[.int .i64 rate, .int .i64 bits, .slice a n c], .int .i64 block] w (MostPost w hh chs)) := by
      intro w hw
      rw [← hbl, ← hbt]
      exact rmost w _ rate hh chs hRS hw
    have HDC : Hid (decode (encode hh chs) = .sound hh.rate hh.bits chs) := hdec
    obtain ⟨L, hL⟩ : ∃ L, (encode hh chs).length = L := ⟨_, rfl⟩
    rw [hL] at hel hsz
    obtain ⟨st, hst⟩ : ∃ st, (⟨(encode hh chs).toArray⟩ : ByteArray) = st := ⟨_, rfl⟩
    rw [hst] at hsz hdt HBK ⊢
    have HSZ : Hid (st.size = L) := hsz
    have HDT : Hid (st.data.toList = encode hh chs) := hdt
    have HRT : Hid ((hh.rate : Int) = rate) := hrt
    have HBT : Hid ((hh.bits : Int) = bits) := hbt
    have HLL : Hid ((encode hh chs).length = L) := hL
    have t1 : decide (block < 16) = false := decide_eq_false (by omega)
    have t2 : decide (256 < block) = false := decide_eq_false (by omega)
    clear hst hsz hdt hdec hrt hbt hbl hL
    go_wp2_with fail
    refine HAL.mono ?_
    rintro e w6 ⟨rfl, hg6⟩
    clear HAL x0 x1 x2 s0 s1 s2
    have hgg6 := grown_trans hgg5 hg6
    have hbS6 := hbS5.kept hg6 (by simp)
    have HRS6 : Hid (RSnd w6 (.slice a n c) chs) := HRS5.out.kept hg6
    have s0 : w6.cell? ⟨gS, 0, none⟩ = some (.int .i64 rate) := hbS6.cell 0
    have s1 : w6.cell? ⟨gS, 1, none⟩ = some (.int .i64 bits) := hbS6.cell 1
    have s2 : w6.cell? ⟨gS, 2, none⟩ = some (.slice a n c) := hbS6.cell 2
    have HIS := rissound w6 (.slice a n c) rate bits chs HRS6.out (by have := HCL.out; omega) HLEN.out
    go_wp2_with fail
    refine HIS.mono ?_
    rintro e w7 ⟨hg7, ok, rfl, hok⟩
    obtain rfl : ok = true := hok.2 hrb.1
    have hgg7 := grown_trans hgg6 hg7
    have hbS7 := hbS6.kept hg7 (by simp)
    have HRS7 : Hid (RSnd w7 (.slice a n c) chs) := HRS6.out.kept hg7
    have HDE := rdecode w7 st (by rw [HSZ.out]; unfold maxLen; omega)
    clear HIS hok s0 s1 s2 hbS6 HRS6 HRS5 hbS5 hg7 hg6 hgg6 hgg5
    go_wp2_with fail
    refine HDE.mono ?_
    intro e w8 hdp
    obtain ⟨hg8, lv, vs8, he', hsubs⟩ := sound_ans (r := hh.rate) (b := hh.bits) (chs := chs) (by rw [HDT.out]; exact HDC.out) hdp
    rw [HRT.out, HBT.out] at he'
    subst he'
    have hls : Ls2 w8 lv chs := hsubs.lsTwo
    have hrd8 := hls.rds
    obtain ⟨ay, cy, hlv⟩ := hrd8.slice
    rw [HN.out] at hlv
    subst hlv
    have hgg8 := grown_trans hgg7 hg8
    have hbS8 := hbS7.kept hg8 (by simp)
    have HRS8 : Hid (RSnd w8 (.slice a n c) chs) := HRS7.out.kept hg8
    clear HDE hdp hsubs hls hbS7 HRS7 hg8 hgg7
    obtain ⟨gY, hgY⟩ : ∃ gY, w8.heap.size = gY := ⟨_, rfl⟩
    obtain ⟨w9, hw9⟩ : ∃ w9, w8.alloc (.cells #[.int .i64 rate, .int .i64 bits, .slice ay n cy] 26) = w9 := ⟨_, rfl⟩
    have hg9 : w8.grownBy w9 none := by rw [← hw9]; exact grown_alloc (grown_refl _ _) _
    have hbY : Box w9 gY #[.int .i64 rate, .int .i64 bits, .slice ay n cy] 26 := by rw [← hgY, ← hw9]; exact Box.new _ _ _
    have hgg9 := grown_trans hgg8 hg9
    have hbS9 := hbS8.kept hg9 (by simp)
    have HRS9 : Hid (RSnd w9 (.slice a n c) chs) := HRS8.out.kept hg9
    have hrd9 := hrd8.kept hg9
    have HW9 : Hid (w8.alloc (.cells #[.int .i64 rate, .int .i64 bits, .slice ay n cy] 26) = w9) := hw9
    have HGY : Hid (w8.heap.size = gY) := hgY
    have HSA := lsame w9 (.slice ay n cy) (.slice a n c) rate bits chs hrd9 HRS9.out.rds (by have := HCL.out; omega) HLEN.out
    have y0 : w9.cell? ⟨gY, 0, none⟩ = some (.int .i64 rate) := hbY.cell 0
    have y1 : w9.cell? ⟨gY, 1, none⟩ = some (.int .i64 bits) := hbY.cell 1
    have y2 : w9.cell? ⟨gY, 2, none⟩ = some (.slice ay n cy) := hbY.cell 2
    have s0 : w9.cell? ⟨gS, 0, none⟩ = some (.int .i64 rate) := hbS9.cell 0
    have s1 : w9.cell? ⟨gS, 1, none⟩ = some (.int .i64 bits) := hbS9.cell 1
    have s2 : w9.cell? ⟨gS, 2, none⟩ = some (.slice a n c) := hbS9.cell 2
    clear hw9 hgY hg9 hgg8 hbS8 HRS8 hrd8 hrd9 hbY
    go_upto_region 13 with fail
    rw [HW9.out, HGY.out]
    clear HW9 HGY
    go_wp2_with fail
    refine HSA.mono ?_
    rintro e w10 ⟨rfl, hg10⟩
    have hgg10 := grown_trans hgg9 hg10
    have hbS10 := hbS9.kept hg10 (by simp)
    have HM10 := HMO.out w10 (HRS9.out.kept hg10)
    clear HSA y0 y1 y2 s0 s1 s2 hbS9 HRS9 hgg9 hg10
    have s0 : w10.cell? ⟨gS, 0, none⟩ = some (.int .i64 rate) := hbS10.cell 0
    have s1 : w10.cell? ⟨gS, 1, none⟩ = some (.int .i64 bits) := hbS10.cell 1
    have s2 : w10.cell? ⟨gS, 2, none⟩ = some (.slice a n c) := hbS10.cell 2
    go_wp2_with fail
    refine HM10.mono ?_
    rintro e w11 ⟨m, rfl, hm1, hm2, hg11⟩
    have HGF : Hid (w.grownBy w11 none) := grown_trans hgg10 hg11
    have HB11 := HBK.out w11
    rw [HLL.out, ← HSZ.out] at hm1
    have t3 : decide ((st.size : Int) ≤ (m : Int)) = true := decide_eq_true (by omega)
    clear HM10 s0 s1 s2 hbS10 hgg10 hg11 HMO HBK
    go_wp2_with fail
    refine HB11.mono ?_
    rintro e w12 ⟨rfl, d, rfl⟩
    clear HB11
    go_wp2
    exact bodyPost_ret (v := .bool true) (by simp [results, Try.results5, go_sem]) rfl ⟨rfl, grown_drewN HGF.out d⟩
  · go_wp2_with fail
    refine HAL.mono ?_
    rintro e w6 ⟨rfl, hg6⟩
    clear HAL x0 x1 x2 s0 s1 s2
    have hgg6 := grown_trans hgg5 hg6
    have hbS6 := hbS5.kept hg6 (by simp)
    have HRS6 : Hid (RSnd w6 (.slice a n c) chs) := HRS5.out.kept hg6
    have s0 : w6.cell? ⟨gS, 0, none⟩ = some (.int .i64 rate) := hbS6.cell 0
    have s1 : w6.cell? ⟨gS, 1, none⟩ = some (.int .i64 bits) := hbS6.cell 1
    have s2 : w6.cell? ⟨gS, 2, none⟩ = some (.slice a n c) := hbS6.cell 2
    have HIS := rissound w6 (.slice a n c) rate bits chs HRS6.out (by have := HCL.out; omega) HLEN.out
    go_wp2_with fail
    refine HIS.mono ?_
    rintro e w7 ⟨hg7, ok, rfl, hok⟩
    have hgg7 := grown_trans hgg6 hg7
    have hbad : ok = false ∨ block < 16 ∨ 256 < block := by
      by_cases h1 : ok = true
      · rcases Int.lt_or_le block 16 with h2 | h2
        · exact .inr (.inl h2)
        rcases Int.lt_or_le 256 block with h3 | h3
        · exact .inr (.inr h3)
        obtain ⟨b, rfl⟩ : ∃ b : Nat, block = (b : Int) := ⟨block.toNat, by omega⟩
        exact absurd (RightB.rightIn (hok.1 h1) b (by omega)) (hno _)
      · exact .inl (by simpa using h1)
    clear HIS hok hno s0 s1 s2 hbS6 HRS6 HRS5 hbS5 hg7 hg6
    have HGF : Hid (w.grownBy w7 none) := hgg7
    clear hgg7 hgg6 hgg5
    cases ok with
    | false =>
      clear hbad
      go_wp2
      exact bodyPost_ret (v := .bool true) (by simp [results, Try.results5, go_sem]) rfl ⟨rfl, HGF.out⟩
    | true =>
      rcases Int.lt_or_le block 16 with h2 | h2
      · have t1 : decide (block < 16) = true := decide_eq_true h2
        clear hbad
        go_wp2
        exact bodyPost_ret (v := .bool true) (by simp [results, Try.results5, go_sem]) rfl ⟨rfl, HGF.out⟩
      · have t1 : decide (block < 16) = false := decide_eq_false (by omega)
        have h3 : 256 < block := by
          rcases hbad with h | h | h
          · cases h
          · omega
          · exact h
        have t2 : decide (256 < block) = true := decide_eq_true h3
        clear hbad
        go_wp2
        exact bodyPost_ret (v := .bool true) (by simp [results, Try.results5, go_sem]) rfl ⟨rfl, HGF.out⟩
end Go.Proofs.Ytncmgnmcggkhnaa
