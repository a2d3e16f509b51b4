import Derived.Test.YtodbbdknkffceaaDecProofJ28
namespace Go.Proofs.Ytodbbdknkffceaa
open Go.RowKit

theorem Ls.below {w w' : World} {B : Nat} {v : Value} {xs : List Int} (h : Ls w v xs) (hb : Below B w w') (hB : w.heap.size ≤ B) : Ls w' v xs := by
  rcases h with h | ⟨g, cap, hv, hc⟩
  · exact .inl h
  · exact .inr ⟨g, cap, hv, fun i hi => by rw [hb.cell (p := ⟨g, i, none⟩) (by have := World.block_lt_of_cell? w _ (hc i hi); show g < B; exact Nat.lt_of_lt_of_le this hB)]; exact hc i hi⟩

theorem Ls2.below {w w' : World} {B : Nat} {v : Value} {xs : List (List Int)} (h : Ls2 w v xs) (hb : Below B w w') (hB : w.heap.size ≤ B) : Ls2 w' v xs := by
  rcases h with h | ⟨g, cap, hv, hc⟩
  · exact .inl h
  · exact .inr ⟨g, cap, hv, fun i hi => by
      obtain ⟨u, hu, hl⟩ := hc i hi
      exact ⟨u, by rw [hb.cell (p := ⟨g, i, none⟩) (by have := World.block_lt_of_cell? w _ hu; show g < B; exact Nat.lt_of_lt_of_le this hB)]; exact hu, hl.below hb hB⟩⟩

theorem below_box {w w' : World} {B g : Nat} {cs : Array Value} {t : TypeId} (hb : Below B w w') (h : Box w g cs t) (hg : g < B) : Box w' g cs t := by
  unfold Box at *
  rw [hb.block g hg, h]

theorem Subs.new {w w' : World} {base : Nat} {lv : Value} {vs : List Value} {xss : List (List Int)} (h : Subs w base lv vs xss) (hg : w.grownBy w' none) : Subs w' base lv vs xss :=
  ⟨World.ownsRow.kept h.row hg (own_side fun g _ => by simp), h.len, fun i hi => World.ownsRow.kept (h.own i hi) hg (own_side fun g _ => by simp), h.apartL, h.apartV⟩

set_option maxHeartbeats 4000000 in
set_option maxRecDepth 20000 in
theorem decodes_walk (s : ByteArray) (hz : s.size ≤ 140737488351232) (w : World) :
    Calls Try.prog 4 #[.string s] w fun e w' => e = .returned (.bool true) ∧ Below w.heap.size w w' := by
  have hsz : s.size ≤ maxLen := by unfold maxLen; omega
  have hab := ans_bounds s
  have HSZ : Hid (s.size ≤ maxLen) := hsz
  clear hsz
  go_enter Try.func4, Try.ntmps4
  go_wp2_with fail
  refine (qdecode w _ (by unfold maxLen; decide)).mono ?_
  rintro e w1 hdp
  obtain ⟨hg1, lv, vs, he, hsubs⟩ := dec_parts (A := .sound 1 8 [[]]) empty_dec hdp
  have he' : e = .returned (.tuple #[.agg #[.int .i64 1, .int .i64 8, lv], .int .i64 0, .int .i64 0]) := he
  subst he'
  have hsubs' : Subs w1 w.heap.size lv vs [[]] := hsubs
  have hvl : vs.length = 1 := hsubs'.len
  obtain ⟨lg, lcap, hlv, _, _, hc⟩ := hsubs'.cell (by omega)
  rw [hvl] at hlv
  subst hlv
  obtain ⟨a0, c0, hv0⟩ := own_slice (hsubs'.own 0 (by omega))
  have hl0 := hc 0 (by omega)
  rw [hv0] at hl0
  clear hdp he hsubs hsubs' hc hv0 hvl
  obtain ⟨w2, hw2⟩ : ∃ w2, w1.alloc (.cells #[.int .i64 1, .int .i64 8, .slice (some ⟨lg, 0, none⟩) 1 lcap] 26) = w2 := ⟨_, rfl⟩
  obtain ⟨gX, hgX⟩ : ∃ gX, w1.heap.size = gX := ⟨_, rfl⟩
  have hg2 : w1.grownBy w2 none := by rw [← hw2]; exact grown_alloc (grown_refl _ _) _
  have hbX : Box w2 gX #[.int .i64 1, .int .i64 8, .slice (some ⟨lg, 0, none⟩) 1 lcap] 26 := by rw [← hgX, ← hw2]; exact Box.new _ _ _
  have hgg2 := grown_trans hg1 hg2
  have hl2 : w2.cell? ⟨lg, 0, none⟩ = some (.slice a0 0 c0) := cell_kept hl0 hg2
  have HW2 : Hid (w1.alloc (.cells #[.int .i64 1, .int .i64 8, .slice (some ⟨lg, 0, none⟩) 1 lcap] 26) = w2) := hw2
  have HGX : Hid (w1.heap.size = gX) := hgX
  clear hw2 hgX hg1 hg2 hl0
  go_upto_region 2 with fail
  rw [HW2.out, HGX.out]
  clear HW2 HGX
  have x0 : w2.cell? ⟨gX, 0, none⟩ = some (.int .i64 1) := hbX.cell 0
  have x1 : w2.cell? ⟨gX, 1, none⟩ = some (.int .i64 8) := hbX.cell 1
  have x2 : w2.cell? ⟨gX, 2, none⟩ = some (.slice (some ⟨lg, 0, none⟩) 1 lcap) := hbX.cell 2
  go_wp2_with fail
  clear x0 x1 x2 hl2 hbX
  refine (rdecode w2 s HSZ.out).mono ?_
  rintro e w3 hdp
  obtain ⟨A, hA⟩ : ∃ A, decode s.data.toList = A := ⟨_, rfl⟩
  obtain ⟨hg3, lvr, vsr, rfl, hsr⟩ := dec_parts hA hdp
  rw [hA] at hab
  have HA : Hid (decode s.data.toList = A) := hA
  obtain ⟨R, hR⟩ : ∃ R, ansRate A = R := ⟨_, rfl⟩
  obtain ⟨Bt, hBt⟩ : ∃ Bt, ansBits A = Bt := ⟨_, rfl⟩
  obtain ⟨Er, hEr⟩ : ∃ Er, ansErr A = Er := ⟨_, rfl⟩
  obtain ⟨At, hAt⟩ : ∃ At, ansAt A = At := ⟨_, rfl⟩
  obtain ⟨C, hC⟩ : ∃ C, ansChs A = C := ⟨_, rfl⟩
  have HP : Hid (∀ w, Calls Try.prog 13 #[.string s] w fun e w' => w.grownBy w' none ∧ ∃ lv vs, e = .returned (.tuple #[.agg #[.int .i64 R, .int .i64 Bt, lv], .int .i64 Er, .int .i64 At]) ∧ Subs w' w.heap.size lv vs C) := by
    intro w
    refine (qdecode w s HSZ.out).mono ?_
    intro e w' hd
    rw [← hR, ← hBt, ← hEr, ← hAt, ← hC]
    exact dec_parts HA.out hd
  rw [hR, hBt, hEr, hAt]
  rw [hC] at hab hsr
  obtain ⟨ar, cr, hlr⟩ := row_slice hsr.row
  have hls := hsr.ls2
  have hgg3 := grown_trans hgg2 hg3
  subst hlr
  obtain ⟨nr, hnr⟩ : ∃ nr, vsr.length = nr := ⟨_, rfl⟩
  rw [hnr] at hls ⊢
  clear hA hR hBt hEr hAt hC hdp hsr hnr hg3 hgg2
  have h2 := two_new w3 _ rfl #[Value.int .i64 R, .int .i64 Bt, .slice ar nr cr] #[Value.slice none 0 0, .slice none 0 0] 26 34
  obtain ⟨gW, hgW⟩ : ∃ gW, w3.heap.size = gW := ⟨_, rfl⟩
  obtain ⟨w5, hw5⟩ : ∃ w5, (w3.alloc (.cells #[Value.int .i64 R, .int .i64 Bt, .slice ar nr cr] 26)).alloc (.cells #[Value.slice none 0 0, .slice none 0 0] 34) = w5 := ⟨_, rfl⟩
  rw [hw5] at h2
  have HW5 : Hid ((w3.alloc (.cells #[Value.int .i64 R, .int .i64 Bt, .slice ar nr cr] 26)).alloc (.cells #[Value.slice none 0 0, .slice none 0 0] 34) = w5) := hw5
  have HGW : Hid (w3.heap.size = gW) := hgW
  clear hw5 hgW
  obtain ⟨hg5, hbW, hbB⟩ := h2
  have hbook := BookOk.start hbB
  rw [HGW.out] at hbW hbook
  go_upto_region 6 with fail
  rw [HW5.out, HGW.out]
  clear HW5
  go_wp2_with fail
  go_loopg [10] 2 (fun gq t10 wq => ∃ (i N M : Nat), gq + i = 2 ∧ t10 = .int .i64 i ∧ N % 4 = 0 ∧ N ≤ 8 * i ∧ M = 4 * i ∧ BookOk wq (gW + 1) N M ∧ Below (gW + 1) w5 wq)
  case atStart => exact ⟨0, 0, 0, rfl, rfl, rfl, by omega, rfl, hbook, Below.refl _ _⟩
  case round =>
    obtain ⟨i, N, M, hgq, rfl, hN4, hNb, hM, hbk, hbel⟩ := hrel
    by_cases hi : i < 2
    · have hbW1 := below_box hbel hbW (by omega)
      have hlsq : Ls2 wr (.slice ar nr cr) C := by
        refine hls.below (B := w3.heap.size) ?_ (Nat.le_refl _)
        exact ((Below.refl w3.heap.size w3).grown hg5 (Nat.le_refl _) (fun k e => by cases e)).trans (hbel.mono (by rw [HGW.out]; omega))
      have hbB1 : gW + 1 ≤ wr.heap.size := by have h1 := hbB.lt; have h2 := hbel.size; rw [HGW.out] at h1; omega
      go_wp2_with fail
      refine (HP.out wr).mono ?_
      rintro e w6 ⟨hg6, lv, vs, rfl, hsubs⟩
      obtain ⟨sa, cs, hlv⟩ := row_slice hsubs.row
      subst hlv
      obtain ⟨ns, hns⟩ : ∃ ns, vs.length = ns := ⟨_, rfl⟩
      rw [hns] at hsubs ⊢
      clear hns
      obtain ⟨w7, hw7⟩ : ∃ w7, w6.alloc (.cells #[.int .i64 R, .int .i64 Bt, .slice sa ns cs] 26) = w7 := ⟨_, rfl⟩
      obtain ⟨gS, hgS⟩ : ∃ gS, w6.heap.size = gS := ⟨_, rfl⟩
      have hg7 : w6.grownBy w7 none := by rw [← hw7]; exact grown_alloc (grown_refl _ _) _
      have hbS : Box w7 gS #[.int .i64 R, .int .i64 Bt, .slice sa ns cs] 26 := by rw [← hgS, ← hw7]; exact Box.new _ _ _
      have hgr7 := grown_trans hg6 hg7
      have hsubs7 := hsubs.new hg7
      have hbW7 := hbW1.kept hgr7 (by simp)
      have hls7 := hlsq.kept hgr7
      have HW7 : Hid (w6.alloc (.cells #[.int .i64 R, .int .i64 Bt, .slice sa ns cs] 26) = w7) := hw7
      have HGS : Hid (w6.heap.size = gS) := hgS
      clear hw7 hgS hg6 hg7 hsubs
      go_upto_region 10 with fail
      rw [HW7.out, HGS.out]
      clear HW7 HGS
      have s0 : w7.cell? ⟨gS, 0, none⟩ = some (.int .i64 R) := hbS.cell 0
      have s1 : w7.cell? ⟨gS, 1, none⟩ = some (.int .i64 Bt) := hbS.cell 1
      have s2 : w7.cell? ⟨gS, 2, none⟩ = some (.slice sa ns cs) := hbS.cell 2
      have v0 : w7.cell? ⟨gW, 0, none⟩ = some (.int .i64 R) := hbW7.cell 0
      have v1 : w7.cell? ⟨gW, 1, none⟩ = some (.int .i64 Bt) := hbW7.cell 1
      have v2 : w7.cell? ⟨gW, 2, none⟩ = some (.slice ar nr cr) := hbW7.cell 2
      have hsame := same_sound w7 (.slice sa ns cs) (.slice ar nr cr) R Bt R Bt C C hsubs7.ls2 hls7 (by omega) (by omega) (fun j hj => by have := hab.2 j hj; omega) (fun j hj => by have := hab.2 j hj; omega)
      have hok : (decide (C = C) && ((R : Int) == (R : Int)) && ((Bt : Int) == (Bt : Int))) = true := by simp
      rw [hok] at hsame
      unfold soundV at hsame
      clear hok
      go_wp2_with fail
      refine hsame.mono ?_
      rintro e w8 ⟨rfl, hg8⟩
      have hgr8 := grown_trans hgr7 hg8
      have hsubs8 := hsubs7.new hg8
      have t2 : w8.cell? ⟨gS, 2, none⟩ = some (.slice sa ns cs) := cell_kept s2 hg8
      have hkeep := hbk.keep hgr8 hsubs8 (Nat.le_refl _) hN4 (by omega) (by omega) (by omega) hab.1 hab.2
      clear hsame s0 s1 s2 v0 v1 v2 hsubs7 hsubs8 hls7 hbW7 hbS
      go_wp2_with fail
      refine hkeep.mono ?_
      rintro e w9 ⟨rfl, hbel9, hbk9⟩
      have hlooks := hbk9.looks (by omega) (by omega)
      clear hkeep t2
      go_wp2_with fail
      refine hlooks.mono ?_
      rintro e w10 ⟨rfl, rfl⟩
      have hbelf : Below (gW + 1) w5 w10 := (hbel.grown hgr8 hbB1 (fun k e => by cases e)).trans hbel9
      have HBK : Hid _ := hbk9
      have HBF : Hid _ := hbelf
      have hC2 := hab.1
      obtain ⟨cl, hcl⟩ : ∃ cl, C.length = cl := ⟨_, rfl⟩
      rw [hcl] at hC2 HBK
      have n1 : ((Er : Int) != (Er : Int)) = false := by simp
      have n2 : ((At : Int) != (At : Int)) = false := by simp
      clear hlooks hbk9 hbelf hbk hbel hbel9 hgr8 hgr7 hg8 hcl
      go_wp2
      go_roundg (gk - 1)
      case measure => omega
      case rel => exact ⟨i + 1, N + 4 * cl, M + 4, by omega, by go_num, by omega, by omega, by omega, HBK.out, HBF.out⟩
    · have hfin : Below w.heap.size w wr := by
        have h1 := (Below.refl w.heap.size w).grown hgg3 (Nat.le_refl _) (fun k e => by cases e)
        have h2 := h1.grown hg5 hgg3.size (fun k e => by cases e)
        have hws := hgg3.size
        rw [HGW.out] at hws
        exact h2.trans (hbel.mono (by omega))
      clear hbk hbel
      go_wp2
      go_ret
      exact ⟨rfl, hfin⟩
end Go.Proofs.Ytodbbdknkffceaa
