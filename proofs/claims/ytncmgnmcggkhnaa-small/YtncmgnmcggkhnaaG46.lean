import Derived.Test.YtncmgnmcggkhnaaG26
import Derived.Test.YtncmgnmcggkhnaaG32
namespace Go.Proofs.Ytncmgnmcggkhnaa
open Go.RowKit

/-- what goes up and down by little -/
def Near (l : List Int) : Prop := ∀ i, i + 1 < l.length → -2 ≤ l.getD (i + 1) 0 - l.getD i 0 ∧ l.getD (i + 1) 0 - l.getD i 0 ≤ 2

theorem Near.drop {l : List Int} (h : Near l) (k : Nat) : Near (l.drop k) := by
  intro i hi
  rw [List.length_drop] at hi
  have e : ∀ j, (l.drop k).getD j 0 = l.getD (k + j) 0 := fun j => by simp [List.getD, List.getElem?_drop]
  rw [e, e]
  exact h (k + i) (by omega)

theorem Near.take {l : List Int} (h : Near l) (k : Nat) : Near (l.take k) := by
  intro i hi
  rw [List.length_take] at hi
  have e : ∀ j, j < k → (l.take k).getD j 0 = l.getD j 0 := fun j hj => by simp [List.getD, hj]
  rw [e _ (by omega), e _ (by omega)]
  exact h i (by omega)

theorem Near.snoc {l : List Int} (h : Near l) (x : Int) (hx : ∀ k, l.length = k + 1 → -2 ≤ x - l.getD k 0 ∧ x - l.getD k 0 ≤ 2) : Near (l ++ [x]) := by
  intro i hi
  rw [List.length_append, List.length_singleton] at hi
  rcases (show i + 1 < l.length ∨ l.length = i + 1 by omega) with h1 | h1
  · rw [getD_snoc_lt _ _ _ _ h1, getD_snoc_lt _ _ _ _ (by omega)]
    exact h i h1
  · rw [← h1, getD_snoc_eq, getD_snoc_lt _ _ _ _ (by omega)]
    exact hx i h1

theorem near_miss {l : List Int} (h : Near l) : ∀ v ∈ miss (fixedFactors 1) (l.take 1).reverse (l.drop 1), -2 ≤ v ∧ v ≤ 2 := by
  intro v hv
  obtain ⟨i, hi0, rfl⟩ := List.mem_iff_getElem.1 hv
  have hi := hi0
  rw [miss_length, List.length_drop] at hi
  have e := miss_at (fixedFactors 1) l 1 i (by omega)
  have e2 : (miss (fixedFactors 1) (l.take 1).reverse (l.drop 1)).getD i 0 = (miss (fixedFactors 1) (l.take 1).reverse (l.drop 1))[i]'hi0 := by
    rw [List.getD, List.getElem?_eq_getElem hi0]
    rfl
  rw [← e2, e]
  have hl : i < l.length := by omega
  have e3 : dot (fixedFactors 1) (l.take (1 + i)).reverse = l.getD i 0 := by
    rw [Nat.add_comm 1 i, List.take_succ_eq_append_getElem hl, List.reverse_append]
    simp [fixedFactors, dot, List.getD, hl]
  rw [e3, Nat.add_comm 1 i]
  exact h i (by omega)

theorem part_small : ∀ xs : List Int, (∀ v ∈ xs, -2 ≤ v ∧ v ≤ 2) → partLen xs 2 ≤ xs.length * 4
  | [], _ => by simp [partLen]
  | x :: xs, h => by
    have ih := part_small xs (fun y hy => h y (by simp [hy]))
    have h1 := fold1_le (M := 2) (h x (by simp))
    have h2 : fold1 x / 2 ^ 2 ≤ 1 := by show fold1 x / 4 ≤ 1; omega
    unfold partLen at *
    rw [List.map_cons, List.sum_cons, List.length_cons, Nat.succ_mul]
    omega

theorem near_cost (wide : Nat) {l : List Int} (h : Near l) (hne : 1 ≤ l.length) : subCost wide (shortest wide l) ≤ 8 + wide + 10 + 4 * (l.length - 1) := by
  have hmem : fixedOf l 1 ∈ others l := by
    unfold others
    refine List.mem_append.2 (.inr (List.mem_map.2 ⟨1, ?_, rfl⟩))
    rw [List.mem_range]
    omega
  have h1 := (pickBest_spec (subCost wide) (others l) (.plain l)).2.2 _ hmem
  obtain ⟨R, hR⟩ : ∃ R, miss (fixedFactors 1) (l.take 1).reverse (l.drop 1) = R := ⟨_, rfl⟩
  have hRl : R.length = l.length - 1 := by rw [← hR, miss_length, List.length_drop]
  have h2 : subCost wide (fixedOf l 1) = 8 + (1 * wide + (10 + partLen R (bestK R))) := by
    show (subBits wide (fixedOf l 1)).length = _
    unfold fixedOf
    rw [hR]
    show (kindBits _ ++ (listBits wide _ ++ resBits _ _)).length = _
    rw [List.length_append, List.length_append, listBits_length, resBits_length, List.length_take, Nat.min_eq_left hne]
    have : (kindBits (8 + min 1 l.length)).length = 8 := by unfold kindBits; simp [numBits_length]
    rw [Nat.min_eq_left hne] at this
    rw [this]
  have h3 := bestK_min R 2 (by omega)
  have h4 := part_small R (by rw [← hR]; exact near_miss h)
  unfold shortest
  omega

theorem frames_bound (h : Head) (chs : List (List Int)) (F : Nat) : ∀ n, (∀ i, i < n → (encFr h chs i).length ≤ F) → ((List.range n).flatMap (encFr h chs)).length ≤ n * F
  | 0, _ => by simp
  | n + 1, hF => by
    have ih := frames_bound h chs F n (fun i hi => hF i (by omega))
    have h1 := hF n (by omega)
    rw [List.range_succ, List.flatMap_append, List.length_append, Nat.succ_mul]
    simp only [List.flatMap_cons, List.flatMap_nil, List.append_nil]
    omega

theorem small_len {h : Head} {l : List Int} (hr : RightS h [l]) (hn : Near l) : (encode h [l]).length ≤ 42 + nFrames h * (16 + (8 + h.bits + 10 + 4 * h.block + 7) / 8) := by
  have hb := frames_bound h [l] (16 + (8 + h.bits + 10 + 4 * h.block + 7) / 8) (nFrames h) (fun i hi => by
    have hi' := (hr.nframes i).1 hi
    have hl : l.length = h.total := hr.len l (by simp)
    rw [encFr_len_eq]
    have hc := near_cost h.bits ((hn.drop (i * h.block)).take h.block) (by
      rw [List.length_take, List.length_drop, hl]
      obtain ⟨b1, _⟩ := headOk_parts hr.ok
      omega)
    have hcl : ((l.drop (i * h.block)).take h.block).length ≤ h.block := by rw [List.length_take]; omega
    unfold chunk
    simp only [List.map_cons, List.map_nil, List.sum_cons, List.sum_nil]
    omega)
  unfold encode
  rw [List.length_append, headBytes_length]
  omega
end Go.Proofs.Ytncmgnmcggkhnaa

namespace Go.Proofs.Ytncmgnmcggkhnaa
open Go.RowKit

set_option maxHeartbeats 4000000 in
set_option maxRecDepth 20000 in
theorem small_walk (w : World) (start slope many wide block : Int) (h1 : -9223372036854775808 ≤ start ∧ start ≤ 9223372036854775807) (h2 : -9223372036854775808 ≤ slope ∧ slope ≤ 9223372036854775807) (h3 : -9223372036854775808 ≤ many ∧ many ≤ 9223372036854775807)
    (h4 : -9223372036854775808 ≤ wide ∧ wide ≤ 9223372036854775807) (h5 : -9223372036854775808 ≤ block ∧ block ≤ 9223372036854775807) :
    Calls Try.prog 9 #[.int .i64 start, .int .i64 slope, .int .i64 many, .int .i64 wide, .int .i64 block] w fun e w' => e = .returned (.bool true) ∧ w.grownBy w' none := by
  have HP1 : Calls _ _ #[_, .int .i64 1201] _ _ := pick_any many 1201 w h3.1 h3.2 (by omega) (by omega)
  have HP2 : Calls _ _ #[_, .int .i64 13] _ _ := pick_any wide 13 w h4.1 h4.2 (by omega) (by omega)
  go_enter Try.func9, Try.ntmps9
  go_wp2_with fail
  refine HP1.mono ?_
  rintro e w9 ⟨n, hn, rfl, rfl⟩
  clear HP1
  go_wp2_with fail
  refine HP2.mono ?_
  rintro e w9 ⟨bn, hbn, rfl, rfl⟩
  clear HP2
  obtain ⟨bits, hbits⟩ : ∃ bits, 4 + bn = bits := ⟨_, rfl⟩
  have hbz : 4 + (bn : Int) = (bits : Int) := by omega
  have hb416 : 4 ≤ bits ∧ bits ≤ 16 := by omega
  obtain ⟨gS, hgS⟩ : ∃ gS, w9.heap.size = gS := ⟨_, rfl⟩
  obtain ⟨w1, hw1⟩ : ∃ w1, w9.alloc (.cells #[.int .i64 8000, .int .i64 bits, .slice none 0 0] 26) = w1 := ⟨_, rfl⟩
  have hg1 : w9.grownBy w1 none := by rw [← hw1]; exact grown_alloc (grown_refl _ _) _
  have hbs1 : Box w1 gS #[.int .i64 8000, .int .i64 bits, .slice none 0 0] 26 := by rw [← hgS, ← hw1]; exact Box.new _ _ _
  have hs1 : w1.heap.size = gS + 1 := by rw [← hw1, ← hgS]; simp
  have HW1 : Hid (w9.alloc (.cells #[.int .i64 8000, .int .i64 bits, .slice none 0 0] 26) = w1) := hw1
  have HGS : Hid (w9.heap.size = gS) := hgS
  have s1 : w1.cell? ⟨gS, 1, none⟩ = some (.int .i64 bits) := hbs1.cell 1
  clear hbits hbn hw1 hgS
  go_upto_region 3 with fail
  rw [HW1.out, HGS.out]
  clear HW1 hbz
  have hpow : (8 : Int) ≤ 2 ^ (bits - 1) ∧ (2 : Int) ^ (bits - 1) ≤ 32768 := by
    have h1 : 2 ^ (bits - 1) ≤ 2 ^ 15 := Nat.pow_le_pow_right (by omega) (by omega)
    have h2 : 2 ^ 3 ≤ 2 ^ (bits - 1) := Nat.pow_le_pow_right (by omega) (by omega)
    rw [show (2 : Int) ^ (bits - 1) = ((2 ^ (bits - 1) : Nat) : Int) by simp]
    omega
  have hb1z : ((bits : Int) - 1).toNat = bits - 1 := by omega
  have HP3 : Calls _ _ #[_, .int .i64 3] _ _ := pick_any slope 3 w1 h2.1 h2.2 (by omega) (by omega)
  go_wp2_with fail
  refine HP3.mono ?_
  rintro e w9' ⟨up0, hup0, rfl, rfl⟩
  clear HP3
  obtain ⟨P, hP⟩ : ∃ P : Nat, 2 ^ (bits - 1) = P := ⟨_, rfl⟩
  have hPz : (2 : Int) ^ (bits - 1) = (P : Int) := by rw [← hP]; simp
  rw [hPz] at hpow
  simp only [hPz]
  have HPZ : Hid (2 ^ (bits - 1) = P) := hP
  clear hP hb1z
  have HP4 : Calls _ _ #[_, .int .i64 P] _ _ := pick_any start P w9' h1.1 h1.2 (by omega) (by omega)
  go_wp2_with fail
  refine HP4.mono ?_
  rintro e w9'' ⟨x0, hx0, rfl, rfl⟩
  clear HP4
  obtain ⟨i0, hi, hz0, hz1, hz2⟩ := info_parts Try.info3
  have HI : Hid _ := hi
  have HZ0 : Hid _ := hz0
  have HZ1 : Hid _ := hz1
  have HZ2 : Hid _ := hz2
  have HG1 : Hid (w9.grownBy w9'' none) := hg1
  have HBS : Hid (Box w9'' gS #[.int .i64 8000, .int .i64 bits, .slice none 0 0] 26) := hbs1
  have HS1 : Hid (w9''.heap.size = gS + 1) := hs1
  clear hi hz0 hz1 hz2 hg1 hbs1 hs1 s1 hPz
  go_wp2_with fail
  go_loopg [14, 15, 16, 17] n (fun gk s14 s15 s16 s17 wq => ∃ (k : Nat) (up x : Int) (xs : List Int), gk + k = n ∧ s17 = .int .i64 k ∧ s14 = .int .i64 up ∧ s16 = .int .i64 x ∧ -2 ≤ up ∧ up ≤ 2 ∧ -(P : Int) + 1 ≤ x ∧ x ≤ (P : Int) - 1 ∧ xs.length = k ∧ Own wq (gS + 1) s15 xs ∧ w9''.grownBy wq none ∧
      (∀ y ∈ xs, -(P : Int) + 1 ≤ y ∧ y ≤ (P : Int) - 1) ∧ Near xs ∧ ∀ j, xs.length = j + 1 → -2 ≤ x - xs.getD j 0 ∧ x - xs.getD j 0 ≤ 2)
  case atStart => exact ⟨0, up0, x0, [], rfl, rfl, rfl, rfl, by omega, by omega, by omega, by omega, rfl, Own.nil _ _, grown_refl _ _, (fun y hy => by cases hy), (fun i hi => by simp at hi), fun j hj => by simp at hj⟩
  case round =>
    obtain ⟨k, up, x, xs, hgk, rfl, rfl, rfl, hu1, hu2, hx1, hx2, hxs, hown, hgr, hall, hnear, hlast⟩ := hrel
    by_cases hlt : k < n
    · have hkn : (k : Int) < (n : Int) := by omega
      obtain ⟨a15, c15, hv15⟩ := own_slice hown
      subst hv15
      have HXS : Hid (xs.length = k) := hxs
      rw [hxs] at hown ⊢
      have hrowA : wr.ownsRow (gS + 1) 3 1 (.slice a15 k c15) k (xs.map (Value.int .i64)) := by
        have h9 := hown
        unfold Own at h9
        rw [hxs] at h9
        exact h9
      have HRA : Hid _ := hrowA
      have HOWN : Hid (Own wr (gS + 1) (.slice a15 k c15) xs) := hown
      have hwoc : gS + 1 ≤ wr.heap.size := by have := hgr.size; have := HS1.out; omega
      have hnear4 : Near (xs ++ [x]) := hnear.snoc x (fun j hj => hlast j hj)
      have hall4 : ∀ y ∈ xs ++ [x], -(P : Int) + 1 ≤ y ∧ y ≤ (P : Int) - 1 := by
        intro y hy
        rcases List.mem_append.1 hy with hy | hy
        · exact hall y hy
        · rw [List.mem_singleton.1 hy]; omega
      have hlast4 : ∀ u : Int, (-2 ≤ u ∧ u ≤ 2) → ∀ j, (xs ++ [x]).length = j + 1 → -2 ≤ x + u - (xs ++ [x]).getD j 0 ∧ x + u - (xs ++ [x]).getD j 0 ≤ 2 := by
        intro u hu j hj
        rw [List.length_append, List.length_singleton] at hj
        have hj' : j = xs.length := by omega
        rw [hj', getD_snoc_eq]
        omega
      have HN4 : Hid _ := hnear4
      have HA4 : Hid _ := hall4
      have HL4 : Hid _ := hlast4
      clear hxs hown hrowA hnear hall hlast hnear4 hall4 hlast4
      go_wp2_with (first
        | (at_builtin; refine wpList_append_own _ rfl _ _ 30 rfl (gS + 1) 3 i0 (.int .i64 0) 1 8 Try.underlying30 HI.out HZ0.out HZ1.out HZ2.out rfl (by decide) _ _ _ rfl (World.ownsRow.alloc HRA.out _) ⟨wr.heap.size, 0, none⟩ 1 1 [.int .i64 x] rfl rfl ?c1 ?c2 ?c3 ?c4 ?c5 ?_))
      case c1 => exact one_new _ _ _
      case c2 => exact one_cell _
      case c3 => unfold maxLen; omega
      case c4 => omega
      case c5 => simp; omega
      intro v' w4 hown' hgrow _
      have hown4 : Own w4 (gS + 1) v' (xs ++ [x]) := by
        unfold Own
        rw [List.map_append, List.length_append, List.length_singleton, HXS.out]
        exact hown'
      obtain ⟨a16, c16, hv16⟩ := row_slice hown'
      subst hv16
      have hgrow2 := grown_from_alloc hgrow (fun g hg' => (HOWN.out.lt g hg').2)
      have hgr4 : w9''.grownBy w4 none := grown_new hgr hgrow2 (fun g hg' => by have := (HOWN.out.lt g hg').1; have := HS1.out; omega)
      clear hown' hgrow hgrow2 HOWN HRA hgr
      by_cases hc1 : (P : Int) - 1 < x + up
      · go_wp2
        go_roundg (gk - 1)
        case measure => omega
        case rel => exact ⟨k + 1, -up, x + -up, xs ++ [x], by omega, by go_num, rfl, by first | rfl | (congr 1; omega), by omega, by omega, by omega, by omega, by rw [List.length_append, HXS.out]; rfl, hown4, hgr4, HA4.out, HN4.out, HL4.out (-up) (by omega)⟩
      · by_cases hc2 : x + up < -((P : Int) - 1)
        · go_wp2
          go_roundg (gk - 1)
          case measure => omega
          case rel => exact ⟨k + 1, -up, x + -up, xs ++ [x], by omega, by go_num, rfl, by first | rfl | (congr 1; omega), by omega, by omega, by omega, by omega, by rw [List.length_append, HXS.out]; rfl, hown4, hgr4, HA4.out, HN4.out, HL4.out (-up) (by omega)⟩
        · go_wp2
          go_roundg (gk - 1)
          case measure => omega
          case rel => exact ⟨k + 1, up, x + up, xs ++ [x], by omega, by go_num, rfl, rfl, by omega, by omega, by omega, by omega, by rw [List.length_append, HXS.out]; rfl, hown4, hgr4, HA4.out, HN4.out, HL4.out up (by omega)⟩
    · have hkn : k = n := by omega
      subst hkn
      obtain ⟨a15, c15, hv15⟩ := own_slice hown
      subst hv15
      rw [hxs] at hown ⊢
      have HXS : Hid (xs.length = k) := hxs
      have hbs := Box.kept HBS.out hgr (by simp)
      obtain ⟨gL, hgL⟩ : ∃ gL, wr.heap.size = gL := ⟨_, rfl⟩
      obtain ⟨wa, hwa⟩ : ∃ wa, wr.alloc (.cells #[.slice a15 k c15] 30) = wa := ⟨_, rfl⟩
      have hga : wr.grownBy wa none := by rw [← hwa]; exact grown_alloc (grown_refl _ _) _
      have hbL : Box wa gL #[.slice a15 k c15] 30 := by rw [← hgL, ← hwa]; exact Box.new _ _ _
      have hbsa := hbs.kept hga (by simp)
      have hgSL : gS < gL := by have := hbs.lt; omega
      have c2 : wa.cell? ⟨gS, 2, none⟩ = some (.slice none 0 0) := hbsa.cell 2
      have f2 := hbsa.fz 2
      obtain ⟨wb, hwb⟩ : ∃ wb, wa.setCell ⟨gS, 2, none⟩ (.slice (some ⟨gL, 0, none⟩) 1 1) = wb := ⟨_, rfl⟩
      have hsg := grown_set wa gS 2 (.slice (some ⟨gL, 0, none⟩) 1 1)
      have hbsb := hbsa.set 2 (.slice (some ⟨gL, 0, none⟩) 1 1)
      rw [hwb] at hsg hbsb
      have hbLb := hbL.kept hsg (fun e => by injection e with e; omega)
      have hownb : Own wb (gS + 1) (.slice a15 k c15) xs := (hown.kp (Kp.ofNone (S := fun _ => False) hga) (fun _ _ e => e)).kept hsg (by omega)
      have hins : Ins wb (fun q => q < wb.heap.size) (.slice (some ⟨gL, 0, none⟩) 1 1) [xs] := by
        refine .inr ⟨gL, 1, rfl, hbLb.lt, hbLb.lt, fun i hi => ?_⟩
        have hi0 : i = 0 := by simpa using hi
        subst hi0
        refine ⟨.slice a15 k c15, hbLb.cell 0, ?_⟩
        show LoC wb _ _ xs
        rcases hownb.2 with ⟨e1, e2⟩ | ⟨g1, cap1, cur1, hv1, hb1, hg1, hnc1, hcm1, hcs1, htake1⟩
        · exact .inl ⟨e1, List.eq_nil_of_length_eq_zero e2⟩
        · have hrow : Row wb (gS + 1) g1 xs.length cap1 xs := by unfold Own at hownb; rw [hv1] at hownb; exact hownb
          exact .inr ⟨g1, 0, cap1, hv1, hnc1, hrow.lt.2, hrow.lt.2, fun j hj => by rw [Nat.zero_add]; exact hrow.cell j hj⟩
      have hgwb : w9.grownBy wb none := grown_new (grown_trans HG1.out (grown_trans hgr hga)) hsg (fun q e => by injection e with e; have := HGS.out; omega)
      have hMade : Made 8000 bits k [xs] := by
        refine ⟨by omega, by omega, hb416.1, hb416.2, .inl rfl, fun c hc => ?_⟩
        rw [List.mem_singleton.1 hc]
        refine ⟨HXS.out, fun y hy => ?_⟩
        have := hall y hy
        unfold fitsB
        rw [HPZ.out]
        simp only [Bool.and_eq_true, decide_eq_true_eq]
        omega
      have HP5 : Calls _ _ #[_, .int .i64 241] _ _ := pick_any block 241 wb h5.1 h5.2 (by omega) (by omega)
      have HWA : Hid (wr.alloc (.cells #[.slice a15 k c15] 30) = wa) := hwa
      have HGL : Hid (wr.heap.size = gL) := hgL
      have HWB : Hid (wa.setCell ⟨gS, 2, none⟩ (.slice (some ⟨gL, 0, none⟩) 1 1) = wb) := hwb
      have HNE : Hid (Near xs) := hnear
      have HMD : Hid (Made 8000 bits k [xs]) := hMade
      have HINS : Hid (Ins wb (fun q => q < wb.heap.size) (.slice (some ⟨gL, 0, none⟩) 1 1) [xs]) := hins
      have z0 : wb.cell? ⟨gS, 0, none⟩ = some (.int .i64 8000) := hbsb.cell 0
      have z1 : wb.cell? ⟨gS, 1, none⟩ = some (.int .i64 bits) := hbsb.cell 1
      have z2 : wb.cell? ⟨gS, 2, none⟩ = some (.slice (some ⟨gL, 0, none⟩) 1 1) := hbsb.cell 2
      have d2 : (wr.alloc (.cells #[.slice a15 k c15] 30)).cell? ⟨gS, 2, none⟩ = some (.slice none 0 0) := by rw [hwa]; exact c2
      have e2 : (wr.alloc (.cells #[.slice a15 k c15] 30)).frozen? ⟨gS, 2, none⟩ = false := by rw [hwa]; exact f2
      clear hxs hown hwa hgL hwb hga hbL hbsa hsg hbLb hownb hins hMade hall hnear hlast hbs hgk c2 f2
      go_upto_region 15 with fail
      rw [HWA.out, HGL.out, HWB.out]
      clear HWA HWB d2 e2
      go_wp2_with fail
      refine HP5.mono ?_
      rintro e wz ⟨pb, hpb, rfl, rfl⟩
      clear HP5
      obtain ⟨b, hb⟩ : ∃ b, 16 + pb = b := ⟨_, rfl⟩
      have hbz : 16 + (pb : Int) = (b : Int) := by omega
      have hb16 : 16 ≤ b ∧ b ≤ 256 := by omega
      have HEN := qencode wz _ ((8000 : Nat) : Int) bits b [xs] HINS.out (by simp) (fun d hd => by rw [List.mem_singleton.1 hd, HXS.out]; omega)
      clear hb
      go_wp2_with fail
      refine HEN.mono ?_
      rintro e w6 ⟨hg6, hcase⟩
      clear HEN
      have hRin := HMD.out.right b hb16 (by omega)
      rcases hcase with ⟨hh, hR, rfl⟩ | ⟨hno, _⟩
      rotate_left
      · exact absurd hRin (hno _)
      have hRS := hR.2.2.2
      have hhb : hh.block = b := by have := hR.2.2.1; omega
      have hht : hh.total = k := by have := hRS.len xs (by simp); rw [HXS.out] at this; omega
      have hhbits : hh.bits = bits := by have := hR.2.1; omega
      have hhr : hh.rate = 8000 := by have := hR.1; omega
      have hsl := small_len hRS HNE.out
      unfold nFrames at hsl
      rw [hhb, hht, hhbits] at hsl
      have hdec := hRS.decode
      rw [hhr, hhbits] at hdec
      have hel := hRS.encode_len
      have hsz := size_of (encode hh [xs])
      have hdt := data_of (encode hh [xs])
      obtain ⟨st, hst⟩ : ∃ st, (⟨(encode hh [xs]).toArray⟩ : ByteArray) = st := ⟨_, rfl⟩
      rw [hst] at hsz hdt ⊢
      rw [← hsz] at hsl
      have hst60 : st.size ≤ 6000 := by omega
      have hsnd6 := (HINS.out.kept hg6).snd
      have hbs6 := hbsb.kept hg6 (by simp)
      have HCO := kcomes w6 _ 8000 bits [xs] st (by unfold maxLen; omega) (by rw [hdt]; exact hdec) hsnd6 (by simp) (fun d hd => by rw [List.mem_singleton.1 hd, HXS.out]; omega)
      have y0 : w6.cell? ⟨gS, 0, none⟩ = some (.int .i64 8000) := hbs6.cell 0
      have y1 : w6.cell? ⟨gS, 1, none⟩ = some (.int .i64 bits) := hbs6.cell 1
      have y2 : w6.cell? ⟨gS, 2, none⟩ = some (.slice (some ⟨gL, 0, none⟩) 1 1) := hbs6.cell 2
      have hgf6 := grown_trans hgwb hg6
      obtain ⟨F, hF⟩ : ∃ F, (k + b - 1) / b = F := ⟨_, rfl⟩
      have hFz : ((k : Int) + (b : Int) - 1) / (b : Int) = (F : Int) := by
        have e : (k : Int) + (b : Int) - 1 = ((k + b - 1 : Nat) : Int) := by omega
        rw [e, ← hF, Int.natCast_ediv]
      have hF1 : F ≤ 1500 := by
        rw [← hF]
        exact Nat.le_trans (Nat.div_le_self _ _) (by omega)
      rw [hF] at hsl
      have HSL : Hid _ := hsl
      have hbne : ((b : Int) == 0) = false := by simp; omega
      clear z0 z1 z2 hst hsz hdt hdec hel hRS hhb hht hhbits hhr hR hRin hsnd6 hbs6 hbsb hg6 hF hsl hgwb
      go_wp2_with fail
      refine HCO.mono ?_
      rintro e w7 ⟨rfl, hg7⟩
      have hgf := grown_trans hgf6 hg7
      have y1' : w7.cell? ⟨gS, 1, none⟩ = some (.int .i64 bits) := hg7.cell y1 (by simp)
      obtain ⟨q, hq⟩ : ∃ q, (8 + bits + 10 + 4 * b + 7) / 8 = q := ⟨_, rfl⟩
      have hqz : ((8 : Int) + (bits : Int) + 10 + 4 * (b : Int) + 7) / 8 = (q : Int) := by omega
      have hq2 : q ≤ 140 := by omega
      obtain ⟨M, hM⟩ : ∃ M, F * (16 + q) = M := ⟨_, rfl⟩
      have hMz : (F : Int) * (16 + (q : Int)) = (M : Int) := by
        rw [← hM, Int.natCast_mul]
        rfl
      have hM2 : M ≤ 234000 := by rw [← hM]; exact Nat.le_trans (Nat.mul_le_mul hF1 (show 16 + q ≤ 156 by omega)) (by omega)
      have hlen : (st.size : Int) ≤ 42 + (M : Int) := by
        have := HSL.out
        rw [hq, hM] at this
        omega
      simp only [hFz]
      clear HCO y0 y1 y2 hq hM hFz
      go_wp2
      exact bodyPost_ret (v := .bool true) (by simp [results, Try.results9, go_sem]) rfl ⟨rfl, hgf⟩
end Go.Proofs.Ytncmgnmcggkhnaa
