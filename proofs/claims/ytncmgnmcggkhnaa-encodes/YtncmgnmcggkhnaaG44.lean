import Derived.Test.YtncmgnmcggkhnaaG43
import Derived.BigQuiet
import Derived.Test.YtncmgnmcggkhnaaG38
import Derived.Test.YtncmgnmcggkhnaaG03
import Derived.Test.YtncmgnmcggkhnaaG25
import Derived.Test.YtncmgnmcggkhnaaG24
namespace Go.Proofs.Ytncmgnmcggkhnaa
open Go.RowKit

theorem cost_alike (wide : Nat) (l : List Int) (h : allAlike l = true) : subCost wide (shortest wide l) ≤ 8 + wide := by
  have hmem : ESub.alike (l.headD 0) ∈ others l := by
    unfold others
    rw [if_pos h]
    exact List.mem_append.2 (.inl (by simp))
  have h1 := (pickBest_spec (subCost wide) (others l) (.plain l)).2.2 _ hmem
  have e : subCost wide (.alike (l.headD 0)) = 8 + wide := by
    show (kindBits 0 ++ numBits _ wide).length = _
    rw [List.length_append, numBits_length]
    rfl
  unfold shortest
  omega

theorem cost_fixed (wide : Nat) (l : List Int) (o : Nat) (ho : o ≤ 4) (hol : o ≤ l.length) : subCost wide (shortest wide l) ≤ 8 + o * wide + (10 + (bestAux (partLen (miss (fixedFactors o) (l.take o).reverse (l.drop o))) 14).2) := by
  have hmem : fixedOf l o ∈ others l := by
    unfold others
    refine List.mem_append.2 (.inr (List.mem_map.2 ⟨o, ?_, rfl⟩))
    rw [List.mem_range]
    omega
  have h1 := (pickBest_spec (subCost wide) (others l) (.plain l)).2.2 _ hmem
  obtain ⟨R, hR⟩ : ∃ R, miss (fixedFactors o) (l.take o).reverse (l.drop o) = R := ⟨_, rfl⟩
  have h2 : subCost wide (fixedOf l o) = 8 + (o * wide + (10 + partLen R (bestK R))) := by
    show (subBits wide (fixedOf l o)).length = _
    unfold fixedOf
    rw [hR]
    show (kindBits _ ++ (listBits wide _ ++ resBits _ _)).length = _
    rw [List.length_append, List.length_append, listBits_length, resBits_length, List.length_take, Nat.min_eq_left hol]
    have : (kindBits (8 + min o l.length)).length = 8 := by unfold kindBits; simp [numBits_length]
    rw [Nat.min_eq_left hol] at this
    rw [this]
  have h3 := (bestAux_spec (partLen R) 14).2.1
  rw [hR]
  unfold shortest
  unfold bestK at h2
  omega

/-- what the reference's least gives: no less than what the program's way needs, no more than the plain way -/
def LeastPost (w : World) (wide : Nat) (l : List Int) (e : Ending) (w' : World) : Prop :=
  ∃ b : Nat, e = .returned (.int .i64 b) ∧ subCost wide (shortest wide l) ≤ b ∧ b ≤ 8 + l.length * wide ∧ w.grownBy w' none

set_option maxHeartbeats 4000000 in
set_option maxRecDepth 20000 in
theorem rleast (w : World) (v : Value) (l : List Int) (wide : Nat) (hw1 : 1 ≤ wide) (hw2 : wide ≤ 16) (hne : 1 ≤ l.length) (hl : l.length ≤ 256) (hab : Abs 32768 l) (h : Lo w v l) :
    Calls Try.prog 54 #[v, .int .i64 wide] w (LeastPost w wide l) := by
  obtain ⟨a, c, rfl⟩ := h.slice
  have HCA : Hid (allAlike l = true → subCost wide (shortest wide l) ≤ 8 + wide) := cost_alike wide l
  have HCF : Hid (∀ o, o ≤ 4 → o ≤ l.length → subCost wide (shortest wide l) ≤ 8 + o * wide + (10 + (bestAux (partLen (miss (fixedFactors o) (l.take o).reverse (l.drop o))) 14).2)) := fun o h1 h2 => cost_fixed wide l o h1 h2
  have hsp := shortest_le wide l
  have HBI : Hid (∀ (w' : World) (o : Nat), o ≤ 4 → o ≤ l.length → w.grownBy w' none → Calls Try.prog 78 #[.slice a l.length c, .int .i64 o] w' (BitsPost w' (bestAux (partLen (miss (fixedFactors o) (l.take o).reverse (l.drop o))) 14).2)) := fun w' o h1 h2 hg => rbits w' _ l o h1 h2 hl hab (h.kept hg)
  obtain ⟨n, hn⟩ : ∃ n, l.length = n := ⟨_, rfl⟩
  have HN : Hid (l.length = n) := hn
  obtain ⟨S, hS⟩ : ∃ S, subCost wide (shortest wide l) = S := ⟨_, rfl⟩
  have HS : Hid (subCost wide (shortest wide l) = S) := hS
  rw [hS] at hsp HCA HCF
  rw [hn] at hsp hne hl h HBI HCF
  have hnw : (n : Int) * (wide : Int) = ((n * wide : Nat) : Int) := by push_cast; rfl
  obtain ⟨T, hT⟩ : ∃ T, n * wide = T := ⟨_, rfl⟩
  have hTb : T ≤ 4096 := by rw [← hT]; exact Nat.mul_le_mul hl hw2
  have HT : Hid (n * wide = T) := hT
  rw [hT] at hnw hsp
  have hw3 : IntKind.i64.wrap ((n : Int) * (wide : Int)) = (T : Int) := by rw [hnw, IntKind.wrap_i64]; omega
  rw [hn]
  have HW : Hid (∀ b : Nat, ∀ w', S ≤ b → b ≤ 8 + T → w.grownBy w' none → LeastPost w wide l (.returned (.int .i64 b)) w') := fun b w' h1 h2 h3 => ⟨b, rfl, by rw [hS]; exact h1, by rw [hn, hT]; exact h2, h3⟩
  clear hn hS hnw hT
  go_enter Try.func54, Try.ntmps54
  go_wp2_with fail
  go_loopg [6, 7] (n - 1) (fun gk t6 t7 wr => ∃ (i d : Nat) (s : Bool), gk + i = n ∧ 1 ≤ i ∧ t7 = .int .i64 i ∧ t6 = .bool s ∧ wr = w.drewN d ∧ (s = true → ∀ j, j < i → l.getD j 0 = l.getD 0 0))
  case atStart => exact ⟨1, 0, true, by omega, Nat.le_refl 1, rfl, rfl, rfl, fun _ j hj => by rw [show j = 0 by omega]⟩
  case round =>
    obtain ⟨i, d, s, hgk, hi1, rfl, rfl, hwr, hs⟩ := hrel
    have HSA : Hid (s = true → ∀ j, j < i → l.getD j 0 = l.getD 0 0) := hs
    have HWR : Hid (wr = w.drewN d) := hwr
    by_cases hin : i < n
    · have hiz : (i : Int) < (n : Int) := by omega
      have hnz : (0 : Int) < (n : Int) := by omega
      obtain ⟨bb, oo, hbo, hc0⟩ := h.at 0 (by rw [HN.out]; omega)
      obtain ⟨b1, o1, hb1, hc1⟩ := h.at i (by rw [HN.out]; exact hin)
      subst hbo
      injection hb1 with hb1
      injection hb1 with e1 e2
      subst e1
      subst e2
      obtain ⟨x0, hx0⟩ : ∃ x0, l.getD 0 0 = x0 := ⟨_, rfl⟩
      obtain ⟨x1, hx1⟩ : ∃ x1, l.getD i 0 = x1 := ⟨_, rfl⟩
      rw [hx0] at hc0
      rw [hx1] at hc1
      have C0 : wr.cell? ⟨bb, oo, none⟩ = some (.int .i64 x0) := by rw [hwr, World.cell?_drewN]; exact hc0
      have C1 : wr.cell? ⟨bb, oo + i, none⟩ = some (.int .i64 x1) := by rw [hwr, World.cell?_drewN]; exact hc1
      have HX0 : Hid (l.getD 0 0 = x0) := hx0
      have HX1 : Hid (l.getD i 0 = x1) := hx1
      clear hs hwr hx0 hx1 hc0 hc1 hw3
      cases s with
      | false =>
        go_wp2_with fail
        go_quiet (fail)
        go_wp2
        go_roundg (gk - 1)
        case measure => omega
        case rel => exact ⟨i + 1, _, false, by omega, by omega, by go_num, rfl, by rw [HWR.out, World.drewN_drewN], fun hh => by cases hh⟩
      | true =>
        obtain ⟨q, hq⟩ : ∃ q, (x1 == x0) = q := ⟨_, rfl⟩
        have HQ : Hid ((x1 == x0) = q) := hq
        go_wp2_with fail
        go_quiet (fail)
        clear hq
        go_wp2
        go_roundg (gk - 1)
        case measure => omega
        case rel =>
          refine ⟨i + 1, _, q, by omega, by omega, by go_num, rfl, by rw [HWR.out, World.drewN_drewN], fun hh j hj => ?_⟩
          rcases (show j < i ∨ j = i by omega) with h9 | rfl
          · exact HSA.out trivial j h9
          · have := HQ.out
            rw [hh] at this
            rw [HX1.out, HX0.out]
            exact eq_of_beq this
    · have hie : i = n := by omega
      subst hie
      have tin : decide ((i : Int) < (i : Int)) = false := decide_eq_false (by omega)
      have hal : s = true → S ≤ 8 + wide := fun e => HCA.out (by
        have h9 := hs e
        unfold allAlike
        rw [List.all_eq_true]
        intro x hx
        obtain ⟨j, hj, rfl⟩ := List.mem_iff_getElem.1 hx
        have h8 := h9 j (by rw [← HN.out]; exact hj)
        have e8 : l.getD j 0 = l[j] := by rw [List.getD, List.getElem?_eq_getElem hj]; rfl
        have e7 : l.headD 0 = l.getD 0 0 := by cases l <;> rfl
        rw [← e8, h8, e7]
        exact beq_self_eq_true _)
      have HAL : Hid (s = true → S ≤ 8 + wide) := hal
      have hgr : w.grownBy wr none := by rw [hwr]; exact grown_drewN (grown_refl _ _) d
      have HGR : Hid (w.grownBy wr none) := hgr
      clear hs hwr hal hgr HWR HSA
      go_upto_if 32 with fail
      go_cut [5] (fun s5 wx => ∃ b : Nat, s5 = .int .i64 b ∧ S ≤ b ∧ b ≤ 8 + T ∧ wx = wr)
      case first =>
        cases s with
        | false =>
          go_wp2
          go_meet
          case rel => exact ⟨8 + T, by go_num, by omega, Nat.le_refl _, rfl⟩
        | true =>
          have hal := HAL.out rfl
          have hTw : wide ≤ T := by rw [← HT.out]; exact Nat.le_mul_of_pos_left _ hne
          have hw8 : IntKind.i64.wrap (8 + (wide : Int)) = 8 + (wide : Int) := by rw [IntKind.wrap_i64]; omega
          go_wp2
          all_goals
            go_meet
            case rel => first | exact ⟨8 + T, by go_num, by omega, Nat.le_refl _, rfl⟩ | exact ⟨8 + wide, by go_num, by omega, by omega, rfl⟩
      case rest =>
        obtain ⟨b, rfl, hb1, hb2, rfl⟩ := hcut
        clear h
        go_wp2_with fail
        go_loopg [5, 8] 5 (fun gk t5 t8 wr => ∃ o b : Nat, gk + o = 5 ∧ t8 = .int .i64 o ∧ t5 = .int .i64 b ∧ S ≤ b ∧ b ≤ 8 + T ∧ w.grownBy wr none)
        case atStart => exact ⟨0, b, rfl, rfl, rfl, hb1, hb2, HGR.out⟩
        case round =>
          clear hb1 hb2 HGR
          obtain ⟨o, b, hgk, rfl, rfl, hb1, hb2, hgr⟩ := hrel
          by_cases ho : o ≤ 4
          · have t4 : decide ((o : Int) ≤ 4) = true := decide_eq_true (by omega)
            by_cases hon : o ≤ i
            · have tn : decide ((o : Int) ≤ (i : Int)) = true := decide_eq_true (by omega)
              have HB := HBI.out wr o ho hon hgr
              have HC := HCF.out o ho hon
              obtain ⟨B, hB⟩ : ∃ B, (bestAux (partLen (miss (fixedFactors o) (l.take o).reverse (l.drop o))) 14).2 = B := ⟨_, rfl⟩
              rw [hB] at HB HC
              obtain ⟨U, hU⟩ : ∃ U, o * wide = U := ⟨_, rfl⟩
              rw [hU] at HC
              have hUb : U ≤ 64 := by rw [← hU]; exact Nat.mul_le_mul ho hw2
              have hUw : IntKind.i64.wrap ((o : Int) * (wide : Int)) = (U : Int) := by rw [← hU, IntKind.wrap_i64, ← Int.natCast_mul, hU]; omega
              have HGR : Hid (w.grownBy wr none) := hgr
              clear hB hU hgr
              go_wp2_with fail
              refine HB.mono ?_
              rintro e w1 ⟨rfl, hBb, hg1⟩
              have hgr1 : w.grownBy w1 none := grown_trans HGR.out hg1
              have HG1 : Hid (w.grownBy w1 none) := hgr1
              clear hg1 hgr1 HB
              go_wp2
              all_goals
                go_roundg (gk - 1)
                case measure => omega
                case rel => first | exact ⟨o + 1, b, by omega, by go_num, rfl, hb1, hb2, HG1.out⟩ | exact ⟨o + 1, 8 + U + (10 + B), by omega, by go_num, by go_num, by omega, by omega, HG1.out⟩
            · have tn : decide ((o : Int) ≤ (i : Int)) = false := decide_eq_false (by omega)
              have hpost := HW.out b wr hb1 hb2 hgr
              clear hgr
              go_wp2
              exact bodyPost_ret (v := .int .i64 b) (by simp [results, Try.results54, go_sem]) rfl hpost
          · have t4 : decide ((o : Int) ≤ 4) = false := decide_eq_false (by omega)
            have hpost := HW.out b wr hb1 hb2 hgr
            clear hgr
            go_wp2
            exact bodyPost_ret (v := .int .i64 b) (by simp [results, Try.results54, go_sem]) rfl hpost
end Go.Proofs.Ytncmgnmcggkhnaa

namespace Go.Proofs.Ytncmgnmcggkhnaa
open Go.RowKit

/-- the cost of the first j channels of a frame -/
def costs (h : Head) (chs : List (List Int)) (k j : Nat) : Nat := (((chunk h.block k chs).take j).map (fun c => subCost h.bits (shortest h.bits c))).sum

theorem costs_succ (h : Head) (chs : List (List Int)) (k j : Nat) (hj : j < chs.length) : costs h chs k (j + 1) = costs h chs k j + subCost h.bits (shortest h.bits (((chs.getD j []).drop (k * h.block)).take h.block)) := by
  have hl : j < (chunk h.block k chs).length := by unfold chunk; rw [List.length_map]; exact hj
  have e : (chunk h.block k chs)[j] = ((chs.getD j []).drop (k * h.block)).take h.block := by
    simp only [chunk, List.getElem_map]
    rw [List.getD, List.getElem?_eq_getElem hj]
    rfl
  unfold costs
  rw [List.take_succ_eq_append_getElem hl, List.map_append, List.sum_append, e]
  simp

theorem costs_all (h : Head) (chs : List (List Int)) (k : Nat) : costs h chs k chs.length = ((chunk h.block k chs).map (fun c => subCost h.bits (shortest h.bits c))).sum := by
  unfold costs
  rw [List.take_of_length_le (by unfold chunk; rw [List.length_map]; exact Nat.le_refl _)]

/-- how long the first k frames are -/
def framesLen (h : Head) (chs : List (List Int)) (k : Nat) : Nat := ((List.range k).flatMap (encFr h chs)).length

theorem framesLen_succ (h : Head) (chs : List (List Int)) (k : Nat) : framesLen h chs (k + 1) = framesLen h chs k + (10 + (costs h chs k chs.length + 7) / 8) := by
  unfold framesLen
  rw [List.range_succ, List.flatMap_append, List.length_append, costs_all, ← encFr_len_eq]
  simp

theorem encode_framesLen (h : Head) (chs : List (List Int)) : (encode h chs).length = 42 + framesLen h chs (nFrames h) := by
  unfold encode framesLen
  rw [List.length_append, headBytes_length]

theorem nFrames_lt (h : Head) (hb : 1 ≤ h.block) (k : Nat) : k < nFrames h ↔ k * h.block < h.total := by
  unfold nFrames
  rw [Nat.lt_iff_add_one_le, Nat.le_div_iff_mul_le (by omega), Nat.succ_mul]
  omega

theorem take_part (l : List Int) (f b n : Nat) (hn : l.length = n) : (l.drop f).take (min (f + b) n - f) = (l.drop f).take b := by
  rcases Nat.le_total (f + b) n with h | h
  · rw [Nat.min_eq_left h, Nat.add_sub_cancel_left]
  · rw [Nat.min_eq_right h, List.take_of_length_le (by rw [List.length_drop]; omega), List.take_of_length_le (by rw [List.length_drop]; omega)]

def MostPost (w : World) (h : Head) (chs : List (List Int)) (e : Ending) (w' : World) : Prop :=
  ∃ m : Nat, e = .returned (.int .i64 m) ∧ (encode h chs).length ≤ m ∧ m ≤ 6000 ∧ w.grownBy w' none

theorem fits_abs16 (wide : Nat) (hw : wide ≤ 16) (x : Int) (h : fitsB wide x = true) : -32768 ≤ x ∧ x ≤ 32768 := by
  rw [fitsB_iff] at h
  have h1 : (2 : Nat) ^ (wide - 1) ≤ 2 ^ 15 := Nat.pow_le_pow_right (by decide) (by omega)
  have h2 : ((2 : Int) ^ (wide - 1)) = ((2 ^ (wide - 1) : Nat) : Int) := by simp
  omega

set_option maxHeartbeats 4000000 in
set_option maxRecDepth 20000 in
theorem rmost (w : World) (v : Value) (rate : Int) (h : Head) (chs : List (List Int)) (hr : RightS h chs) (hs : RSnd w v chs) :
    Calls Try.prog 25 #[.agg #[.int .i64 rate, .int .i64 h.bits, v], .int .i64 h.block] w (MostPost w h chs) := by
  obtain ⟨b1, b2, b3, b4, b5, b6, b7, b8⟩ := headOk_parts hr.ok
  obtain ⟨a, c, rfl⟩ := hs.slice
  have HLE := hr.encode_len
  have HFL := encode_framesLen h chs
  have HCS : Hid (∀ k j, j < chs.length → costs h chs k (j + 1) = costs h chs k j + subCost h.bits (shortest h.bits (((chs.getD j []).drop (k * h.block)).take h.block))) := fun k j hj => costs_succ h chs k j hj
  have HFS : Hid (∀ k, framesLen h chs (k + 1) = framesLen h chs k + (10 + (costs h chs k chs.length + 7) / 8)) := fun k => framesLen_succ h chs k
  have HNF : Hid (∀ k, k < nFrames h ↔ k * h.block < h.total) := fun k => nFrames_lt h (by omega) k
  have HLN : Hid (∀ j, j < chs.length → (chs.getD j []).length = h.total) := fun j hj => hr.len _ (by simp [List.getD, hj])
  have HAB : Hid (∀ j, j < chs.length → Abs 32768 (chs.getD j [])) := fun j hj x hx => fits_abs16 h.bits b7 x (hr.fit _ (by simp [List.getD, hj]) x hx)
  have hn1 := hr.ch1
  have hn2 := hr.ch
  have hnf := hr.nframes_le
  obtain ⟨n, hn⟩ : ∃ n, chs.length = n := ⟨_, rfl⟩
  obtain ⟨B, hB⟩ : ∃ B, h.block = B := ⟨_, rfl⟩
  obtain ⟨W, hW⟩ : ∃ W, h.bits = W := ⟨_, rfl⟩
  obtain ⟨N, hN⟩ : ∃ N, h.total = N := ⟨_, rfl⟩
  obtain ⟨M, hM⟩ : ∃ M, nFrames h = M := ⟨_, rfl⟩
  rw [hM] at HFL hnf
  rw [hB, hN] at HNF
  rw [hM] at HNF
  rw [hn, hB, hW] at HCS
  rw [hn] at HFS
  rw [hn, hN] at HLN
  rw [hn] at HAB
  rw [hB] at b1 b2
  rw [hW] at b6 b7
  rw [hN] at b8
  rw [hn] at hn2
  rw [← hn2] at b5 hn1
  clear b3 b4
  have HPOST : Hid (∀ m w', framesLen h chs M + 42 ≤ m → m ≤ 6000 → w.grownBy w' none → MostPost w h chs (.returned (.int .i64 (m : Nat))) w') := fun m w' h1 h2 h3 => ⟨m, rfl, by omega, h2, h3⟩
  have HLE2 : framesLen h chs M + 42 ≤ 6000 := by omega
  rw [hB, hW, hn]
  have HN : Hid (chs.length = n) := hn
  clear hn hB hW hN hM hn2 HLE HFL hr
  rw [HN.out] at hs
  obtain ⟨w0, hw0⟩ : ∃ w0, w.alloc (.cells #[.int .i64 rate, .int .i64 W, .slice a n c] 26) = w0 := ⟨_, rfl⟩
  have hg0 : w.grownBy w0 none := by rw [← hw0]; exact grown_alloc (grown_refl _ _) _
  obtain ⟨gS, hgS⟩ : ∃ gS, w.heap.size = gS := ⟨_, rfl⟩
  have hbS : Box w0 gS #[.int .i64 rate, .int .i64 W, .slice a n c] 26 := by rw [← hgS, ← hw0]; exact Box.new _ _ _
  have h0 := hs.kept hg0
  have HW0 : Hid (w.alloc (.cells #[.int .i64 rate, .int .i64 W, .slice a n c] 26) = w0) := hw0
  have HGS : Hid (w.heap.size = gS) := hgS
  have z1 : w0.cell? ⟨gS, 1, none⟩ = some (.int .i64 W) := hbS.cell 1
  have z2 : w0.cell? ⟨gS, 2, none⟩ = some (.slice a n c) := hbS.cell 2
  have HG0 : Hid (w.grownBy w0 none) := hg0
  clear hw0 hgS hs hbS hg0
  obtain ⟨lg, og, v0, hlg, hc0, hl0⟩ := h0.at 0 (by rw [HN.out]; omega)
  rw [Nat.add_zero] at hc0
  obtain ⟨a0, p0, rfl, _⟩ := hl0.slice
  subst hlg
  rw [HLN.out 0 (by omega)] at hc0
  clear hl0
  go_enter Try.func25, Try.ntmps25
  go_upto_region 1 with fail
  rw [HW0.out, HGS.out]
  clear HW0
  go_wp2_with fail
  go_loopg [5, 6] M (fun gk t5 t6 wr => ∃ k m : Nat, gk + k = M ∧ t6 = .int .i64 ((k * B : Nat) : Int) ∧ t5 = .int .i64 m ∧ framesLen h chs k + 42 ≤ m ∧ m ≤ 42 + k * 2000 ∧ w0.grownBy wr none)
  case atStart => exact ⟨0, 42, rfl, by simp, rfl, by simp [framesLen], by omega, grown_refl _ _⟩
  case round =>
    obtain ⟨k, m, hgk, rfl, rfl, hm1, hm2, hgr⟩ := hrel
    obtain ⟨q, hq⟩ : ∃ q, k * B = q := ⟨_, rfl⟩
    have hnf2 := HNF.out k
    rw [hq] at hnf2 ⊢
    have Z1 : wr.cell? ⟨gS, 1, none⟩ = some (.int .i64 W) := hgr.cell z1 (by simp)
    have Z2 : wr.cell? ⟨gS, 2, none⟩ = some (.slice (some ⟨lg, og, none⟩) n c) := hgr.cell z2 (by simp)
    have C0 : wr.cell? ⟨lg, og, none⟩ = some (.slice a0 N p0) := hgr.cell hc0 (by simp)
    have HQ : Hid (k * B = q) := hq
    have hn0 : (0 : Int) < (n : Int) := by omega
    by_cases hk : k < M
    · have hqN := hnf2.1 hk
      have tq : decide ((q : Int) < (N : Int)) = true := decide_eq_true (by omega)
      have HGR : Hid (w0.grownBy wr none) := hgr
      have HM1 : Hid (framesLen h chs k + 42 ≤ m) := hm1
      clear hnf2 hq hgr hm1
      obtain ⟨ko, rfl⟩ : ∃ ko : Nat, ko = gk := ⟨_, rfl⟩
      obtain ⟨wo, rfl⟩ : ∃ wo : World, wo = wr := ⟨_, rfl⟩
      go_wp2_with fail
      go_loopg [7, 8] n (fun gq t7 t8 wr => ∃ j b : Nat, gq + j = n ∧ t8 = .int .i64 j ∧ t7 = .int .i64 b ∧ costs h chs k j ≤ b ∧ b ≤ j * 4200 ∧ w0.grownBy wr none)
      case atStart => exact ⟨0, 0, rfl, rfl, rfl, by simp [costs], by omega, HGR.out⟩
      case round =>
        obtain ⟨j, b, hgq, rfl, rfl, hb1, hb2, hgr⟩ := hrel
        by_cases hj : j < n
        · obtain ⟨lg1, og1, v1, e1, hc1, hl1⟩ := h0.at j (by rw [HN.out]; exact hj)
          injection e1 with e1
          injection e1 with e1 e2
          subst e1
          subst e2
          obtain ⟨a1, p1, rfl, hp1⟩ := hl1.slice
          have hlj := HLN.out j hj
          rw [hlj] at hp1 hc1 hl1
          obtain ⟨bj, oj, ea, _⟩ := hl1.at q (by rw [hlj]; exact hqN)
          subst ea
          have hcs := HCS.out k j hj
          rw [HQ.out] at hcs
          obtain ⟨t, ht⟩ : ∃ t, min (q + B) N = t := ⟨_, rfl⟩
          have htp := take_part (chs.getD j []) q B N hlj
          rw [ht] at htp
          rw [← htp] at hcs
          have hlo : ∀ wx c', w0.grownBy wx none → Lo wx (.slice (some ⟨bj, oj + q, none⟩) (t - q) c') (((chs.getD j []).drop q).take (t - q)) := fun wx c' hg => (hl1.kept hg).part q t c' (by omega) (by rw [hlj]; omega)
          have hll : (((chs.getD j []).drop q).take (t - q)).length = t - q := by rw [List.length_take, List.length_drop, hlj]; omega
          have hla : Abs 32768 (((chs.getD j []).drop q).take (t - q)) := fun x hx => HAB.out j hj x (List.mem_of_mem_drop (List.mem_of_mem_take hx))
          obtain ⟨L, hL⟩ : ∃ L, ((chs.getD j []).drop q).take (t - q) = L := ⟨_, rfl⟩
          rw [hL] at hcs hlo hll hla
          have HLS : Hid (∀ wx c', w0.grownBy wx none → Calls Try.prog 54 #[.slice (some ⟨bj, oj + q, none⟩) (t - q) c', .int .i64 W] wx (LeastPost wx W L)) := fun wx c' hg => rleast wx _ L W (by omega) b7 (by omega) (by omega) hla (hlo wx c' hg)
          have hcS := hcs
          have HCJ : Hid (costs h chs k (j + 1) = costs h chs k j + subCost W (shortest W L)) := hcs
          have HLL : Hid (L.length = t - q) := hll
          have HTT : Hid (min (q + B) N = t) := ht
          have Z1j : wr.cell? ⟨gS, 1, none⟩ = some (.int .i64 W) := hgr.cell z1 (by simp)
          have Z2j : wr.cell? ⟨gS, 2, none⟩ = some (.slice (some ⟨lg, og, none⟩) n c) := hgr.cell z2 (by simp)
          have C1 : wr.cell? ⟨lg, og + j, none⟩ = some (.slice (some ⟨bj, oj, none⟩) N p1) := hgr.cell hc1 (by simp)
          have hjz : (j : Int) < (n : Int) := by omega
          have hwq : IntKind.i64.wrap ((q : Int) + (B : Int)) = ((q + B : Nat) : Int) := by rw [IntKind.wrap_i64]; omega
          have HGJ : Hid (w0.grownBy wr none) := hgr
          have htb : q < t ∧ t ≤ N ∧ t - q ≤ 256 := by omega
          clear hcS hcs hll hla hlo hL htp ht hlj hl1 hc1 hgr C0 Z1 Z2
          go_upto_region 9 with fail
          go_cut [9] (fun s9 wx => ∃ d c', wx = wr.drewN d ∧ s9 = .slice (some ⟨bj, oj + q, none⟩) (t - q) c')
          case first =>
            go_region
            go_wp2
            all_goals
              go_meet
              case rel =>
                refine ⟨_, p1 - q, rfl, ?_⟩
                first
                  | rw [show N - q = t - q by have := HTT.out; omega]
                  | rw [show ((q : Int) + (B : Int)).toNat - q = t - q by have := HTT.out; omega]
          case rest =>
            obtain ⟨d, c', rfl, rfl⟩ := hcut
            have HLC := HLS.out (wr.drewN d) c' (grown_drewN HGJ.out d)
            have Z1k : (wr.drewN d).cell? ⟨gS, 1, none⟩ = some (.int .i64 W) := by rw [World.cell?_drewN]; exact Z1j
            clear Z1j Z2j C1
            generalize hwz : wr.drewN d = wz at HLC Z1k ⊢
            have HWZ : Hid (wr.drewN d = wz) := hwz
            clear hwz
            go_wp2_with fail
            refine HLC.mono ?_
            rintro e w1 ⟨x, rfl, hx1, hx2, hg1⟩
            have hx3 : x ≤ 4104 := by
              have h1 : L.length * W ≤ 256 * 16 := Nat.mul_le_mul (by rw [HLL.out]; omega) b7
              omega
            have hgw : w0.grownBy w1 none := by
              have h1 := grown_drewN HGJ.out d
              rw [HWZ.out] at h1
              exact grown_trans h1 hg1
            have HX1 : Hid (subCost W (shortest W L) ≤ x) := hx1
            have HGW : Hid (w0.grownBy w1 none) := hgw
            have HB1 : Hid (costs h chs k j ≤ b) := hb1
            clear HLC hx1 hx2 hg1 hgw hb1
            go_wp2
            go_roundg (gk - 1)
            case measure => omega
            case rel =>
              refine ⟨j + 1, b + x, by omega, by go_num, by go_num, ?_, by omega, HGW.out⟩
              rw [HCJ.out]
              have h1 := HX1.out
              have h2 := HB1.out
              omega
        · have hjn : j = n := by omega
          subst hjn
          have tj : decide ((j : Int) < (j : Int)) = false := decide_eq_false (by omega)
          have hfs := HFS.out k
          have Z2j : wr.cell? ⟨gS, 2, none⟩ = some (.slice (some ⟨lg, og, none⟩) j c) := hgr.cell z2 (by simp)
          have hqB : (k + 1) * B = q + B := by rw [Nat.succ_mul, HQ.out]
          have HQB : Hid ((k + 1) * B = q + B) := hqB
          have hm3 : framesLen h chs (k + 1) + 42 ≤ m + 16 + (b + 7) / 8 := by
            have h1 := HM1.out
            rw [hfs]
            omega
          have HM3 : Hid (framesLen h chs (k + 1) + 42 ≤ m + 16 + (b + 7) / 8) := hm3
          have HGJ : Hid (w0.grownBy wr none) := hgr
          clear hfs hqB hm3 hgr hb1 C0 Z1 Z2
          have hbb : b ≤ 8400 := by omega
          have hmm : m ≤ 200000 := by omega
          have q1 : IntKind.i64.wrap (((b : Int) + 7) / 8) = (((b + 7) / 8 : Nat) : Int) := by rw [IntKind.wrap_i64]; omega
          go_wp2
          go_roundg (ko - 1)
          case measure => omega
          case rel =>
            refine ⟨k + 1, m + 16 + (b + 7) / 8, by omega, by rw [HQB.out]; go_num, by go_num, HM3.out, by omega, HGJ.out⟩
    · have hkM : k = M := by omega
      subst hkM
      have hqN : ¬ q < N := fun hh => by have := hnf2.2 hh; omega
      have tq : decide ((q : Int) < (N : Int)) = false := decide_eq_false (by omega)
      have hgg : w.grownBy wr none := grown_trans HG0.out hgr
      have HGG : Hid (w.grownBy wr none) := hgg
      have HM1 : Hid (framesLen h chs k + 42 ≤ m) := hm1
      clear hnf2 hgr hm1 hq hgg
      go_wp2
      · exact bodyPost_ret (v := .int .i64 6000) (by simp [results, Try.results25, go_sem]) rfl (HPOST.out 6000 wr HLE2 (Nat.le_refl _) HGG.out)
      · exact bodyPost_ret (v := .int .i64 m) (by simp [results, Try.results25, go_sem]) rfl (HPOST.out m wr HM1.out (by omega) HGG.out)
end Go.Proofs.Ytncmgnmcggkhnaa

namespace Go.Proofs.Ytncmgnmcggkhnaa
open Go.RowKit

theorem head_start (h : Head) (hb : h.block < 65536) : ∃ (x y : UInt8) (rest : List UInt8), headBytes h = 102 :: 76 :: 97 :: 67 :: 128 :: 0 :: 0 :: 34 :: x :: y :: rest ∧ x.toNat * 256 + y.toNat = h.block := by
  obtain ⟨R, hR⟩ : ∃ R, numBits h.block 16 ++ (numBits (0 : Nat) 24 ++ (numBits (0 : Nat) 24 ++ (numBits h.rate 20 ++ (numBits ((h.channels - 1 : Nat) : Int) 3 ++ (numBits ((h.bits - 1 : Nat) : Int) 5 ++ (numBits h.total 36 ++ numBits (0 : Nat) 128)))))) = R := ⟨_, rfl⟩
  have e1 : infoBits h = ([true, false, false, false, false, false, false, false] ++ numBits (34 : Nat) 24) ++ (numBits h.block 16 ++ R) := by
    unfold infoBits
    rw [hR, List.append_assoc]
    rfl
  obtain ⟨V, hV⟩ : ∃ V, numBits h.block 16 = V := ⟨_, rfl⟩
  have hl : V.length = 16 := by rw [← hV, numBits_length]
  have hv : val V = h.block := by
    have := val_numBits h.block 16
    rw [hV] at this
    omega
  have e2 : pack (V ++ R) = byteOf (V.take 8) :: byteOf (V.drop 8) :: pack R := by
    rw [pack_append V R (by rw [hl]), pack_cons V (by intro e; rw [e] at hl; simp at hl), pack_cons (V.drop 8) (by intro e; have := congrArg List.length e; rw [List.length_drop, hl] at this; simp at this)]
    have e3 : (V.drop 8).take 8 = V.drop 8 := List.take_of_length_le (by rw [List.length_drop, hl]; decide)
    have e4 : (V.drop 8).drop 8 = [] := List.drop_eq_nil_of_le (by rw [List.length_drop, hl]; decide)
    rw [e3, e4, pack_nil]
    rfl
  have e5 : pack ([true, false, false, false, false, false, false, false] ++ numBits (34 : Nat) 24) = [128, 0, 0, 34] := by
    rw [show numBits ((34 : Nat) : Int) 24 = bitsOf [0, 0, 34] by decide, show [true, false, false, false, false, false, false, false] ++ bitsOf [0, 0, 34] = bitsOf [128, 0, 0, 34] by decide, pack_bitsOf]
  refine ⟨byteOf (V.take 8), byteOf (V.drop 8), pack R, ?_, ?_⟩
  · unfold headBytes
    rw [e1, hV, pack_append _ _ (by simp [numBits_length]), e5, e2]
    rfl
  · rw [byteOf_toNat _ (by rw [List.length_take, hl]; decide), byteOf_toNat _ (by rw [List.length_drop, hl]; decide)]
    have h1 : (V.take 8).length = 8 := by rw [List.length_take, hl]; decide
    have h2 : (V.drop 8).length = 8 := by rw [List.length_drop, hl]
    have h3 := val_append (V.take 8) (V.drop 8)
    rw [List.take_append_drop, hv, h2] at h3
    rw [h1, h2]
    omega

set_option maxHeartbeats 4000000 in
set_option maxRecDepth 20000 in
theorem lblocks (w : World) (t : ByteArray) (B : Nat) (h42 : 42 ≤ t.size) (hs : t.size ≤ 6000) (h4 : t[4].toNat = 128) (h89 : t[8].toNat * 256 + t[9].toNat = B) :
    Calls Try.prog 26 #[.string t, .int .i64 B] w fun e w' => e = .returned (.bool true) ∧ ∃ d, w' = w.drewN d := by
  have k8 : t[8].toNat < 256 := t[8].toNat_lt
  have k9 : t[9].toNat < 256 := t[9].toNat_lt
  have g4 : (4 : Int) < (t.size : Int) := by omega
  have g8 : (8 : Int) < (t.size : Int) := by omega
  have g9 : (9 : Int) < (t.size : Int) := by omega
  have t42 : decide ((42 : Int) ≤ (t.size : Int)) = true := decide_eq_true (by omega)
  have t4 : ((t[4].toNat : Int) == 128) = true := by rw [h4]; rfl
  have HB : Hid (t[8].toNat * 256 + t[9].toNat = B) := h89
  have w1 : IntKind.i64.wrap ((t[8].toNat : Int) * 256) = (t[8].toNat : Int) * 256 := by rw [IntKind.wrap_i64]; omega
  have w2 : IntKind.i64.wrap ((t[8].toNat : Int) * 256 + (t[9].toNat : Int)) = (B : Int) := by rw [IntKind.wrap_i64]; omega
  clear h4 h89
  go_enter Try.func26, Try.ntmps26
  go_wp2_with fail
  go_quiet (fail)
  go_wp2
  go_ret
  refine ⟨?_, _, rfl⟩
  congr 1
  show Value.bool _ = Value.bool true
  congr 1
  have := HB.out
  rw [beq_iff_eq]
  omega

/-- the law's 'blocks' on what Encode gives -/
theorem lblocks_encode (w : World) (h : Head) (chs : List (List Int)) (hr : RightS h chs) :
    Calls Try.prog 26 #[.string ⟨(encode h chs).toArray⟩, .int .i64 h.block] w fun e w' => e = .returned (.bool true) ∧ ∃ d, w' = w.drewN d := by
  obtain ⟨b1, b2, b3, b4, b5, b6, b7, b8⟩ := headOk_parts hr.ok
  obtain ⟨x, y, rest, e1, e2⟩ := head_start h (by omega)
  have hl := hr.encode_len
  have hsz : (⟨(encode h chs).toArray⟩ : ByteArray).size = (encode h chs).length := by show (encode h chs).toArray.size = _; rw [List.size_toArray]
  have e3 : ∃ rest', encode h chs = 102 :: 76 :: 97 :: 67 :: 128 :: 0 :: 0 :: 34 :: x :: y :: rest' := ⟨_, by unfold encode; rw [e1]; rfl⟩
  obtain ⟨rest', e3⟩ := e3
  rw [e3] at hl hsz ⊢
  exact lblocks w _ h.block (by omega) (by omega) rfl e2
end Go.Proofs.Ytncmgnmcggkhnaa
