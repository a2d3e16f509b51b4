import Derived.Test.YtncmgnmcggkhnaaReadsProofJ31
namespace Go.Proofs.Ytncmgnmcggkhnaa
open Go.RowKit

/-- a script that came in -/
def ScriptIn (w : World) (sa : Option Addr) (sn : Nat) (K V : Nat → Int) : Prop :=
  ∀ i, i < sn → ∃ b off, sa = some ⟨b, off, none⟩ ∧ w.cell? ⟨b, off + i * 2, none⟩ = some (.int .i64 (K i)) ∧ w.cell? ⟨b, off + i * 2 + 1, none⟩ = some (.int .i64 (V i)) ∧ -9223372036854775808 ≤ V i ∧ V i ≤ 9223372036854775807

set_option maxHeartbeats 4000000 in
set_option maxRecDepth 20000 in
theorem reads_walk (w : World) (one two : ByteArray) (h1 : one.size ≤ maxLen) (h2 : two.size ≤ maxLen) (sa : Option Addr) (sn sc : Nat) (hsn : sn ≤ 100000000) (K V : Nat → Int) (hs : ScriptIn w sa sn K V) :
    Calls Try.prog 6 #[.string one, .string two, .slice sa sn sc] w fun e w' => e = .returned (.bool true) ∧ w.grownBy w' none := by
  have HS : Hid (ScriptIn w sa sn K V) := hs
  have HZ : Hid (∀ k, (if k = 0 then one else two).size ≤ maxLen) := fun k => by split; exact h1; exact h2
  clear h1 h2 hs
  go_enter Try.func6, Try.ntmps6
  go_wp2_with fail
  refine (qopen w _ (by unfold maxLen; decide)).mono ?_
  intro e w1 hop
  obtain ⟨gY, rfl, hg1, hnew⟩ := opened_sound (r := 1) (b := 8) (chs := [[]]) empty_dec hop
  obtain ⟨h, l, pv, gM, _, _, hf, _, _, hr⟩ := hnew.rdr
  have HTO := rdr_total w1 gY gM h l pv 0 0 _ _ hr
  have ht0 : h.total = 0 := by
    have := hf.ch1
    have h1 := hf.total 0 (by omega)
    rw [← h1]
    rfl
  rw [ht0] at HTO
  clear hop hnew hf hr ht0
  go_wp2_with (go_at_call 28; refine HTO.mono ?_; rintro e w2 ⟨rfl, rfl⟩)
  clear HTO
  have h2n := two_new w2 _ rfl #[.string one, .string two] #[.pointer none, .pointer none] 9 52
  obtain ⟨gT, hgT⟩ : ∃ gT, w2.heap.size = gT := ⟨_, rfl⟩
  obtain ⟨w3, hw3⟩ : ∃ w3, (w2.alloc (.cells #[.string one, .string two] 9)).alloc (.cells #[.pointer none, .pointer none] 52) = w3 := ⟨_, rfl⟩
  rw [hgT, hw3] at h2n
  rw [hgT, hw3]
  obtain ⟨hg3, hbT, hbA⟩ := h2n
  obtain ⟨gA, hgA⟩ : ∃ gA, gT + 1 = gA := ⟨_, rfl⟩
  rw [hgA] at hbA
  rw [hgA]
  have hop0 : Opened w w3 one two gT gA 0 := by
    refine ⟨grown_trans hg1 hg3, by rw [← hgT]; exact hg1.size, by omega, hbT, .pointer none, .pointer none, fun _ => False, fun _ => False, hbA, ⟨.inl ⟨rfl, fun _ e => e⟩, .inl ⟨rfl, fun _ e => e⟩, fun _ e => e.elim, fun _ e => e.elim, fun _ e => e.elim⟩, fun _ => rfl, fun _ => rfl⟩
  clear hgT hw3 hg3 hbT hbA hgA hg1
  go_loopg [12] 2 (fun gk t12 wr => ∃ i : Nat, gk + i = 2 ∧ t12 = .int .i64 i ∧ Opened w wr one two gT gA i)
  case atStart => exact ⟨0, rfl, rfl, hop0⟩
  case round =>
    clear hop0
    obtain ⟨i, hgk, rfl, hO⟩ := hrel
    by_cases hi : i < 2
    · have tlt : decide ((i : Int) < 2) = true := decide_eq_true (by omega)
      have hiz : (i : Int) < 2 := by omega
      have hstr := hO.str i hi
      have hz := HZ.out i
      obtain ⟨s, hs⟩ : ∃ s, (if i = 0 then one else two) = s := ⟨_, rfl⟩
      rw [hs] at hstr hz
      have HO : Hid (Opened w wr one two gT gA i) := hO
      have HRD := fun w => rdecode w s hz
      clear hs hO
      go_wp2_with fail
      refine (qopen wr s hz).mono ?_
      intro e w4 ho
      rcases open_parts ho with ⟨er, p, her, rfl, hg4, hdec⟩ | ⟨gB, rfl, hg4, hdec⟩
      · have hstr4 := hg4.cell hstr (by simp)
        clear ho hstr
        go_wp2_with fail
        refine (HRD w4).mono ?_
        intro e2 w5 hd
        obtain ⟨rfl, hg5⟩ := hdec w5 e2 hd
        have n1 : ((er : Int) != (er : Int)) = false := by simp
        have n2 : ((p : Int) != (p : Int)) = false := by simp
        have n3 : ((er : Int) != 0) = true := by simp; omega
        have HG5 : Hid (wr.grownBy w5 none) := grown_trans hg4 hg5
        clear hd hdec hstr4 HRD her hg4 hg5
        go_wp2
        go_roundg (gk - 1)
        case measure => omega
        case rel => exact ⟨i + 1, by omega, by go_num, HO.out.skip (grown_alloc HG5.out _)⟩
      · have hstr4 := hg4.cell hstr (by simp)
        clear ho hstr
        go_wp2_with fail
        refine (HRD w4).mono ?_
        intro e2 w5 hd
        obtain ⟨r, b, n, c, a, rfl, hg5, hnew⟩ := hdec w5 e2 hd
        go_upto_region 11 with fail
        obtain ⟨w6, hw6⟩ : ∃ w6, w5.alloc (.cells #[.int .i64 r, .int .i64 b, .slice a n c] 26) = w6 := ⟨_, rfl⟩
        obtain ⟨gS, hgS⟩ : ∃ gS, w5.heap.size = gS := ⟨_, rfl⟩
        have hg6 : w5.grownBy w6 none := by rw [← hw6]; exact grown_alloc (grown_refl _ _) _
        have hbS : Box w6 gS #[.int .i64 r, .int .i64 b, .slice a n c] 26 := by rw [← hgS, ← hw6]; exact Box.new _ _ _
        have hg46 := grown_trans hg5 hg6
        have hgr6 := grown_trans hg4 hg46
        obtain ⟨p0, p1, hbA⟩ : ∃ p0 p1, Box wr gA #[p0, p1] 52 := by
          obtain ⟨_, _, _, _, p0, p1, _, _, hbA, _⟩ := HO.out
          exact ⟨p0, p1, hbA⟩
        have hbA6 := hbA.kept hgr6 (by simp)
        have hbA7 := hbA6.kept (grown_alloc (grown_refl w6 none) (.cells #[.pointer (some ⟨gB, 0, none⟩), .int .i64 r, .int .i64 b, .slice a n c, .int .i64 0, .slice none 0 0, .slice none 0 0] 54)) (by simp)
        have cA : (w6.alloc (.cells #[.pointer (some ⟨gB, 0, none⟩), .int .i64 r, .int .i64 b, .slice a n c, .int .i64 0, .slice none 0 0, .slice none 0 0] 54)).cell? ⟨gA, i, none⟩ = some (Pk p0 p1 i) := box_pk hbA7 i hi
        have fA : (w6.alloc (.cells #[.pointer (some ⟨gB, 0, none⟩), .int .i64 r, .int .i64 b, .slice a n c, .int .i64 0, .slice none 0 0, .slice none 0 0] 54)).frozen? ⟨gA, i, none⟩ = false := hbA7.fz i
        have x0 : w6.cell? ⟨gS, 0, none⟩ = some (.int .i64 r) := hbS.cell 0
        have x1 : w6.cell? ⟨gS, 1, none⟩ = some (.int .i64 b) := hbS.cell 1
        have x2 : w6.cell? ⟨gS, 2, none⟩ = some (.slice a n c) := hbS.cell 2
        have HFIN : Hid (∀ w7 gW, w6.grownBy w7 none → w5.heap.size ≤ gW → Box w7 gW #[.pointer (some ⟨gB, 0, none⟩), .int .i64 r, .int .i64 b, .slice a n c, .int .i64 0, .slice none 0 0, .slice none 0 0] 54 → Opened w (w7.setCell ⟨gA, i, none⟩ (.pointer (some ⟨gW, 0, none⟩))) one two gT gA (i + 1)) := by
          intro w7 gW hg7 hgW hb
          obtain ⟨S, hS1, hS2⟩ := hnew w7 gW (grown_trans hg6 hg7) hgW hb
          exact HO.out.more hi (grown_trans hgr6 hg7) hS1 hS2
        have HSZ : Hid (w5.heap.size ≤ w6.heap.size) := hg6.size
        rw [hw6, hgS]
        clear hnew hd hdec hstr4 HRD hg4 hg5 hg6 hbS hg46 hgr6 hbA hbA6 hbA7 hw6 hgS
        go_wp2
        go_roundg (gk - 1)
        case measure => omega
        case rel => exact ⟨i + 1, by omega, by go_num, HFIN.out _ _ (grown_alloc (grown_refl w6 none) _) HSZ.out (Box.new _ _ _)⟩
    · have tlt : decide ((i : Int) < 2) = false := decide_eq_false (by omega)
      obtain ⟨p0, p1, hrun⟩ := hO.run
      have HGO : Hid (w.grownBy wr none) := hO.1
      clear hO hgk hi HZ
      go_wp2_with fail
      clear tlt HGO
      go_loopg [19] sn (fun gk t19 wr => ∃ j : Nat, gk + j = sn ∧ t19 = .int .i64 j ∧ Running w wr gA j p0 p1)
      case atStart => exact ⟨0, by omega, rfl, hrun⟩
      case round =>
        clear hrun
        obtain ⟨j, hgk, rfl, hR⟩ := hrel
        by_cases hj : j < sn
        · have tlt : decide ((j : Int) < (sn : Int)) = true := decide_eq_true (by omega)
          have hjz : (j : Int) < (sn : Int) := by omega
          obtain ⟨sb, so, hsa, ck, cv, hv1, hv2⟩ := HS.out j hj
          subst hsa
          have ck1 := hR.1.cell ck (by simp)
          have cv1 := hR.1.cell cv (by simp)
          obtain ⟨m, hm⟩ : ∃ m, j % 2 = m := ⟨_, rfl⟩
          have hmz : (j : Int) % 2 = (m : Int) := by omega
          have hm2 : m < 2 := by omega
          have hm2z : (m : Int) < 2 := by omega
          have cA := box_pk hR.2.2.1 m hm2
          rcases hR.slot m (by omega) with hpm | ⟨gW, hpm, _⟩
          · rw [hpm] at cA
            have HR : Hid _ := hR.later
            clear hR ck cv ck1 cv1 hm hpm
            go_wp2
            go_roundg (gk - 1)
            case measure => omega
            case rel => exact ⟨j + 1, by omega, by go_num, HR.out⟩
          · have HST := hR.step m gW hpm (K j) (V j) ⟨hv1, hv2⟩ (by omega)
            rw [hpm] at cA
            obtain ⟨kk, hkk⟩ : ∃ kk, K j = kk := ⟨_, rfl⟩
            obtain ⟨vv, hvv⟩ : ∃ vv, V j = vv := ⟨_, rfl⟩
            rw [hkk, hvv] at HST
            rw [hkk] at ck1
            rw [hvv] at cv1
            clear hR ck cv hm hpm hkk hvv
            go_wp2_with fail
            refine HST.mono ?_
            rintro e w5 ⟨rfl, hR5⟩
            have HR5 : Hid (Running w w5 gA (j + 1) p0 p1) := hR5
            have HOM : Hid (gk + j = sn ∧ j < sn) := ⟨hgk, hj⟩
            clear HST hR5 ck1 cv1 cA hmz hm2z hm2 hv1 hv2 tlt hjz
            obtain ⟨ko, rfl⟩ : ∃ ko : Nat, ko = gk := ⟨_, rfl⟩
            go_wp2_with fail
            go_loopg [22] 2 (fun gq t22 wq => ∃ k : Nat, gq + k = 2 ∧ t22 = .int .i64 k ∧ wq = w5)
            case atStart => exact ⟨0, rfl, rfl, rfl⟩
            case round =>
              obtain ⟨k, hgq, rfl, rfl⟩ := hrel
              by_cases hk : k < 2
              · have tk : decide ((k : Int) < 2) = true := decide_eq_true (by omega)
                have hkz : (k : Int) < 2 := by omega
                have cA := box_pk HR5.out.2.2.1 k hk
                rcases HR5.out.slot k (by omega) with hpk | ⟨gX, hpk, HLK⟩
                · rw [hpk] at cA
                  clear hpk
                  go_wp2
                  go_roundg (gk - 1)
                  case measure => omega
                  case rel => exact ⟨k + 1, by omega, by go_num, rfl⟩
                · rw [hpk] at cA
                  clear hpk
                  go_wp2_with (go_at_call 20; refine HLK.mono ?_; rintro e w6 ⟨rfl, rfl⟩)
                  go_roundg (gk - 1)
                  case measure => omega
                  case rel => exact ⟨k + 1, by omega, by go_num, rfl⟩
              · have tk : decide ((k : Int) < 2) = false := decide_eq_false (by omega)
                go_wp2
                go_roundg (ko - 1)
                case measure => have := HOM.out; omega
                case rel => exact ⟨j + 1, by have := HOM.out; omega, by go_num, HR5.out⟩
        · have tlt : decide ((j : Int) < (sn : Int)) = false := decide_eq_false (by omega)
          have HGF : Hid (w.grownBy wr none) := hR.1
          clear hR
          go_wp2
          go_ret
          exact ⟨rfl, HGF.out⟩
end Go.Proofs.Ytncmgnmcggkhnaa
