import Derived.Test.YtncmgnmcggkhnaaG17
import Derived.Test.YtncmgnmcggkhnaaG15
import Derived.Test.YtncmgnmcggkhnaaG18
import Derived.Test.YtncmgnmcggkhnaaG16
namespace Go.Proofs.Ytncmgnmcggkhnaa
open Go.RowKit

def HeadRd (w : World) (d : ByteArray) (h : Head) (number : Nat) (e : Ending) (w' : World) : Prop :=
  w.grownBy w' none ∧ ∃ (mode cnt : Nat) (ok : Bool), e = .returned (.tuple #[.agg #[.int .i64 mode, .int .i64 cnt], .bool ok]) ∧
    ((ok = true ∧ 8 ≤ d.size ∧ pHead h number d.data.toList (bitsOf d.data.toList) = some ((mode, cnt), bitsOf (d.data.toList.drop 8))) ∨ (ok = false ∧ pHead h number d.data.toList (bitsOf d.data.toList) = none))

theorem six_alive {a b c d e f : Nat} {l l6 : List Bool} {σ1 σ2 σ3 σ4 σ5 : Option (List Bool)} (h1 : Ends (pNum 24) (some l) a σ1) (h2 : Ends (pNum 4) σ1 b σ2) (h3 : Ends (pNum 4) σ2 c σ3) (h4 : Ends (pNum 8) σ3 d σ4) (h5 : Ends (pNum 16) σ4 e σ5) (h6 : Ends (pNum 8) σ5 f (some l6)) :
    ∃ l1 l2 l3 l4 l5, σ1 = some l1 ∧ σ2 = some l2 ∧ σ3 = some l3 ∧ σ4 = some l4 ∧ σ5 = some l5 ∧ l6.length + 64 = l.length ∧ l6 = l.drop 64 := by
  obtain ⟨l5, rfl⟩ := h6.alive
  obtain ⟨l4, rfl⟩ := h5.alive
  obtain ⟨l3, rfl⟩ := h4.alive
  obtain ⟨l2, rfl⟩ := h3.alive
  obtain ⟨l1, rfl⟩ := h2.alive
  have a1 := num_left h1
  have a2 := num_left h2
  have a3 := num_left h3
  have a4 := num_left h4
  have a5 := num_left h5
  have a6 := num_left h6
  refine ⟨l1, l2, l3, l4, l5, rfl, rfl, rfl, rfl, rfl, by omega, ?_⟩
  rw [a6.2, a5.2, a4.2, a3.2, a2.2, a1.2]
  simp only [List.drop_drop]

theorem six_dead {a b c d e f : Nat} {l : List Bool} {σ1 σ2 σ3 σ4 σ5 : Option (List Bool)} (h1 : Ends (pNum 24) (some l) a σ1) (h2 : Ends (pNum 4) σ1 b σ2) (h3 : Ends (pNum 4) σ2 c σ3) (h4 : Ends (pNum 8) σ3 d σ4) (h5 : Ends (pNum 16) σ4 e σ5) (h6 : Ends (pNum 8) σ5 f none) : l.length < 64 := by
  rcases Nat.lt_or_ge l.length 64 with hl | hl
  · exact hl
  · obtain rfl := num_alive h1 (by omega)
    obtain rfl := num_alive h2 (by rw [List.length_drop]; omega)
    obtain rfl := num_alive h3 (by rw [List.length_drop, List.length_drop]; omega)
    obtain rfl := num_alive h4 (by rw [List.length_drop, List.length_drop, List.length_drop]; omega)
    obtain rfl := num_alive h5 (by rw [List.length_drop, List.length_drop, List.length_drop, List.length_drop]; omega)
    have := num_alive h6 (by rw [List.length_drop, List.length_drop, List.length_drop, List.length_drop, List.length_drop]; omega)
    cases this

set_option maxHeartbeats 4000000 in
set_option maxRecDepth 20000 in
theorem qreadhead (w : World) (d : ByteArray) (h : Head) (number : Nat) (hd : d.size ≤ 6000) (hc : h.channels = 1 ∨ h.channels = 2) :
    Calls Try.prog 84 #[.string d, .agg (headC h), .int .i64 number] w (HeadRd w d h number) := by
  obtain ⟨L, hL⟩ : ∃ L, d.data.toList = L := ⟨_, rfl⟩
  have hLl : L.length = d.size := by rw [← hL]; simp
  have hnew := fun w => qnew w d
  rw [hL] at hnew
  have HL : Hid (d.data.toList = L) := hL
  clear hL
  unfold headC
  go_enter Try.func84, Try.ntmps84
  go_upto_region 1 with fail
  have h2 := two_new w _ rfl #[Value.int .i64 h.block, .int .i64 h.rate, .int .i64 h.channels, .int .i64 h.bits, .int .i64 h.total] #[Value.int .i64 0, .int .i64 0] 77 143
  obtain ⟨w0, hw0⟩ : ∃ w0, (w.alloc (.cells #[Value.int .i64 h.block, .int .i64 h.rate, .int .i64 h.channels, .int .i64 h.bits, .int .i64 h.total] 77)).alloc (.cells #[Value.int .i64 0, .int .i64 0] 143) = w0 := ⟨_, rfl⟩
  rw [hw0] at h2 ⊢
  obtain ⟨hg0, hbI0, hbR0⟩ := h2
  have hs0 : w0.heap.size = w.heap.size + 2 := by rw [← hw0]; simp
  clear hw0
  go_wp2_with fail
  refine (hnew _).mono ?_
  rintro e w1 ⟨rfl, hsp1, hg1, hsz1⟩
  have hgg1 := grown_trans hg0 hg1
  have hbI1 := hbI0.kept hg1 (by simp)
  have hbR1 := hbR0.kept hg1 (by simp)
  rw [hs0] at hsp1 ⊢
  have n1 : some w.heap.size ≠ some (w.heap.size + 2) := fun e => by injection e with e; omega
  have n2 : some (w.heap.size + 1) ≠ some (w.heap.size + 2) := fun e => by injection e with e; omega
  clear hg0 hbI0 hbR0 hg1 hnew hsz1 hs0
  go_wp2_with fail
  refine (qnum _ _ _ 24 _ hd (by omega) hsp1).mono ?_
  rintro e w2 ⟨begin, σ1, rfl, hbeg, -, hg2, hsp2, hends1⟩
  have hgg2 := grown_new hgg1 hg2 (fun g e => by injection e with e; omega)
  have hbI2 := hbI1.kept hg2 n1
  have hbR2 := hbR1.kept hg2 n2
  clear hgg1 hbI1 hbR1 hg2 hsp1
  go_wp2_with fail
  refine (qnum _ _ _ 4 _ hd (by omega) hsp2).mono ?_
  rintro e w3 ⟨mode, σ2, rfl, hmode0, -, hg3, hsp3, hends2⟩
  have hmode : mode < 16 := hmode0
  have hgg3 := grown_new hgg2 hg3 (fun g e => by injection e with e; omega)
  have hbI3 := hbI2.kept hg3 n1
  have hbR3 := hbR2.kept hg3 n2
  clear hgg2 hbI2 hbR2 hg3 hsp2 hmode0
  go_wp2_with fail
  refine (qnum _ _ _ 4 _ hd (by omega) hsp3).mono ?_
  rintro e w4 ⟨nought, σ3, rfl, hno, -, hg4, hsp4, hends3⟩
  have hgg4 := grown_new hgg3 hg4 (fun g e => by injection e with e; omega)
  have hbI4 := hbI3.kept hg4 n1
  have hbR4 := hbR3.kept hg4 n2
  clear hgg3 hbI3 hbR3 hg4 hsp3 hno
  go_wp2_with fail
  refine (qnum _ _ _ 8 _ hd (by omega) hsp4).mono ?_
  rintro e w5 ⟨told, σ4, rfl, htold, -, hg5, hsp5, hends4⟩
  have hgg5 := grown_new hgg4 hg5 (fun g e => by injection e with e; omega)
  have hbI5 := hbI4.kept hg5 n1
  have hbR5 := hbR4.kept hg5 n2
  clear hgg4 hbI4 hbR4 hg5 hsp4 htold
  go_wp2_with fail
  refine (qnum _ _ _ 16 _ hd (by omega) hsp5).mono ?_
  rintro e w6 ⟨cn, σ5, rfl, hcn0, -, hg6, hsp6, hends5⟩
  have hcn : cn < 65536 := hcn0
  have hgg6 := grown_new hgg5 hg6 (fun g e => by injection e with e; omega)
  have hbI6 := hbI5.kept hg6 n1
  have hbR6 := hbR5.kept hg6 n2
  clear hgg5 hbI5 hbR5 hg6 hsp5 hcn0
  go_wp2_with fail
  refine (qnum _ _ _ 8 _ hd (by omega) hsp6).mono ?_
  rintro e w7 ⟨sum, σ6, rfl, hsum, -, hg7, hsp7, hends6⟩
  have hgg7 := grown_new hgg6 hg7 (fun g e => by injection e with e; omega)
  have hbI7 := hbI6.kept hg7 n1
  have hbR7 := hbR6.kept hg7 n2
  clear hgg6 hbI6 hbR6 hg7 hsp6 hbeg hsum
  have hpost : ∃ ok : Bool, ok = (σ6.isSome && headOf h number L begin mode nought told cn sum) ∧ ((ok = true ∧ 8 ≤ d.size ∧ pHead h number L (bitsOf L) = some ((mode, cn + 1), bitsOf (L.drop 8))) ∨ (ok = false ∧ pHead h number L (bitsOf L) = none)) ∧ (σ6.isSome = true → 8 ≤ d.size) := by
    cases σ6 with
    | none =>
      have hl := six_dead hends1 hends2 hends3 hends4 hends5 hends6
      exact ⟨false, rfl, .inr ⟨rfl, head_short hl⟩, fun e => by cases e⟩
    | some l6 =>
      obtain ⟨l1, l2, l3, l4, l5, rfl, rfl, rfl, rfl, rfl, hlen, hdrop⟩ := six_alive hends1 hends2 hends3 hends4 hends5 hends6
      have hv := head_vals (number := number) (bytes := L) hc hends1 hends2 hends3 hends4 hends5 hends6
      rw [bitsOf_length] at hlen
      rw [show (64 : Nat) = 8 * 8 by rfl, bitsOf_drop] at hdrop
      refine ⟨headOf h number L begin mode nought told cn sum, by simp, ?_, fun _ => by omega⟩
      cases hh : headOf h number L begin mode nought told cn sum with
      | true => exact .inl ⟨rfl, by omega, by rw [hv, if_pos hh, hdrop]⟩
      | false => exact .inr ⟨rfl, by rw [hv, if_neg (by rw [hh]; simp)]⟩
  obtain ⟨ok, hok, hcase, h8⟩ := hpost
  have HOK : Hid (ok = (σ6.isSome && headOf h number L begin mode nought told cn sum)) := hok
  have HCASE : Hid _ := hcase
  clear hends1 hends2 hends3 hends4 hends5 hends6 hok hcase
  go_upto_region 8 with fail
  go_cut [15] (fun s15 wx => (∃ k, wx = w7.drewN k) ∧ s15 = .bool ok)
  case first =>
    have i0 : w7.cell? ⟨w.heap.size, 0, none⟩ = some (.int .i64 h.block) := hbI7.cell 0
    have i2 : w7.cell? ⟨w.heap.size, 2, none⟩ = some (.int .i64 h.channels) := hbI7.cell 2
    obtain ⟨a0, ha0⟩ : ∃ a0, σ6.isSome = a0 := ⟨_, rfl⟩
    have hnone : σ6.isNone = !a0 := by rw [← ha0]; cases σ6 <;> rfl
    have HO := fun d' => qover (w7.drewN d') (w.heap.size + 2) d σ6 (hsp7.drewN d')
    rw [hnone] at HO
    obtain ⟨cm, hcm⟩ : ∃ cm, chOf mode = cm := ⟨_, rfl⟩
    have HM := fun d' => qchannels (w7.drewN d') mode hmode
    rw [hcm] at HM
    have hex : (d.extract 0 7).data.toList = L.take 7 := by rw [extract_list, HL.out]; simp
    obtain ⟨cr, hcr⟩ : ∃ cr, crc 8 7 (L.take 7) = cr := ⟨_, rfl⟩
    have HR := fun d' => crc8_any (d.extract 0 7) (w7.drewN d') (by
      have : (d.extract 0 7).size ≤ d.size := by rw [← dlen, hex, List.length_take]; omega
      unfold maxLen; omega)
    rw [hex, hcr] at HR
    obtain ⟨p1, hp1⟩ : ∃ p1, ((begin : Int) == 16775280) = p1 := ⟨_, rfl⟩
    obtain ⟨p2, hp2⟩ : ∃ p2, ((nought : Int) == 0) = p2 := ⟨_, rfl⟩
    obtain ⟨p3, hp3⟩ : ∃ p3, ((told : Int) == (number : Int)) = p3 := ⟨_, rfl⟩
    obtain ⟨p4, hp4⟩ : ∃ p4, decide ((cn : Int) + 1 ≤ (h.block : Int)) = p4 := ⟨_, rfl⟩
    obtain ⟨p5, hp5⟩ : ∃ p5, ((cm : Int) == (h.channels : Int)) = p5 := ⟨_, rfl⟩
    obtain ⟨p6, hp6⟩ : ∃ p6, ((sum : Int) == (cr : Int)) = p6 := ⟨_, rfl⟩
    have HOK2 : Hid (ok = (a0 && p1 && p2 && p3 && p4 && p5 && p6)) := by
      show _ = _
      have e1 : decide (begin = 16775280) = p1 := by rw [← hp1, Bool.eq_iff_iff]; simp; omega
      have e2 : decide (nought = 0) = p2 := by rw [← hp2, Bool.eq_iff_iff]; simp
      have e3 : decide (told = number) = p3 := by rw [← hp3, Bool.eq_iff_iff]; simp; omega
      have e4 : decide (cn + 1 ≤ h.block) = p4 := by rw [← hp4, Bool.eq_iff_iff]; simp; omega
      have e5 : decide (cm = h.channels) = p5 := by rw [← hp5, Bool.eq_iff_iff]; simp; omega
      have e6 : decide (sum = cr) = p6 := by rw [← hp6, Bool.eq_iff_iff]; simp; omega
      rw [HOK.out, ha0]
      unfold headOf
      rw [hcm, hcr, e1, e2, e3, e4, e5, e6]
      simp only [Bool.and_assoc]
    have h8' : a0 = true → (7 : Int) ≤ (d.size : Int) := fun e => by have := h8 (by rw [ha0]; exact e); omega
    clear HOK HCASE h8 ha0 hnone hex hcm hcr hsp7 hbI7 hbR7 hgg7
    cases a0
    · clear h8'
      go_quiet (first | (go_at_call 90; exact Calls.quiet_of_same (HO _)) | (go_at_call 107; exact Calls.quiet_of_same (HM _)) | (go_at_call 12; exact Calls.quiet_of_same (HR _)))
      go_wp2
      go_meet
      case rel => exact ⟨⟨_, rfl⟩, congrArg Value.bool (by rw [HOK2.out]; simp)⟩
    · have hd7 := h8' rfl
      clear h8'
      cases p1
      · go_quiet (first | (go_at_call 90; exact Calls.quiet_of_same (HO _)) | (go_at_call 107; exact Calls.quiet_of_same (HM _)) | (go_at_call 12; exact Calls.quiet_of_same (HR _)))
        go_wp2
        go_meet
        case rel => exact ⟨⟨_, rfl⟩, congrArg Value.bool (by rw [HOK2.out]; simp)⟩
      · cases p2
        · go_quiet (first | (go_at_call 90; exact Calls.quiet_of_same (HO _)) | (go_at_call 107; exact Calls.quiet_of_same (HM _)) | (go_at_call 12; exact Calls.quiet_of_same (HR _)))
          go_wp2
          go_meet
          case rel => exact ⟨⟨_, rfl⟩, congrArg Value.bool (by rw [HOK2.out]; simp)⟩
        · cases p3
          · go_quiet (first | (go_at_call 90; exact Calls.quiet_of_same (HO _)) | (go_at_call 107; exact Calls.quiet_of_same (HM _)) | (go_at_call 12; exact Calls.quiet_of_same (HR _)))
            go_wp2
            go_meet
            case rel => exact ⟨⟨_, rfl⟩, congrArg Value.bool (by rw [HOK2.out]; simp)⟩
          · cases p4
            · go_quiet (first | (go_at_call 90; exact Calls.quiet_of_same (HO _)) | (go_at_call 107; exact Calls.quiet_of_same (HM _)) | (go_at_call 12; exact Calls.quiet_of_same (HR _)))
              go_wp2
              go_meet
              case rel => exact ⟨⟨_, rfl⟩, congrArg Value.bool (by rw [HOK2.out]; simp)⟩
            · cases p5
              · go_quiet (first | (go_at_call 90; exact Calls.quiet_of_same (HO _)) | (go_at_call 107; exact Calls.quiet_of_same (HM _)) | (go_at_call 12; exact Calls.quiet_of_same (HR _)))
                go_wp2
                go_meet
                case rel => exact ⟨⟨_, rfl⟩, congrArg Value.bool (by rw [HOK2.out]; simp)⟩
              · cases p6
                · go_quiet (first | (go_at_call 90; exact Calls.quiet_of_same (HO _)) | (go_at_call 107; exact Calls.quiet_of_same (HM _)) | (go_at_call 12; exact Calls.quiet_of_same (HR _)))
                  go_wp2
                  go_meet
                  case rel => exact ⟨⟨_, rfl⟩, congrArg Value.bool (by rw [HOK2.out]; simp)⟩
                · go_quiet (first | (go_at_call 90; exact Calls.quiet_of_same (HO _)) | (go_at_call 107; exact Calls.quiet_of_same (HM _)) | (go_at_call 12; exact Calls.quiet_of_same (HR _)))
                  go_wp2
                  go_meet
                  case rel => exact ⟨⟨_, rfl⟩, congrArg Value.bool (by rw [HOK2.out]; simp)⟩
  case rest =>
    obtain ⟨⟨k, hwc⟩, hs15⟩ := hcut
    subst hs15
    have hbR8 : Box wc (w.heap.size + 1) #[Value.int .i64 0, .int .i64 0] 143 := by rw [hwc]; exact hbR7
    have hgg8 : w.grownBy wc none := by rw [hwc]; exact grown_drewN hgg7 k
    have z0 : wc.cell? ⟨w.heap.size + 1, 0, none⟩ = some (.int .i64 0) := hbR8.cell 0
    have z1 : wc.cell? ⟨w.heap.size + 1, 1, none⟩ = some (.int .i64 0) := hbR8.cell 1
    have y0 := hbR8.fz 0
    have y1 := hbR8.fz 1
    have hst : Box ((wc.setCell ⟨w.heap.size + 1, 0, none⟩ (.int .i64 mode)).setCell ⟨w.heap.size + 1, 1, none⟩ (.int .i64 ((cn : Int) + 1))) (w.heap.size + 1) #[Value.int .i64 mode, .int .i64 ((cn : Int) + 1)] 143 ∧
        wc.grownBy ((wc.setCell ⟨w.heap.size + 1, 0, none⟩ (.int .i64 mode)).setCell ⟨w.heap.size + 1, 1, none⟩ (.int .i64 ((cn : Int) + 1))) (some (w.heap.size + 1)) :=
      ⟨(hbR8.set 0 _).set 1 _, grown_trans (grown_set _ _ _ _) (grown_set _ _ _ _)⟩
    clear hwc hsp7 hbI7 hbR7 hgg7
    go_wp2
    generalize (World.setCell _ _ (Value.int .i64 ((cn : Int) + 1))) = wf at hst ⊢
    have x0 := hst.1.cell 0
    have x1 := hst.1.cell 1
    refine bodyPost_ret (v := .tuple #[.agg #[.int .i64 mode, .int .i64 ((cn + 1 : Nat) : Int)], .bool ok]) (by simp [results, Try.results84, go_sem, x0, x1]) rfl ⟨grown_new hgg8 hst.2 (fun q e => by injection e with e; omega), mode, cn + 1, ok, rfl, ?_⟩
    rw [HL.out]
    exact HCASE.out
end Go.Proofs.Ytncmgnmcggkhnaa

namespace Go.Proofs.Ytncmgnmcggkhnaa
open Go.RowKit

theorem ownsRow_mono {w : World} {base base' : Nat} {e : TypeId} {size : Nat} {v : Value} {n : Nat} {xs : List Value} (h : w.ownsRow base e size v n xs) (hb : base' ≤ base) : w.ownsRow base' e size v n xs := by
  refine ⟨h.1, ?_⟩
  rcases h.2 with h | ⟨g, cap, cur, h1, h2, h3⟩
  · exact .inl h
  · exact .inr ⟨g, cap, cur, h1, Nat.le_trans hb h2, h3⟩

theorem Subs.mono {w : World} {base base' : Nat} {lv : Value} {vs : List Value} {xss : List (List Int)} (h : Subs w base lv vs xss) (hb : base' ≤ base) : Subs w base' lv vs xss :=
  ⟨ownsRow_mono h.row hb, h.len, fun i hi => Own.mono (h.own i hi) hb, h.apartL, h.apartV⟩

def noFrame : Value := .agg #[.int .i64 0, .int .i64 0, .slice none 0 0]

def RdFrame (w : World) (d : ByteArray) (h : Head) (number : Nat) (e : Ending) (w' : World) : Prop :=
  w.grownBy w' none ∧ ∃ (size cnt : Nat) (v : Value) (ok : Bool), e = .returned (.tuple #[.agg #[.int .i64 size, .int .i64 cnt, v], .bool ok]) ∧
    ((ok = true ∧ ∃ chs vs, pFrame h number d.data.toList = some (chs, d.data.toList.drop size) ∧ size ≤ d.size ∧ Subs w' w.heap.size v vs chs ∧ ∀ j, j < h.channels → (chs.getD j []).length = cnt) ∨
     (ok = false ∧ v = .slice none 0 0 ∧ cnt = 0 ∧ pFrame h number d.data.toList = none))

theorem frame_nohead {h : Head} {number : Nat} {L : List UInt8} (e : pHead h number L (bitsOf L) = none) : pFrame h number L = none := by unfold pFrame; rw [e]; rfl

theorem frame_nofit {h : Head} {number mode n : Nat} {L : List UInt8} {l0 : List Bool} (e : pHead h number L (bitsOf L) = some ((mode, n), l0)) (hno : ∀ subs l', pChannels n h.bits mode h.channels 0 l0 = some (subs, l') → allFit h.bits (apart mode subs) = false) : pFrame h number L = none := by
  unfold pFrame
  rw [e]
  simp only [Option.bind_some]
  cases e2 : pChannels n h.bits mode h.channels 0 l0 with
  | none => rfl
  | some x =>
    obtain ⟨subs, l1⟩ := x
    have := hno subs l1 e2
    unfold allFit at this
    simp only [Option.bind_some]
    cases e3 : pMust (l1.length % 8) 0 l1 with
    | none => rfl
    | some y =>
      obtain ⟨_, r2⟩ := y
      simp only [Option.bind_some]
      cases e4 : pMust 16 (crc 16 32773 (L.take (L.length - r2.length / 8))) r2 with
      | none => rfl
      | some z =>
        simp only [Option.bind_some]
        rw [if_neg (by rw [this]; simp)]

/-- the answer of nothing -/
theorem fr_none {w X : World} {d : ByteArray} {h : Head} {number r : Nat} (hg : w.grownBy X none) (hr : w.heap.size ≤ r) (hb : Box X r #[.int .i64 0, .int .i64 0, .slice none 0 0] 115) (hd : pFrame h number d.data.toList = none) :
    Box (((X.setCell ⟨r, 0, none⟩ (.int .i64 0)).setCell ⟨r, 1, none⟩ (.int .i64 0)).setCell ⟨r, 2, none⟩ (.slice none 0 0)) r #[.int .i64 0, .int .i64 0, .slice none 0 0] 115 ∧
    RdFrame w d h number (.returned (.tuple #[noFrame, .bool false])) (((X.setCell ⟨r, 0, none⟩ (.int .i64 0)).setCell ⟨r, 1, none⟩ (.int .i64 0)).setCell ⟨r, 2, none⟩ (.slice none 0 0)) := by
  have h3 := three_cells X r _ _ _ _ (.int .i64 0) (.int .i64 0) (.slice none 0 0) hb
  exact ⟨h3.1, grown_new hg h3.2 (fun g e => by injection e with e; omega), 0, 0, .slice none 0 0, false, rfl, .inr ⟨rfl, rfl, rfl, hd⟩⟩

set_option maxHeartbeats 8000000 in
set_option maxRecDepth 20000 in
theorem qreadframe (w : World) (d : ByteArray) (h : Head) (number : Nat) (hd : d.size ≤ 6000) (hc1 : 1 ≤ h.channels) (hc2 : h.channels ≤ 2) (hb1 : 4 ≤ h.bits) (hb2 : h.bits ≤ 16) (hblk : h.block ≤ 256) :
    Calls Try.prog 62 #[.string d, .agg (headC h), .int .i64 number] w (RdFrame w d h number) := by
  obtain ⟨L, hL⟩ : ∃ L, d.data.toList = L := ⟨_, rfl⟩
  have hLl : L.length = d.size := by rw [← hL]; simp
  have HL : Hid (d.data.toList = L) := hL
  have HRH := fun w => qreadhead w d h number hd (by omega)
  clear hL
  unfold headC at HRH ⊢
  go_enter Try.func62, Try.ntmps62
  go_upto_region 1 with fail
  have h2 := two_new w _ rfl #[Value.int .i64 h.block, .int .i64 h.rate, .int .i64 h.channels, .int .i64 h.bits, .int .i64 h.total] #[Value.int .i64 0, .int .i64 0, .slice none 0 0] 77 115
  obtain ⟨w0, hw0⟩ : ∃ w0, (w.alloc (.cells #[Value.int .i64 h.block, .int .i64 h.rate, .int .i64 h.channels, .int .i64 h.bits, .int .i64 h.total] 77)).alloc (.cells #[Value.int .i64 0, .int .i64 0, .slice none 0 0] 115) = w0 := ⟨_, rfl⟩
  rw [hw0] at h2 ⊢
  obtain ⟨hg0, hbI0, hbR0⟩ := h2
  clear hw0
  have i0 : w0.cell? ⟨w.heap.size, 0, none⟩ = some (.int .i64 h.block) := hbI0.cell 0
  have i1 : w0.cell? ⟨w.heap.size, 1, none⟩ = some (.int .i64 h.rate) := hbI0.cell 1
  have i2 : w0.cell? ⟨w.heap.size, 2, none⟩ = some (.int .i64 h.channels) := hbI0.cell 2
  have i3 : w0.cell? ⟨w.heap.size, 3, none⟩ = some (.int .i64 h.bits) := hbI0.cell 3
  have i4 : w0.cell? ⟨w.heap.size, 4, none⟩ = some (.int .i64 h.total) := hbI0.cell 4
  go_wp2_with fail
  refine (HRH _).mono ?_
  rintro e w1 ⟨hg1, mode, cnt, ok, rfl, hcase⟩
  rw [HL.out] at hcase
  have hgg1 := grown_trans hg0 hg1
  have hbI1 := hbI0.kept hg1 (by simp)
  have hbR1 := hbR0.kept hg1 (by simp)
  clear hg0 hbI0 hbR0 hg1 HRH i0 i1 i2 i3 i4
  obtain ⟨w2, hw2⟩ : ∃ w2, w1.alloc (.cells #[Value.int .i64 mode, .int .i64 cnt] 143) = w2 := ⟨_, rfl⟩
  obtain ⟨gM, hgM⟩ : ∃ gM, w1.heap.size = gM := ⟨_, rfl⟩
  have hg2 : w1.grownBy w2 none := by rw [← hw2]; exact grown_alloc (grown_refl _ _) _
  have hbM2 : Box w2 gM #[Value.int .i64 mode, .int .i64 cnt] 143 := by rw [← hgM, ← hw2]; exact Box.new _ _ _
  have hgg2 := grown_trans hgg1 hg2
  have hbI2 := hbI1.kept hg2 (by simp)
  have hbR2 := hbR1.kept hg2 (by simp)
  have hMlt := hbR1.lt
  rw [hgM] at hMlt
  have HW2 : Hid (w1.alloc (.cells #[Value.int .i64 mode, .int .i64 cnt] 143) = w2) := hw2
  have HGM : Hid (w1.heap.size = gM) := hgM
  clear hw2 hgM hgg1 hbI1 hbR1 hg2
  go_upto_region 2 with fail
  rw [HW2.out, HGM.out]
  clear HW2 HGM
  have z0 : w2.cell? ⟨w.heap.size + 1, 0, none⟩ = some (.int .i64 0) := hbR2.cell 0
  have z1 : w2.cell? ⟨w.heap.size + 1, 1, none⟩ = some (.int .i64 0) := hbR2.cell 1
  have z2 : w2.cell? ⟨w.heap.size + 1, 2, none⟩ = some (.slice none 0 0) := hbR2.cell 2
  have y0 := hbR2.fz 0
  have y1 := hbR2.fz 1
  have y2 := hbR2.fz 2
  rcases hcase with ⟨rfl, h8, hhead⟩ | ⟨rfl, hnone⟩
  rotate_left
  · have hf := fr_none (h := h) (number := number) (d := d) hgg2 (by omega) hbR2 (by rw [HL.out]; exact frame_nohead hnone)
    clear hnone
    go_wp2
    generalize (World.setCell _ _ (Value.slice none 0 0)) = wf at hf ⊢
    have x0 := hf.1.cell 0
    have x1 := hf.1.cell 1
    have x2 := hf.1.cell 2
    exact bodyPost_ret (v := .tuple #[noFrame, .bool false]) (by simp [results, Try.results62, go_sem, x0, x1, x2, noFrame]) rfl hf.2
  have hcnt := (pHead_left hhead).2
  have hcnt1 : 1 ≤ cnt := hcnt.1
  have hcnt2 : cnt ≤ 256 := Nat.le_trans hcnt.2 hblk
  have hd8 : (d.extract 8 d.size).data.toList = L.drop 8 := by rw [extract_list, HL.out, List.take_of_length_le (by rw [List.length_drop]; omega)]
  have hs8 : (d.extract 8 d.size).size = d.size - 8 := by rw [← dlen, hd8, List.length_drop]; omega
  obtain ⟨s, hs⟩ : ∃ s, d.extract 8 d.size = s := ⟨_, rfl⟩
  have HHEAD : Hid (pHead h number L (bitsOf L) = some ((mode, cnt), bitsOf (L.drop 8))) := hhead
  have hnew := fun w => qnew w s
  rw [hs] at hd8 hs8
  rw [hd8] at hnew
  have hS : s.size ≤ 6000 := by omega
  have HEX : Hid (d.extract 8 d.size = s) := hs
  have hdl : (L.drop 8).length = s.size := by rw [List.length_drop]; omega
  clear hhead hcnt hs hd8 z0 z1 z2 y0 y1 y2
  go_wp2_with fail
  rw [HEX.out]
  refine (hnew _).mono ?_
  rintro e w3 ⟨rfl, hsp3, hg3, hsz3⟩
  obtain ⟨b, hb⟩ : ∃ b, w2.heap.size = b := ⟨_, rfl⟩
  have hMb : gM < b := by rw [← hb]; exact hbM2.lt
  rw [hb] at hsp3 ⊢
  have hgg3 := grown_trans hgg2 hg3
  have hbI3 := hbI2.kept hg3 (by simp)
  have hbR3 := hbR2.kept hg3 (by simp)
  have hbM3 := hbM2.kept hg3 (by simp)
  have hb3 : b < w3.heap.size := hsp3.lt
  clear hgg2 hbI2 hbR2 hbM2 hg3 hb hsz3 hnew
  have i0 : w3.cell? ⟨w.heap.size, 0, none⟩ = some (.int .i64 h.block) := hbI3.cell 0
  have i1 : w3.cell? ⟨w.heap.size, 1, none⟩ = some (.int .i64 h.rate) := hbI3.cell 1
  have i2 : w3.cell? ⟨w.heap.size, 2, none⟩ = some (.int .i64 h.channels) := hbI3.cell 2
  have i3 : w3.cell? ⟨w.heap.size, 3, none⟩ = some (.int .i64 h.bits) := hbI3.cell 3
  have i4 : w3.cell? ⟨w.heap.size, 4, none⟩ = some (.int .i64 h.total) := hbI3.cell 4
  have m0 : w3.cell? ⟨gM, 0, none⟩ = some (.int .i64 mode) := hbM3.cell 0
  have m1 : w3.cell? ⟨gM, 1, none⟩ = some (.int .i64 cnt) := hbM3.cell 1
  have hq := qreadchans w3 b s (bitsOf (L.drop 8)) h mode cnt hS hcnt2 hcnt1 hc1 hc2 hb1 hb2 hsp3
  unfold headC at hq
  go_wp2_with fail
  refine hq.mono ?_
  rintro e w4 ⟨v, ok, rfl, hg4, hcase⟩
  have hgg4 := grown_new hgg3 hg4 (fun g e => by injection e with e; omega)
  have hbR4 := hbR3.kept hg4 (fun e => by injection e with e; omega)
  have hbM4 := hbM3.kept hg4 (fun e => by injection e with e; omega)
  clear hq hgg3 hbI3 hbR3 hbM3 hg4 hsp3 i0 i1 i2 i3 i4 m0 m1
  rcases hcase with ⟨rfl, vs, subs, l1, hsubs, hsp4, hch, hfit⟩ | ⟨rfl, hno⟩
  rotate_left
  · have hf := fr_none (h := h) (number := number) (d := d) hgg4 (by omega) hbR4 (by rw [HL.out]; exact frame_nofit HHEAD.out hno)
    have z0 : w4.cell? ⟨w.heap.size + 1, 0, none⟩ = some (.int .i64 0) := hbR4.cell 0
    have z1 : w4.cell? ⟨w.heap.size + 1, 1, none⟩ = some (.int .i64 0) := hbR4.cell 1
    have z2 : w4.cell? ⟨w.heap.size + 1, 2, none⟩ = some (.slice none 0 0) := hbR4.cell 2
    have y0 := hbR4.fz 0
    have y1 := hbR4.fz 1
    have y2 := hbR4.fz 2
    clear hno
    go_wp2
    generalize (World.setCell _ _ (Value.slice none 0 0)) = wf at hf ⊢
    have x0 := hf.1.cell 0
    have x1 := hf.1.cell 1
    have x2 := hf.1.cell 2
    exact bodyPost_ret (v := .tuple #[noFrame, .bool false]) (by simp [results, Try.results62, go_sem, x0, x1, x2, noFrame]) rfl hf.2
  obtain ⟨av, cv, hav⟩ : ∃ av cv, v = .slice av vs.length cv := by
    rcases hsubs.row.2 with ⟨e1, e2⟩ | ⟨g, cap, _, e1, _⟩
    · exact ⟨none, 0, by rw [e1, e2]⟩
    · exact ⟨_, _, e1⟩
  subst hav
  go_wp2_with fail
  refine (qalign w4 b s l1 hS hsp4).mono ?_
  rintro e w5 ⟨ok3, rfl, hg5, hsp5, hpad⟩
  have hgg5 := grown_new hgg4 hg5 (fun g e => by injection e with e; omega)
  have hbR5 := hbR4.kept hg5 (fun e => by injection e with e; omega)
  have hbM5 := hbM4.kept hg5 (fun e => by injection e with e; omega)
  have hsubs5 := hsubs.kept hg5 hb3
  have HH : Hid (Ends (pHead h number L) (some (bitsOf L)) (mode, cnt) (some (bitsOf (L.drop 8)))) := Ends.of HHEAD.out
  have HCH : Hid (Ends (pChannels cnt h.bits mode h.channels 0) (some (bitsOf (L.drop 8))) subs (some l1)) := Ends.of hch
  have hl1 := Shr.channels cnt h.bits mode h.channels 0 _ _ _ hch
  rw [bitsOf_length, hdl] at hl1
  clear hgg4 hbR4 hbM4 hsubs hg5 hsp4 hch
  cases ok3
  · have hf := fr_none (h := h) (number := number) (d := d) hgg5 (by omega) hbR5 (by rw [HL.out]; exact pFrame_pad_none HH.out HCH.out (Ends.fail (fun l e => by cases e; exact hpad)))
    have z0 : w5.cell? ⟨w.heap.size + 1, 0, none⟩ = some (.int .i64 0) := hbR5.cell 0
    have z1 : w5.cell? ⟨w.heap.size + 1, 1, none⟩ = some (.int .i64 0) := hbR5.cell 1
    have z2 : w5.cell? ⟨w.heap.size + 1, 2, none⟩ = some (.slice none 0 0) := hbR5.cell 2
    have y0 := hbR5.fz 0
    have y1 := hbR5.fz 1
    have y2 := hbR5.fz 2
    clear hpad
    go_wp2
    generalize (World.setCell _ _ (Value.slice none 0 0)) = wf at hf ⊢
    have x0 := hf.1.cell 0
    have x1 := hf.1.cell 1
    have x2 := hf.1.cell 2
    exact bodyPost_ret (v := .tuple #[noFrame, .bool false]) (by simp [results, Try.results62, go_sem, x0, x1, x2, noFrame]) rfl hf.2
  obtain ⟨l2, hl2⟩ : ∃ l2, l1.drop (l1.length % 8) = l2 := ⟨_, rfl⟩
  have hl2l : l2.length = l1.length - l1.length % 8 := by rw [← hl2, List.length_drop]
  rw [hl2] at hsp5 hpad
  have HPAD : Hid (Ends (pMust (l1.length % 8) 0) (some l1) () (some l2)) := Ends.of (by rw [hpad]; rfl)
  obtain ⟨a, ha, hrd, _, hsome⟩ := hsp5.rd
  have hal := (hsome l2 rfl).2
  obtain ⟨q, hqq⟩ : ∃ q, (a + 7) / 8 = q := ⟨_, rfl⟩
  have haq : a = 8 * q := by omega
  have hbytes := qbytes w5 b s a false hS ha hrd
  rw [hqq] at hbytes
  have hq8 : q + 8 ≤ d.size := by omega
  have hql : L.length - l2.length / 8 = 8 + q := by omega
  have HQL : Hid (L.length - l2.length / 8 = 8 + q) := hql
  clear hpad hl2 hsome hrd hqq haq hal hql
  go_wp2_with fail
  refine hbytes.mono ?_
  rintro e w6 ⟨rfl, rfl⟩
  clear hbytes
  go_wp2_with fail
  refine (qnum _ _ _ 16 _ hS (by omega) hsp5).mono ?_
  rintro e w7 ⟨told, σ7, rfl, htold0, -, hg7, hsp7, hends7⟩
  have htold : told < 65536 := htold0
  have hgg7 := grown_new hgg5 hg7 (fun g e => by injection e with e; omega)
  have hbR7 := hbR5.kept hg7 (fun e => by injection e with e; omega)
  have hbM7 := hbM5.kept hg7 (fun e => by injection e with e; omega)
  have hsubs7 := hsubs5.kept hg7 hb3
  clear hgg5 hbR5 hbM5 hsubs5 hg7 hsp5 htold0
  go_wp2_with fail
  refine (qover _ _ _ _ hsp7).mono ?_
  rintro e w8 ⟨rfl, rfl⟩
  obtain ⟨cr, hcr⟩ : ∃ cr, crc 16 32773 (L.take (8 + q)) = cr := ⟨_, rfl⟩
  have HCR : Hid (crc 16 32773 (L.take (8 + q)) = cr) := hcr
  have hsumno : told ≠ cr ∨ σ7 = none → pFrame h number L = none := by
    intro hor
    refine pFrame_sum_none HH.out HCH.out HPAD.out ?_
    rw [HQL.out, HCR.out]
    by_cases e : told = cr
    · rcases hor with hor | hor
      · exact absurd e hor
      · rw [hor] at hends7; exact must_yes hends7 e
    · exact must_no hends7 e
  cases σ7 with
  | none =>
    have hf := fr_none (h := h) (number := number) (d := d) hgg7 (by omega) hbR7 (by rw [HL.out]; exact hsumno (.inr rfl))
    have z0 : w8.cell? ⟨w.heap.size + 1, 0, none⟩ = some (.int .i64 0) := hbR7.cell 0
    have z1 : w8.cell? ⟨w.heap.size + 1, 1, none⟩ = some (.int .i64 0) := hbR7.cell 1
    have z2 : w8.cell? ⟨w.heap.size + 1, 2, none⟩ = some (.slice none 0 0) := hbR7.cell 2
    have y0 := hbR7.fz 0
    have y1 := hbR7.fz 1
    have y2 := hbR7.fz 2
    clear hsumno hends7
    go_wp2
    generalize (World.setCell _ _ (Value.slice none 0 0)) = wf at hf ⊢
    have x0 := hf.1.cell 0
    have x1 := hf.1.cell 1
    have x2 := hf.1.cell 2
    exact bodyPost_ret (v := .tuple #[noFrame, .bool false]) (by simp [results, Try.results62, go_sem, x0, x1, x2, noFrame]) rfl hf.2
  | some l3 =>
    have hex : (d.extract 0 (8 + q)).data.toList = L.take (8 + q) := by rw [extract_list, HL.out]; simp
    have hcall := fun w => crc16_any (d.extract 0 (8 + q)) w (by
      have : (d.extract 0 (8 + q)).size ≤ d.size := by rw [← dlen, hex, List.length_take]; omega
      unfold maxLen; omega)
    rw [hex, hcr] at hcall
    have hl3 := (num_left hends7).1
    clear hex hcr
    go_wp2_with fail
    refine (hcall _).mono ?_
    rintro e w9 ⟨rfl, rfl⟩
    clear hcall
    by_cases he : told = cr
    rotate_left
    · have hf := fr_none (h := h) (number := number) (d := d) hgg7 (by omega) hbR7 (by rw [HL.out]; exact hsumno (.inl he))
      have z0 : w9.cell? ⟨w.heap.size + 1, 0, none⟩ = some (.int .i64 0) := hbR7.cell 0
      have z1 : w9.cell? ⟨w.heap.size + 1, 1, none⟩ = some (.int .i64 0) := hbR7.cell 1
      have z2 : w9.cell? ⟨w.heap.size + 1, 2, none⟩ = some (.slice none 0 0) := hbR7.cell 2
      have y0 := hbR7.fz 0
      have y1 := hbR7.fz 1
      have y2 := hbR7.fz 2
      have te : ((told : Int) != (cr : Int)) = true := by simp; omega
      clear hsumno hends7 he
      go_wp2
      generalize (World.setCell _ _ (Value.slice none 0 0)) = wf at hf ⊢
      have x0 := hf.1.cell 0
      have x1 := hf.1.cell 1
      have x2 := hf.1.cell 2
      exact bodyPost_ret (v := .tuple #[noFrame, .bool false]) (by simp [results, Try.results62, go_sem, x0, x1, x2, noFrame]) rfl hf.2
    · have te : ((told : Int) != (cr : Int)) = false := by simp; omega
      have z0 : w9.cell? ⟨w.heap.size + 1, 0, none⟩ = some (.int .i64 0) := hbR7.cell 0
      have z1 : w9.cell? ⟨w.heap.size + 1, 1, none⟩ = some (.int .i64 0) := hbR7.cell 1
      have z2 : w9.cell? ⟨w.heap.size + 1, 2, none⟩ = some (.slice none 0 0) := hbR7.cell 2
      have y0 := hbR7.fz 0
      have y1 := hbR7.fz 1
      have y2 := hbR7.fz 2
      have m1 : w9.cell? ⟨gM, 1, none⟩ = some (.int .i64 cnt) := hbM7.cell 1
      have hlast := pFrame_last HH.out HCH.out HPAD.out (by rw [HQL.out, HCR.out]; exact must_yes hends7 he)
      have hdrop : L.length - l3.length / 8 = 8 + q + 2 := by have := HQL.out; omega
      unfold allFit at hfit
      rw [if_pos hfit, hdrop] at hlast
      have hsp := pFrame_spec hlast
      have hcs := chan_live HCH.out
      have hlens : ∀ j, j < h.channels → ((apart mode subs).getD j []).length = cnt := by
        have ha := apart_spec mode cnt subs (fun j hj => (hcs.2 j (by rw [← hcs.1]; exact hj)).1)
        intro j hj
        exact ha.2 j (by rw [hcs.1]; exact hj)
      have hsz : 8 + q + 2 ≤ d.size := by omega
      have h3 := three_cells w9 (w.heap.size + 1) _ _ _ _ (.int .i64 (8 + (q : Int) + 2)) (.int .i64 cnt) (.slice av vs.length cv) hbR7
      have hpost : ∀ wf, w9.grownBy wf (some (w.heap.size + 1)) → RdFrame w d h number (.returned (.tuple #[.agg #[.int .i64 ((8 + q + 2 : Nat) : Int), .int .i64 cnt, .slice av vs.length cv], .bool true])) wf := by
        intro wf hgf
        refine ⟨grown_new hgg7 hgf (fun g e => by injection e with e; omega), 8 + q + 2, cnt, _, true, rfl, .inl ⟨rfl, apart mode subs, vs, by rw [HL.out]; exact hlast, hsz, ?_, hlens⟩⟩
        exact (hsubs7.kept hgf (by omega)).mono (by omega)
      clear hlast hsp hcs hlens hsumno hends7 he hsubs7 hgg7 hdrop hfit
      go_wp2
      generalize (World.setCell _ _ (Value.slice av vs.length cv)) = wf at h3 ⊢
      have x0 := h3.1.cell 0
      have x1 := h3.1.cell 1
      have x2 := h3.1.cell 2
      exact bodyPost_ret (v := .tuple #[.agg #[.int .i64 ((8 + q + 2 : Nat) : Int), .int .i64 cnt, .slice av vs.length cv], .bool true]) (by simp [results, Try.results62, go_sem, x0, x1, x2]) rfl (hpost wf h3.2)
end Go.Proofs.Ytncmgnmcggkhnaa
