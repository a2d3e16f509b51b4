/-
  The proof of a statement; its frame is written after the shell of the guide.
-/
import Derived.Test.YtncmgnmcggkhnaaRows
import Derived.Test.YtncmgnmcggkhnaaCrcCalls
import Derived.WalkKit
import Derived.ProofKit
import Derived.OpenShut
import Derived.ShutString
namespace Go.Proofs.Ytncmgnmcggkhnaa.sums
open Go.ChangeShapes Go.WideShapes Go.ChangeAt Go.RowKit
open Go.ChangeMaps (open_string shut_string)
set_option linter.unusedVariables false      -- a walk need not use every 'w<i>' (that an integer argument fits its kind)

theorem own : ownKnob Try.prog.godebug = none := by kernel_rfl

theorem known8 : crc 8 7 [49, 50, 51, 52, 53, 54, 55, 56, 57] = 244 := by decide +kernel
theorem known16 : crc 16 32773 [49, 50, 51, 52, 53, 54, 55, 56, 57] = 65256 := by decide +kernel

/-- the first call's answer, in the walk's words -/
theorem first8 (w : World) : Calls Try.prog 12 #[.string ⟨#[49, 50, 51, 52, 53, 54, 55, 56, 57]⟩] w fun e w' => e = .returned (.int .i64 244) ∧ w' = w := by
  refine (crc8_any _ w (by decide)).mono ?_
  rintro e w' ⟨rfl, rfl⟩
  exact ⟨ret_int (congrArg Int.ofNat known8), rfl⟩

theorem first16 (w : World) : Calls Try.prog 13 #[.string ⟨#[49, 50, 51, 52, 53, 54, 55, 56, 57]⟩] w fun e w' => e = .returned (.int .i64 65256) ∧ w' = w := by
  refine (crc16_any _ w (by decide)).mono ?_
  rintro e w' ⟨rfl, rfl⟩
  exact ⟨ret_int (congrArg Int.ofNat known16), rfl⟩

/-! ### THE WALK -/
set_option maxHeartbeats 400000 in
set_option maxRecDepth 20000 in
theorem walk (a0 : ByteArray) (w0 : a0.size ≤ maxLen) (w : World) :
    Calls Try.prog 3 #[.string a0] w fun e w' => e = .returned (.bool true) ∧ Grown w w' := by
  obtain ⟨c, hc⟩ : ∃ c : Nat, crc 8 7 a0.data.toList = c := ⟨_, rfl⟩
  obtain ⟨d, hd⟩ : ∃ d : Nat, crc 16 32773 a0.data.toList = d := ⟨_, rfl⟩
  have g8 : ∀ w, Calls Try.prog 12 #[.string a0] w fun e w' => e = .returned (.int .i64 (c : Nat)) ∧ w' = w := fun w => hc ▸ crc8_any a0 w w0
  have g16 : ∀ w, Calls Try.prog 13 #[.string a0] w fun e w' => e = .returned (.int .i64 (d : Nat)) ∧ w' = w := fun w => hd ▸ crc16_any a0 w w0
  have r8 : ∀ w, Calls Try.prog 14 #[.string a0] w fun e w' => e = .returned (.int .i64 (c : Nat)) ∧ w' = w := fun w => hc ▸ refcrc8_any a0 w w0
  have r16 : ∀ w, Calls Try.prog 15 #[.string a0] w fun e w' => e = .returned (.int .i64 (d : Nat)) ∧ w' = w := fun w => hd ▸ refcrc16_any a0 w w0
  clear hc hd
  go_enter Try.func3, Try.ntmps3
  go_wp2_with (first
    | (go_at_call 12; refine (first8 _).mono ?_; rintro e w' ⟨rfl, rfl⟩)
    | (go_at_call 13; refine (first16 _).mono ?_; rintro e w' ⟨rfl, rfl⟩)
    | (go_at_call 12; refine (g8 _).mono ?_; rintro e w' ⟨rfl, rfl⟩)
    | (go_at_call 13; refine (g16 _).mono ?_; rintro e w' ⟨rfl, rfl⟩)
    | (go_at_call 14; refine (r8 _).mono ?_; rintro e w' ⟨rfl, rfl⟩)
    | (go_at_call 15; refine (r16 _).mono ?_; rintro e w' ⟨rfl, rfl⟩))
  go_ret
  exact ⟨rfl, Grown.refl _⟩

/-! ### THE ROW's STEP: WRITTEN OUT: LEAVE IT -/
set_option maxRecDepth 100000 in
theorem lifted (os : Os) (started : os.Started) (H : Type) (enc : TypeId × Value → H) :
    ReturnsInHanded {} Try.checked os 3 .any (Rows.sumsSpec.pre6 enc Try.prog Try.f3 Rows.sumsRow.domain false) (Rows.sumsSpec.post enc Try.prog Try.f3 false true false false) := by
  refine returnsInHanded_of_change (C := Try.checked) own started (by kernel_rfl) Try.func3
    (ChangeSpec.witness6 (enc := enc) (C := Try.checked) false ⟨#[], #[.string ByteArray.empty], []⟩ 8 (by kernel_rfl) (by kernel_rfl) (by kernel_rfl) (by kernel_rfl)) ?_
  intro W base args ds gs before hval0 hW hcnd _
  have hval : ∀ (j : Nat) t v, Try.f3.params[j]? = some t → args[j]? = some v → Value.okWide Try.prog W .any base t v := hval0
  have hW' := hW
  obtain ⟨p, q, hA0, hV, rfl, hfz, hnd⟩ := hW
  have hA : DataW.TrodAll enc Try.prog W 0 (fun _ => true) true Try.f3.params.toList args.toList ds p := hA0
  rw [Try.params3] at hA hval
  obtain ⟨v0, vs0, d0, ds0, p0, q0, hargs, rfl, rfl, h0, r0⟩ := trodAll_cons hA
  obtain ⟨rfl, rfl, rfl⟩ := trodAll_nil r0
  obtain rfl : args = #[v0] := by cases args; simp_all
  obtain ⟨rfl, rfl⟩ := trodVars_none hV
  obtain ⟨a0, rfl, rfl, rfl, w0⟩ := open_string Try.underlying9 (hval 0 9 v0 rfl rfl) h0
  clear hA0 hval0
  simp only [List.append_nil] at hW'
  refine (walk a0 w0 W).mono fun e W' ⟨he, hg⟩ => ?_
  subst he
  exact ⟨_, rfl, post_of_same (pa := []) (pv := []) hW' (fun _ _ _ => (trodAll_cons_mk (shut_bool Try.underlying4 _) trodAll_mk0)) (fun sp _ => (trodAll_cons_mk (shut_string Try.underlying9 w0) trodAll_mk0)) (fun _ _ => rfl) rfl
    (hg.frame _) hg.2.1 (ok_one (by kernel_rfl) rfl (okWide_bool_mk Try.underlying4 _))⟩

theorem over : Rows.sumsRow.holds Try.pinned (OpenSpec.ofChange Rows.sumsSpec) :=
  OpenClaim.holds_of_wide 3 Try.f3 rfl rfl rfl rfl rfl rfl rfl ⟨rfl, rfl, rfl, rfl, rfl⟩ rfl rfl rfl rfl rfl (by kernel_rfl) Try.func3 (by kernel_rfl)
    (of_decide_eq_true (by kernel_rfl)) (by unfold Func.isWrapper; first | (rw [if_pos (by decide +kernel)]; kernel_rfl) | (rw [if_neg (by decide +kernel)]; exact ⟨rfl, rfl⟩))
    (fun os started H enc _ => lifted os started H enc)

/-- ████ THE STATEMENT ████ -/
theorem proved : Rows.SumsSaid :=
  over
end Go.Proofs.Ytncmgnmcggkhnaa.sums
namespace Go.Proofs.Ytncmgnmcggkhnaa
theorem sums_holds : Rows.SumsSaid := sums.proved
#print axioms sums_holds
end Go.Proofs.Ytncmgnmcggkhnaa
