import Derived.Test.YtncmgnmcggkhnaaRows
import Derived.Test.YtncmgnmcggkhnaaG53
import Derived.WalkKit
import Derived.ProofKit
import Derived.OpenShut
import Derived.ShutString
import Derived.JoinedCond
import Derived.Below
import Derived.Deep.SlicePairs
/-
  The proof of a statement (its second form); its frame is written after the shell of the guide.
-/
namespace Go.Proofs.Ytncmgnmcggkhnaa.reads
open Go.ChangeShapes Go.WideShapes Go.ChangeAt Go.RowKit
open Go.ChangeMaps (open_string shut_string)
set_option linter.unusedVariables false

theorem own : ownKnob Try.prog.godebug = none := by kernel_rfl
theorem laidOut : laidOutB Try.prog = true := by kernel_rfl

/-- so many steps at the most -/
theorem bulk_aggs {H A : Type} (f : A → List (DataW H)) : ∀ l : List A, l.length ≤ Rows.uptoBulkAll (l.map fun i => DataW.agg (f i))
  | [] => by simp
  | a :: l => by
    have := bulk_aggs f l
    simp only [List.map_cons, Rows.uptoBulkAll, Rows.uptoBulk, List.length_cons]
    omega

theorem addr_plain {w : World} {x : Addr} {v : Value} (h : w.cell? (x.add 0) = some v) : ∃ b off, x = ⟨b, off, none⟩ := by
  have e0 : x.add 0 = x := by unfold Addr.add; rw [if_pos rfl]
  rw [e0] at h
  have hsp : x.spot = none := World.cell?_spot h
  obtain ⟨b, off, sp⟩ := x
  have hsp' : sp = none := hsp
  subst hsp'
  exact ⟨b, off, rfl⟩

theorem add_plain (b off k : Nat) : (⟨b, off, none⟩ : Addr).add k = ⟨b, off + k, none⟩ := by
  unfold Addr.add
  split
  · rename_i e; rw [e, Nat.add_zero]
  · rfl

theorem walk (a0 a1 : ByteArray) (sa : Option Addr) (sn sc : Nat) (K V : Nat → Int) (w : World) (w0 : a0.size ≤ maxLen) (w1 : a1.size ≤ maxLen) (hsn : sn ≤ 1048576) (hs : ScriptIn w sa sn K V) :
    Calls Try.prog 6 #[.string a0, .string a1, .slice sa sn sc] w fun e w' => e = .returned (.bool true) ∧ Below w.heap.size w w' := by
  refine (reads_walk w a0 a1 w0 w1 sa sn sc (by omega) K V hs).mono ?_
  rintro e w' ⟨he, hg⟩
  exact ⟨he, ⟨hg.os, hg.tape, hg.output, hg.size, fun k hk => hg.block k hk (by simp)⟩⟩

set_option maxRecDepth 100000 in
theorem contract (H : Type) (enc : TypeId × Value → H) (W : World) (base : Nat) (args : Array Value) (ds gs : List (DataW H)) (before : List MemPlace)
    (hval : ∀ (j : Nat) t v, Try.f6.params[j]? = some t → args[j]? = some v → Value.okWide Try.prog W .any base t v)
    (hW : DataW.Whole enc Try.prog Try.f6.params.toList Rows.readsSpec.vars false W args.toList ds gs before) (hk : Rows.uptoSmall H (ds ++ gs) = true) :
    Calls Try.prog 6 args W fun e W' => ∃ v, e = .returned v ∧ Rows.readsSpec.post enc Try.prog Try.f6 false true false false W args v W' := by
  have hW' := hW
  obtain ⟨p, q, hA0, hV, rfl, hfz, hnd⟩ := hW
  have hA : DataW.TrodAll enc Try.prog W 0 (fun _ => true) true Try.f6.params.toList args.toList ds p := hA0
  rw [Try.params6] at hA hval
  obtain ⟨v0, vs0, d0, ds0, p0, q0, hargs, rfl, rfl, h0, r0⟩ := trodAll_cons hA
  obtain ⟨v1, vs1, d1, ds1, p1, q1, rfl, rfl, rfl, h1, r1⟩ := trodAll_cons r0
  obtain ⟨v2, vs2, d2, ds2, p2, q2, rfl, rfl, rfl, h2, r2⟩ := trodAll_cons r1
  obtain ⟨rfl, rfl, rfl⟩ := trodAll_nil r2
  obtain rfl : args = #[v0, v1, v2] := by cases args; simp_all
  obtain ⟨rfl, rfl⟩ := trodVars_none hV
  obtain ⟨a0, rfl, rfl, rfl, w0⟩ := open_string Try.underlying9 (hval 0 9 v0 rfl rfl) h0
  obtain ⟨a1, rfl, rfl, rfl, w1⟩ := open_string Try.underlying9 (hval 1 9 v1 rfl rfl) h1
  obtain ⟨a2, len2, cap2, rfl⟩ := okWide_slice Try.underlying45 (hval 2 45 v2 rfl rfl)
  have k2 := h2
  have lt2 : ∀ x ∈ p2, x.block < W.heap.size := by obtain ⟨m, hm⟩ := k2; exact DataW.trod_lt m _ _ _ hm
  have hb := of_decide_eq_true hk
  obtain ⟨K, V, hsn, hs⟩ : ∃ K V, len2 ≤ 1048576 ∧ ScriptIn W a2 len2 K V := by
    obtain ⟨fuel, hf⟩ := h2
    rcases Go.Deep.open_slice_pairs Try.underlying45 Try.underlying57 (by kernel_rfl) rfl rfl (by kernel_rfl) (by kernel_rfl) hf with ⟨hcs, _⟩ | ⟨a, len, cap, m, n, V0, V1, D0, D1, P0, P1, hcs, _, hl, hm, hmm, hx, hrow⟩
    · simp [Value.cells] at hcs
      obtain ⟨rfl, rfl, rfl⟩ := hcs
      exact ⟨fun _ => 0, fun _ => 0, by omega, fun i hi => by omega⟩
    · simp [Value.cells] at hcs
      obtain ⟨rfl, rfl, rfl⟩ := hcs
      have hd2 : d2 = _ := congrArg Prod.fst hx
      have hmc : m = cap2 := by rw [hmm]; simp
      have hlen : len2 ≤ 1048576 := by
        rw [hd2] at hb
        have h9 := bulk_aggs (fun i => [D0 i, D1 i]) (List.range len2)
        simp only [List.cons_append, List.nil_append, Rows.uptoBulkAll, Rows.uptoBulk, List.length_range] at hb h9
        omega
      have hint : ∀ i, ∃ k v : Int, i < m → V0 i = .int .i64 k ∧ V1 i = .int .i64 v ∧ (Lit.int .i64 v).wf = true := by
        intro i
        by_cases hi : i < m
        · obtain ⟨_, _, g0, g1⟩ := hrow i hi
          obtain ⟨k, hc0, _, _⟩ := DataW.trod_int Try.underlying3 g0
          obtain ⟨v, hc1, _, wv⟩ := DataW.trod_int Try.underlying3 g1
          exact ⟨k, v, fun _ => ⟨by simpa using hc0, by simpa using hc1, wv⟩⟩
        · exact ⟨0, 0, fun h => absurd h hi⟩
      refine ⟨fun i => Classical.choose (hint i), fun i => Classical.choose (Classical.choose_spec (hint i)), hlen, fun i hi => ?_⟩
      obtain ⟨e0, e1, wv⟩ := Classical.choose_spec (Classical.choose_spec (hint i)) (by omega)
      obtain ⟨c0, c1, _, _⟩ := hrow i (by omega)
      obtain ⟨b, off, rfl⟩ := addr_plain (by have := (hrow 0 (by omega)).1; rw [Nat.zero_mul] at this; exact this)
      rw [add_plain, e0] at c0
      rw [add_plain, e1] at c1
      exact ⟨b, off, rfl, c0, by rw [Nat.add_assoc]; exact c1, bounds_i64 wv⟩
  clear hA0
  refine (walk a0 a1 a2 len2 cap2 K V W w0 w1 hsn hs).mono fun e W' ⟨he, bel⟩ => ?_
  subst he
  exact ⟨_, rfl, _, _, _, [], _, [], hW', trodAll_mk1 (shut_bool Try.underlying4 _), (trodAll_cons_mk (shut_string Try.underlying9 w0) (trodAll_cons_mk (shut_string Try.underlying9 w1) (trodAll_cons_mk (Below.trod laidOut (by kernel_rfl) (of_decide_eq_true (by kernel_rfl)) k2 bel lt2) trodAll_mk0))), rfl, bel.frame _, fun h => by cases h⟩

/-! ### THE ROW's STEP -/
set_option maxRecDepth 100000 in
theorem lifted (os : Os) (started : os.Started) (H : Type) (enc : TypeId × Value → H) (F : Stop.Interp) :
    ReturnsInHanded {} Try.checked os 6 .any ((Rows.OpenSpec.upto Rows.readsSpec).pre6 enc Try.prog Try.f6 Rows.readsUptoRow.domain false) (((Rows.OpenSpec.upto Rows.readsSpec).at F).post enc Try.prog Try.f6 false true false false) := by
  refine returnsInHanded_of_cond (C := Try.checked) (s := Rows.OpenSpec.upto Rows.readsSpec) (k := Rows.uptoSmall) rfl own started (by kernel_rfl) Try.func6
    (OpenSpec.witness (enc := enc) (C := Try.checked) (s := Rows.OpenSpec.upto Rows.readsSpec) (k := Rows.uptoSmall) rfl false ⟨#[], #[.string ByteArray.empty, .string ByteArray.empty, .slice none 0 0], []⟩ 8 (by kernel_rfl) (by kernel_rfl) (by kernel_rfl)
      (x := ([.lit (.string []), .lit (.string []), .nil], [], [])) (by kernel_rfl) rfl (by kernel_rfl)) ?_
  intro W base args ds gs before hval hW _ hk _
  exact contract H enc W base args ds gs before hval hW hk

theorem over : Rows.readsUptoRow.holds Try.pinned (Rows.OpenSpec.upto Rows.readsSpec) :=
  OpenClaim.holds_of_cond 6 Try.f6 rfl rfl rfl rfl rfl rfl rfl ⟨rfl, rfl, rfl, rfl, rfl⟩ rfl rfl rfl rfl rfl (by kernel_rfl) Try.func6 (by kernel_rfl)
    (of_decide_eq_true (by kernel_rfl)) (by unfold Func.isWrapper; first | (rw [if_pos (by decide +kernel)]; kernel_rfl) | (rw [if_neg (by decide +kernel)]; exact ⟨rfl, rfl⟩))
    (fun os started H enc _ F => lifted os started H enc F)

/-- ████ THE STATEMENT ████ -/
theorem proved : Rows.ReadsUptoSaid := over
end Go.Proofs.Ytncmgnmcggkhnaa.reads
namespace Go.Proofs.Ytncmgnmcggkhnaa
theorem reads_upto_holds : Rows.ReadsUptoSaid := reads.proved
#print axioms reads_upto_holds
end Go.Proofs.Ytncmgnmcggkhnaa
