import Derived.Test.YtncmgnmcggkhnaaRows
import Derived.Test.YtncmgnmcggkhnaaG45
import Derived.WalkKit
import Derived.ProofKit
import Derived.OpenShut
import Derived.ShutString
import Derived.SizedLaws
import Derived.Below
import Derived.Deep.Matrix
import Derived.Lib.SmallJoins
/-
  The proof of a statement; its frame is written after the shell of the guide.
-/
namespace Go.Proofs.Ytncmgnmcggkhnaa.encodes
open Go.ChangeShapes Go.WideShapes Go.ChangeAt Go.RowKit
open Go.ChangeMaps (open_string shut_string)
set_option linter.unusedVariables false

theorem own : ownKnob Try.prog.godebug = none := by kernel_rfl
theorem laidOut : laidOutB Try.prog = true := by kernel_rfl

/-- rows that came in, as lists -/
def rowsOf (len : Nat) (L : Nat → Nat) (Z : Nat → List Int) : List (List Int) := (List.range len).map fun r => (Z r).take (L r)

theorem rowsOf_get (len : Nat) (L : Nat → Nat) (Z : Nat → List Int) (k : Nat) (hk : k < len) : (rowsOf len L Z).getD k [] = (Z k).take (L k) := by
  simp [rowsOf, List.getD, hk]

theorem rowsOf_length (len : Nat) (L : Nat → Nat) (Z : Nat → List Int) : (rowsOf len L Z).length = len := by simp [rowsOf]

theorem addr_plain {w : World} {x : Addr} {v : Value} (h : w.cell? (x.add 0) = some v) : ∃ b off, x = ⟨b, off, none⟩ := by
  have e0 : x.add 0 = x := by unfold Addr.add; rw [if_pos rfl]
  rw [e0] at h
  have hsp : x.spot = none := World.cell?_spot h
  obtain ⟨b, off, sp⟩ := x
  have hsp' : sp = none := hsp
  subst hsp'
  exact ⟨b, off, rfl⟩

theorem add_plain (b off k : Nat) : (⟨b, off, none⟩ : Addr).add k = ⟨b, off + k, none⟩ := by
  unfold Addr.add
  split
  · rename_i e; rw [e, Nat.add_zero]
  · rfl

theorem rinc_of {w : World} {base : Nat} {A : Option Addr} {L C : Nat} {Z : List Int} (h1 : L ≤ C) (h2 : Z.length = C) (h3 : A = none → C = 0)
    (h4 : ∀ a', A = some a' → base ≤ a'.block ∧ ∀ c, c < C → w.cell? (a'.add c) = some (.int .i64 (Z.getD c 0))) : RinC w (.slice A L C) (Z.take L) := by
  have hl : (Z.take L).length = L := by rw [List.length_take]; omega
  refine ⟨A, C, by rw [hl], by omega, fun k hk => ?_⟩
  rw [hl] at hk
  cases A with
  | none => have := h3 rfl; omega
  | some x =>
    have hc := (h4 x rfl).2
    obtain ⟨b, off, rfl⟩ := addr_plain (hc 0 (by omega))
    refine ⟨b, off, rfl, ?_⟩
    have := hc k (by omega)
    rw [add_plain] at this
    rw [this]
    simp [List.getD, hk]

theorem weights_mem_all {H : Type} {P : Program} {e : TypeId} : ∀ {ds : List (DataW H)} {d : DataW H}, d ∈ ds → ∀ n ∈ d.weights P e, n ∈ DataW.weightsAll P e ds
  | d0 :: ds, d, hd, n, hn => by
    simp only [DataW.weightsAll, List.mem_append]
    rcases List.mem_cons.1 hd with rfl | h
    · exact .inl hn
    · exact .inr (weights_mem_all h n hn)
  | [], _, hd, _, _ => by cases hd

/-- a struct with a list of lists, what it weighs -/
theorem sized_rows {H : Type} {P : Program} {d0 d1 : DataW H} {t e : TypeId} {elems spare : List (DataW H)} {k : TypeId} (hs : (DataW.weightsEach P [k, k, t] [d0, d1, .slice elems spare]).all (· ≤ reachBytes) = true)
    (hu : P.underlying t = some (.slice e)) : ∀ d ∈ elems, ∀ n ∈ d.weights P e, n ≤ reachBytes := by
  intro d hd n hn
  have hm := DataW.weights_mem_each (P := P) (ts := [k, k, t]) (ds := [d0, d1, .slice elems spare]) (j := 2) (t := t) (d := .slice elems spare) rfl rfl n (by
    simp only [DataW.weights, hu, List.mem_cons, List.mem_append]
    exact .inr (.inl (weights_mem_all hd n hn)))
  simpa using List.all_eq_true.1 hs n hm

theorem walk (v2 : Value) (rate bits a1 : Int) (chs : List (List Int)) (w : World) (hs : RSnd w v2 chs) (hcl : chs.length + 8 ≤ 11728124029610) (hlen : ∀ c ∈ chs, c.length ≤ 17592186044416) (w1 : (Lit.int .i64 a1).wf = true) :
    Calls Try.prog 5 #[.agg #[.int .i64 rate, .int .i64 bits, v2], .int .i64 a1] w fun e w' => e = .returned (.bool true) ∧ Below w.heap.size w w' := by
  refine (encodes_walk w v2 rate bits a1 chs hs hcl hlen (bounds_i64 w1)).mono ?_
  rintro e w' ⟨he, hg⟩
  exact ⟨he, ⟨hg.os, hg.tape, hg.output, hg.size, fun k hk => hg.block k hk (by simp)⟩⟩

/-! ### THE ROW's STEP: WRITTEN OUT: LEAVE IT -/
set_option maxRecDepth 100000 in
theorem lifted (os : Os) (started : os.Started) (H : Type) (enc : TypeId × Value → H) :
    ReturnsInHanded {} Try.checked os 5 .any (Rows.encodesSpec.pre6 enc Try.prog Try.f5 Rows.encodesRow.domain false) (Rows.encodesSpec.post enc Try.prog Try.f5 false true false false) := by
  refine returnsInHanded_of_change_sized (C := Try.checked) own started (by kernel_rfl) Try.func5
    (ChangeSpec.witness6 (enc := enc) (C := Try.checked) false ⟨#[], #[.agg #[.int .i64 0, .int .i64 0, .slice none 0 0], .int .i64 0], []⟩ 8 (by kernel_rfl) (by kernel_rfl) (by kernel_rfl) (by kernel_rfl)) ?_
  intro W base args ds gs before hval0 hW hcnd hsz0 _
  have hval : ∀ (j : Nat) t v, Try.f5.params[j]? = some t → args[j]? = some v → Value.okWide Try.prog W .any base t v := hval0
  have hW' := hW
  obtain ⟨p, q, hA0, hV, rfl, hfz, hnd⟩ := hW
  have hA : DataW.TrodAll enc Try.prog W 0 (fun _ => true) true Try.f5.params.toList args.toList ds p := hA0
  have hsz : (DataW.weightsEach Try.prog (Try.f5.params.toList ++ Rows.encodesSpec.plain.varTypes Try.prog) (ds ++ gs)).all (· ≤ reachBytes) = true := hsz0
  rw [Try.params5] at hA hval hsz
  obtain ⟨v0, vs0, d0, ds0, p0, q0, hargs, rfl, rfl, h0, r0⟩ := trodAll_cons hA
  obtain ⟨v1, vs1, d1, ds1, p1, q1, rfl, rfl, rfl, h1, r1⟩ := trodAll_cons r0
  obtain ⟨rfl, rfl, rfl⟩ := trodAll_nil r1
  obtain rfl : args = #[v0, v1] := by cases args; simp_all
  obtain ⟨rfl, rfl⟩ := trodVars_none hV
  have k0 := h0
  have lt0 : ∀ x ∈ p0, x.block < W.heap.size := by obtain ⟨m, hm⟩ := k0; exact DataW.trod_lt m _ _ _ hm
  obtain ⟨a1, rfl, rfl, rfl, w1⟩ := open_int Try.underlying3 (hval 1 3 v1 rfl rfl) h1
  obtain ⟨x0, x1, x2, y0, y1, y2, n, rfl, rfl, rfl, g0, g1, g2⟩ := Go.Joins.open_agg3 Try.underlying26 (by kernel_rfl) (by kernel_rfl) (hval 0 26 v0 rfl rfl) h0
  obtain ⟨rate, hc0, hy0, wr0⟩ := DataW.trod_int Try.underlying3 g0
  obtain ⟨bits, hc1, hy1, wr1⟩ := DataW.trod_int Try.underlying3 g1
  obtain rfl : x0 = .int .i64 rate := by simpa using hc0
  obtain rfl : x1 = .int .i64 bits := by simpa using hc1
  have hin : (DataW.weightsEach Try.prog [3, 3, 24] [y0.1, y1.1, y2.1]).all (· ≤ reachBytes) = true := by
    refine List.all_eq_true.2 (fun m hm => List.all_eq_true.1 hsz m ?_)
    refine DataW.weights_mem_each (j := 0) (t := 26) (d := .agg [y0.1, y1.1, y2.1]) rfl rfl m ?_
    simp only [DataW.weights, Try.underlying26]
    exact hm
  obtain ⟨chs, hrs, hcl, hlen⟩ : ∃ chs, RSnd W x2 chs ∧ chs.length + 8 ≤ 11728124029610 ∧ ∀ c ∈ chs, c.length ≤ 17592186044416 := by
    rcases Go.Deep.open_int_rows Try.underlying24 Try.underlying30 Try.underlying3 (by kernel_rfl) (by kernel_rfl) g2 with ⟨hcs, _⟩ | ⟨a, len, cap, A, L, C, Z, hcs, _, hl, hm, hx, hrow⟩
    · obtain rfl : x2 = .slice none 0 0 := by simpa using hcs
      exact ⟨[], ⟨none, 0, rfl, fun k hk => by simp at hk⟩, by simp, fun c hc => by cases hc⟩
    · obtain rfl : x2 = .slice (some a) len cap := by simpa using hcs
      rw [hx] at hin
      have hb24 : Try.prog.bytesOf 30 = 24 := by kernel_rfl
      have hb8 : Try.prog.bytesOf 3 = 8 := by kernel_rfl
      have hn := sized_slice hin (j := 2) (t := 24) rfl rfl Try.underlying24
      rw [hb24] at hn
      simp only [List.length_map, List.length_range, reachBytes] at hn
      have he := sized_rows hin Try.underlying24
      refine ⟨rowsOf len L Z, ⟨some a, cap, by rw [rowsOf_length], fun k hk => ?_⟩, by rw [rowsOf_length]; omega, fun c hc => ?_⟩
      · rw [rowsOf_length] at hk
        obtain ⟨q0, q1, q2, q3, q4, q5, q6⟩ := hrow k (by omega)
        obtain ⟨b, off, rfl⟩ := addr_plain (hrow 0 (by omega)).1
        rw [add_plain] at q0
        refine ⟨b, off, .slice (A k) (L k) (C k), rfl, q0, ?_⟩
        rw [rowsOf_get _ _ _ _ hk]
        exact rinc_of q1 q3 q5 q6
      · obtain ⟨r, hr, rfl⟩ := List.mem_map.1 hc
        have hr' := List.mem_range.1 hr
        obtain ⟨q0, q1, q2, q3, q4, q5, q6⟩ := hrow r (by omega)
        have hmem : (Go.Deep.intRow .i64 (A r) (L r) (Z r) : DataW H) ∈ (List.range len).map (fun r => Go.Deep.intRow .i64 (A r) (L r) (Z r)) := List.mem_map.2 ⟨r, hr, rfl⟩
        have hw := he _ hmem
        cases hA' : A r with
        | none => have := q5 hA'; rw [List.length_take]; omega
        | some a' =>
          have h9 := hw (((Z r).take (L r)).length * 8 + ((Z r).drop (L r)).length * 8) (by
            rw [hA']
            simp only [Go.Deep.intRow, DataW.weights, Try.underlying30, hb8, lits, List.length_map, List.mem_cons]
            exact .inl (by omega))
          simp only [reachBytes] at h9
          omega
  clear hA0 hval0
  simp only [List.append_nil] at hW'
  refine (walk x2 rate bits a1 chs W hrs hcl hlen w1).mono fun e W' ⟨he, bel⟩ => ?_
  subst he
  exact ⟨_, rfl, _, _, _, [], _, [], hW', trodAll_mk1 (shut_bool Try.underlying4 _), (trodAll_cons_mk (Below.trod laidOut (by kernel_rfl) (of_decide_eq_true (by kernel_rfl)) k0 bel lt0) (trodAll_cons_mk (shut_int Try.underlying3 w1) trodAll_mk0)), rfl, bel.frame _, fun h => by cases h⟩

theorem over : Rows.encodesRow.holds Try.pinned (OpenSpec.ofChange Rows.encodesSpec) :=
  OpenClaim.holds_of_wide 5 Try.f5 rfl rfl rfl rfl rfl rfl rfl ⟨rfl, rfl, rfl, rfl, rfl⟩ rfl rfl rfl rfl rfl (by kernel_rfl) Try.func5 (by kernel_rfl)
    (of_decide_eq_true (by kernel_rfl)) (by unfold Func.isWrapper; first | (rw [if_pos (by decide +kernel)]; kernel_rfl) | (rw [if_neg (by decide +kernel)]; exact ⟨rfl, rfl⟩))
    (fun os started H enc _ => lifted os started H enc)

/-- ████ THE STATEMENT ████ -/
theorem proved : Rows.EncodesSaid := over
end Go.Proofs.Ytncmgnmcggkhnaa.encodes
namespace Go.Proofs.Ytncmgnmcggkhnaa
theorem encodes_holds : Rows.EncodesSaid := encodes.proved
#print axioms encodes_holds
end Go.Proofs.Ytncmgnmcggkhnaa
