import Derived.Test.YtncmgnmcggkhnaaBackProofJ0
import Derived.Test.YtncmgnmcggkhnaaBackProofJ1
import Derived.Test.YtncmgnmcggkhnaaBackProofJ2
import Derived.Test.YtncmgnmcggkhnaaBackProofJ3
import Derived.Test.YtncmgnmcggkhnaaBackProofJ4
import Derived.Test.YtncmgnmcggkhnaaBackProofJ5
import Derived.Test.YtncmgnmcggkhnaaBackProofJ6
import Derived.Test.YtncmgnmcggkhnaaBackProofJ7
import Derived.Test.YtncmgnmcggkhnaaBackProofJ8
import Derived.Test.YtncmgnmcggkhnaaBackProofJ9
import Derived.Test.YtncmgnmcggkhnaaBackProofJ10
import Derived.Test.YtncmgnmcggkhnaaBackProofJ11
import Derived.Test.YtncmgnmcggkhnaaBackProofJ12
import Derived.Test.YtncmgnmcggkhnaaBackProofJ13
import Derived.Test.YtncmgnmcggkhnaaBackProofJ14
import Derived.Test.YtncmgnmcggkhnaaBackProofJ15
import Derived.Test.YtncmgnmcggkhnaaBackProofJ16
import Derived.Test.YtncmgnmcggkhnaaBackProofJ17
import Derived.Test.YtncmgnmcggkhnaaBackProofJ18
import Derived.Test.YtncmgnmcggkhnaaBackProofJ19
import Derived.Test.YtncmgnmcggkhnaaBackProofJ20
import Derived.Test.YtncmgnmcggkhnaaBackProofJ21
import Derived.Test.YtncmgnmcggkhnaaBackProofJ22
import Derived.Test.YtncmgnmcggkhnaaBackProofJ23
import Derived.Test.YtncmgnmcggkhnaaBackProofJ24
import Derived.Test.YtncmgnmcggkhnaaBackProofJ25
import Derived.Test.YtncmgnmcggkhnaaBackProofJ26
import Derived.Test.YtncmgnmcggkhnaaBackProofJ27
import Derived.Test.YtncmgnmcggkhnaaBackProofJ28
import Derived.Test.YtncmgnmcggkhnaaBackProofJ29
import Derived.Test.YtncmgnmcggkhnaaBackProofJ30
import Derived.Test.YtncmgnmcggkhnaaBackProofJ31
import Derived.Test.YtncmgnmcggkhnaaBackProofJ32
import Derived.Test.YtncmgnmcggkhnaaBackProofJ33
import Derived.Test.YtncmgnmcggkhnaaBackProofJ34
import Derived.Test.YtncmgnmcggkhnaaBackProofJ35
import Derived.Lib.BufferWrite
import Derived.Laws.MakeOwn
import Derived.Deep.RegionLaw
import Derived.Deep.AppendLies
import Derived.Carry
import Derived.Maps.OwnSet
import Derived.Deep.DeepCutAuto
import Derived.Deep.CutBlock
import Derived.Deep.Upon
import Derived.BigQuiet
import Derived.Deep.RegionHeld
/-
  What a field is does not hang on what stands behind it.
-/
namespace Go.Proofs.Ytncmgnmcggkhnaa

def Loc {α : Type} (p : P α) : Prop := ∀ l x r, p l = some (x, r) → ∃ pre, l = pre ++ r ∧ ∀ r', p (pre ++ r') = some (x, r')

theorem Loc.fail {α : Type} : Loc (fun _ => none : P α) := fun l x r h => by cases h

theorem Loc.pure {α : Type} (y : α) : Loc (fun l => some (y, l) : P α) := fun l x r h => by
  injection h with h
  injection h with h1 h2
  subst h1 h2
  exact ⟨[], rfl, fun r' => rfl⟩

theorem Loc.bind {α β : Type} {p : P α} {F : α × List Bool → Option (β × List Bool)} (hp : Loc p) (hq : ∀ x, Loc (fun r => F (x, r) : P β)) : Loc (fun l => (p l).bind F : P β) := fun l x r h => by
  cases hl : p l with
  | none => simp only [hl] at h; cases h
  | some a =>
    obtain ⟨y, m⟩ := a
    simp only [hl] at h
    have h' : F (y, m) = some (x, r) := h
    obtain ⟨pre, e1, k1⟩ := hp l y m hl
    obtain ⟨pre2, e2, k2⟩ := hq y m x r h'
    refine ⟨pre ++ pre2, by rw [List.append_assoc, ← e2, ← e1], fun r' => ?_⟩
    show (p (pre ++ pre2 ++ r')).bind _ = _
    rw [List.append_assoc, k1]
    exact k2 r'

theorem Loc.map {α β : Type} {p : P α} {F : α × List Bool → β × List Bool} (f : α → β) (hf : ∀ x r, F (x, r) = (f x, r)) (hp : Loc p) : Loc (fun l => (p l).map F : P β) := fun l x r h => by
  cases hl : p l with
  | none => simp only [hl] at h; cases h
  | some a =>
    obtain ⟨y, m⟩ := a
    simp only [hl] at h
    injection h with h
    rw [hf] at h
    injection h with h1 h2
    subst h1 h2
    obtain ⟨pre, e1, k1⟩ := hp l y m hl
    exact ⟨pre, e1, fun r' => by show (p (pre ++ r')).map _ = _; rw [k1]; show some (F _) = _; rw [hf]⟩

theorem Loc.ite {α : Type} {c : Prop} [Decidable c] {p q : P α} (hp : Loc p) (hq : Loc q) : Loc (fun l => if c then p l else q l : P α) := fun l x r h => by
  by_cases hc : c
  · simp only [if_pos hc] at h ⊢
    exact hp l x r h
  · simp only [if_neg hc] at h ⊢
    exact hq l x r h

theorem loc_num (n : Nat) : Loc (pNum n) := fun l x r h => by
  unfold pNum at h
  split at h
  · rename_i hn
    injection h with h
    injection h with h1 h2
    subst h1 h2
    refine ⟨l.take n, by rw [List.take_append_drop], fun r' => ?_⟩
    have hl : (l.take n).length = n := by rw [List.length_take]; omega
    unfold pNum
    rw [if_pos (by rw [List.length_append]; omega), List.take_append_of_le_length (by omega), List.take_of_length_le (by omega), List.drop_append_of_le_length (by omega), List.drop_of_length_le (by omega)]
    rfl
  · cases h

theorem loc_signed (n : Nat) : Loc (pSigned n) := Loc.map (sign n) (fun _ _ => rfl) (loc_num n)

theorem loc_must (n v : Nat) : Loc (pMust n v) := by
  unfold pMust
  apply Loc.bind (loc_num n)
  intro x
  apply Loc.ite
  · exact Loc.pure ()
  · exact Loc.fail

theorem loc_noughts : Loc pNoughts := by
  intro l
  induction l with
  | nil => intro x r h; cases h
  | cons b l ih =>
    intro x r h
    cases b with
    | true =>
      injection h with h
      injection h with h1 h2
      subst h1 h2
      exact ⟨[true], rfl, fun r' => rfl⟩
    | false =>
      have h' : (pNoughts l).map (fun (q, r) => (q + 1, r)) = some (x, r) := h
      cases hl : pNoughts l with
      | none => rw [hl] at h'; cases h'
      | some a =>
        obtain ⟨y, m⟩ := a
        rw [hl] at h'
        injection h' with h'
        injection h' with h1 h2
        subst h1 h2
        obtain ⟨pre, e1, k1⟩ := ih y m hl
        exact ⟨false :: pre, by rw [e1]; rfl, fun r' => by show (pNoughts (pre ++ r')).map _ = _; rw [k1]; rfl⟩

theorem loc_list {f : P Int} (hf : Loc f) : ∀ n, Loc (pList f n)
  | 0 => Loc.pure []
  | n + 1 => Loc.bind hf fun x => Loc.map (fun xs => x :: xs) (fun _ _ => rfl) (loc_list hf n)

theorem loc_rice (k : Nat) : Loc (pRice k) := by
  unfold pRice
  apply Loc.bind loc_noughts
  intro q
  apply Loc.bind (loc_num k)
  intro v
  apply Loc.ite
  · exact Loc.pure _
  · exact Loc.fail

theorem loc_part (method many : Nat) : Loc (pPart method many) := by
  unfold pPart
  apply Loc.bind (loc_num _)
  intro k
  apply Loc.ite
  · apply Loc.bind (loc_num 5)
    intro m
    exact loc_list (loc_signed m) many
  · exact loc_list (loc_rice k) many

theorem loc_parts (method many : Nat) : ∀ (c less : Nat), Loc (pParts method many less c)
  | 0, _ => Loc.pure []
  | c + 1, _ => Loc.bind (loc_part _ _) fun xs => Loc.map (fun ys => xs ++ ys) (fun _ _ => rfl) (loc_parts method many c 0)

theorem loc_residue (n order : Nat) : Loc (pResidue n order) := by
  unfold pResidue
  apply Loc.bind (loc_num 2)
  intro method
  apply Loc.bind (loc_num 4)
  intro p
  apply Loc.ite
  · exact loc_parts _ _ _ _
  · exact Loc.fail

theorem Loc.some {α β : Type} {p : P α} {F : α × List Bool → Option (β × List Bool)} (f : α → Option β) (hF : ∀ x r, F (x, r) = (f x).map fun y => (y, r)) (hp : Loc p) : Loc (fun l => (p l).bind F : P β) := fun l x r h => by
  cases hl : p l with
  | none => simp only [hl] at h; cases h
  | some a =>
    obtain ⟨y, m⟩ := a
    simp only [hl] at h
    have h' : (f y).map (fun z => (z, m)) = Option.some (x, r) := by rw [← hF]; exact h
    cases hf : f y with
    | none => rw [hf] at h'; cases h'
    | some z =>
      rw [hf] at h'
      injection h' with h'
      injection h' with h1 h2
      subst h1 h2
      obtain ⟨pre, e1, k1⟩ := hp l y m hl
      refine ⟨pre, e1, fun r' => ?_⟩
      show (p (pre ++ r')).bind _ = _
      rw [k1]
      show F (y, r') = _
      rw [hF, hf]
      rfl

theorem loc_foretold (n wide : Nat) (first factors : List Int) (shift : Nat) : Loc (pForetold n wide first factors shift) :=
  Loc.some (fun res => predict wide factors shift first.reverse res) (fun _ _ => rfl) (loc_residue _ _)

theorem loc_fixed (n wide order : Nat) : Loc (pFixed n wide order) := by
  unfold pFixed
  apply Loc.ite
  · apply Loc.bind (loc_list (loc_signed wide) order)
    intro first
    exact loc_foretold _ _ _ _ _
  · exact Loc.fail

theorem loc_linear (n wide order : Nat) : Loc (pLinear n wide order) := by
  unfold pLinear
  apply Loc.ite
  · apply Loc.bind (loc_list (loc_signed wide) order)
    intro first
    apply Loc.bind (loc_num 4)
    intro fb
    apply Loc.bind (loc_signed 5)
    intro shift
    apply Loc.ite
    · exact Loc.fail
    · apply Loc.bind (loc_list (loc_signed (fb + 1)) order)
      intro factors
      exact loc_foretold _ _ _ _ _
  · exact Loc.fail

theorem loc_kind (kind n wide : Nat) : Loc (pKind kind n wide) := by
  unfold pKind
  refine Loc.ite (Loc.map (fun x => List.replicate n x) (fun _ _ => rfl) (loc_signed wide)) ?_
  refine Loc.ite (loc_list (loc_signed wide) n) ?_
  refine Loc.ite (loc_fixed _ _ _) ?_
  exact Loc.ite (loc_linear _ _ _) Loc.fail

theorem loc_less : Loc pLess := by
  unfold pLess
  apply Loc.bind (loc_num 1)
  intro c
  apply Loc.ite
  · apply Loc.map (fun q => q + 1) _ loc_noughts
    intro x r
    rfl
  · exact Loc.pure 0

theorem loc_subframe (n wide : Nat) : Loc (pSubframe n wide) := by
  unfold pSubframe
  apply Loc.bind (loc_must 1 0)
  intro _
  apply Loc.bind (loc_num 6)
  intro kind
  apply Loc.bind loc_less
  intro less
  apply Loc.ite
  · apply Loc.map (fun xs => xs.map (· * 2 ^ less)) _ (loc_kind _ _ _)
    intro x r
    rfl
  · exact Loc.fail

theorem loc_channels (n bits mode : Nat) : ∀ (c i : Nat), Loc (pChannels n bits mode c i)
  | 0, _ => Loc.pure []
  | c + 1, i => Loc.bind (loc_subframe _ _) fun x => Loc.map (fun xs => x :: xs) (fun _ _ => rfl) (loc_channels n bits mode c (i + 1))

theorem loc_head (h : Head) (number : Nat) (bytes : List UInt8) : Loc (pHead h number bytes) := by
  unfold pHead
  apply Loc.bind (loc_must _ _)
  intro _
  apply Loc.bind (loc_must _ _)
  intro _
  apply Loc.bind (loc_num _)
  intro mode
  apply Loc.bind (loc_must _ _)
  intro _
  apply Loc.bind (loc_must _ _)
  intro _
  apply Loc.bind (loc_num _)
  intro n1
  apply Loc.bind (loc_must _ _)
  intro _
  apply Loc.ite
  · exact Loc.pure _
  · exact Loc.fail

theorem loc_info : Loc pInfo := by
  unfold pInfo
  apply Loc.bind (loc_num _)
  intro block
  apply Loc.bind (loc_must _ _)
  intro _
  apply Loc.bind (loc_num _)
  intro _
  apply Loc.bind (loc_num _)
  intro rate
  apply Loc.bind (loc_num _)
  intro ch
  apply Loc.bind (loc_num _)
  intro bt
  apply Loc.bind (loc_num _)
  intro total
  apply Loc.bind (loc_num _)
  intro _
  apply Loc.ite
  · exact Loc.pure _
  · exact Loc.fail

theorem loc_block : Loc pBlock := by
  unfold pBlock
  apply Loc.bind (loc_num _)
  intro last
  apply Loc.bind (loc_num _)
  intro kind
  apply Loc.bind (loc_num _)
  intro size
  exact Loc.pure _
end Go.Proofs.Ytncmgnmcggkhnaa

namespace Go.Proofs.Ytncmgnmcggkhnaa
open Go.RowKit

theorem pHead_bytes (h : Head) (number : Nat) (b1 b2 : List UInt8) (e : b1.take 7 = b2.take 7) : pHead h number b1 = pHead h number b2 := by
  unfold pHead
  rw [e]

theorem must_fits {n v : Nat} {l r : List Bool} {u : Unit} (e : pMust n v l = some (u, r)) : r = l.drop n ∧ n ≤ l.length := by
  unfold pMust pNum at e
  split at e
  · rename_i hn
    simp only [Option.bind_some] at e
    split at e
    · injection e with e
      injection e with _ e
      exact ⟨e.symm, hn⟩
    · cases e
  · simp at e

/-- what a frame is does not hang on what stands behind it -/
theorem pFrame_local {h : Head} {number : Nat} {bytes rest : List UInt8} {chs : List (List Int)} (e : pFrame h number bytes = some (chs, rest)) :
    ∃ part, bytes = part ++ rest ∧ part ≠ [] ∧ ∀ rest', pFrame h number (part ++ rest') = some (chs, rest') := by
  have e0 := e
  unfold pFrame at e
  obtain ⟨⟨⟨mode, n⟩, r⟩, e1, e⟩ := Option.bind_eq_some_iff.mp e
  obtain ⟨⟨subs, r1⟩, e2, e⟩ := Option.bind_eq_some_iff.mp e
  obtain ⟨⟨u, r2⟩, e3, e⟩ := Option.bind_eq_some_iff.mp e
  obtain ⟨⟨u', r3⟩, e4, e⟩ := Option.bind_eq_some_iff.mp e
  simp only at e1 e2 e3 e4 e
  have hh := pHead_left e1
  split at e
  rotate_left
  · cases e
  rename_i hall
  injection e with e
  injection e with ec er
  obtain ⟨q0, a0, k0⟩ := loc_head h number bytes _ _ _ e1
  obtain ⟨q1, a1, k1⟩ := loc_channels n h.bits mode h.channels 0 _ _ _ e2
  obtain ⟨q2, a2, k2⟩ := loc_must _ _ _ _ _ e3
  obtain ⟨q3, a3, k3⟩ := loc_must _ _ _ _ _ e4
  obtain ⟨m2, n2⟩ := must_fits e3
  obtain ⟨m3, n3⟩ := must_fits e4
  have hB := bitsOf_length bytes
  have l2 : r2.length = r1.length - r1.length % 8 := by rw [m2, List.length_drop]
  have l3 : r3.length = r2.length - 16 := by rw [m3, List.length_drop]
  have lr : r.length ≤ (bitsOf bytes).length := by rw [a0, List.length_append]; omega
  have l1 : r1.length ≤ r.length := by rw [a1, List.length_append]; omega
  obtain ⟨t, ht⟩ : ∃ t, r3.length = 8 * t := ⟨r3.length / 8, by omega⟩
  have htb : t + 10 ≤ bytes.length := by omega
  have hr3 : r3.length / 8 = t := by omega
  have hr2 : r2.length / 8 = t + 2 := by omega
  rw [hr3] at er
  obtain ⟨k, hk⟩ : ∃ k, bytes.length - t = k := ⟨_, rfl⟩
  rw [hk] at er
  have hkl : k ≤ bytes.length := by omega
  have hcons : bitsOf (bytes.take k) = q0 ++ (q1 ++ (q2 ++ q3)) := by
    have hall2 : bitsOf (bytes.take k) ++ bitsOf (bytes.drop k) = (q0 ++ (q1 ++ (q2 ++ q3))) ++ r3 := by
      rw [← bitsOf_append, List.take_append_drop, a0, a1, a2, a3]
      simp only [List.append_assoc]
    have hlen : (bitsOf (bytes.take k)).length = (q0 ++ (q1 ++ (q2 ++ q3))).length := by
      have := congrArg List.length hall2
      rw [List.length_append, List.length_append, bitsOf_length, bitsOf_length, List.length_take, List.length_drop, ht] at this
      rw [bitsOf_length, List.length_take]
      omega
    exact (List.append_inj hall2 hlen).1
  refine ⟨bytes.take k, by rw [← er, List.take_append_drop], ?_, fun rest' => ?_⟩
  · intro e9
    have := congrArg List.length e9
    rw [List.length_take, List.length_nil] at this
    omega
  · have hpl : (bytes.take k).length = k := by rw [List.length_take]; omega
    have hbits : bitsOf (bytes.take k ++ rest') = q0 ++ (q1 ++ (q2 ++ (q3 ++ bitsOf rest'))) := by
      rw [bitsOf_append, hcons]
      simp only [List.append_assoc]
    unfold pFrame
    have e7 : (bytes.take k ++ rest').take 7 = bytes.take 7 := by
      rw [List.take_append_of_le_length (by omega), List.take_take, Nat.min_eq_left (by omega)]
    rw [pHead_bytes h number _ bytes e7, hbits, k0]
    simp only [Option.bind_some]
    rw [k1]
    simp only [Option.bind_some]
    have hB' := bitsOf_length rest'
    have hq : (q2 ++ (q3 ++ bitsOf rest')).length % 8 = r1.length % 8 := by
      rw [List.length_append, List.length_append, hB', a2, a3, List.length_append, List.length_append, ht]
      omega
    rw [hq, k2]
    simp only [Option.bind_some]
    have hq3 : q3.length = 16 := by
      have := congrArg List.length a3
      rw [List.length_append] at this
      omega
    have hm1 : (bytes.take k ++ rest').length - (q3 ++ bitsOf rest').length / 8 = k - 2 := by
      rw [List.length_append, List.length_append, hB', hpl, hq3]
      omega
    have hm2 : (bytes.take k ++ rest').take (k - 2) = bytes.take (bytes.length - r2.length / 8) := by
      rw [List.take_append_of_le_length (by omega), List.take_take, hr2, Nat.min_eq_left (by omega)]
      congr 1
      omega
    rw [hm1, hm2, k3]
    simp only [Option.bind_some]
    rw [if_pos hall, ec]
    have hm4 : (bytes.take k ++ rest').length - (bitsOf rest').length / 8 = (bytes.take k).length := by
      rw [List.length_append, hB']
      omega
    rw [hm4, List.drop_left]

/-- a stream's frames, cut off: none, or too few samples -/
def NoGood (h : Head) (res : Except Nat (List (List Int))) : Prop := (∃ n, res = .error n) ∨ ∃ cs, res = .ok cs ∧ (cs.headD []).length ≠ h.total

theorem right_frames_cut {h : Head} {chs : List (List Int)} (hr : RightS h chs) : ∀ (m i fuel : Nat) (ended : Bool) (P Q : List UInt8), i + m = nFrames h → (ended = true → m = 0) → P ++ Q = (List.range' i m).flatMap (encFr h chs) → Q ≠ [] → P.length < fuel →
    NoGood h (frames h fuel i (min (i * h.block) h.total) ended (chs.map (fun c => c.take (i * h.block))) P)
  | _, _, 0, _, _, _, _, _, _, _, hf => by omega
  | 0, i, fuel + 1, ended, P, Q, hi, _, hpq, hq, _ => by
    have e : P ++ Q = [] := hpq
    exact absurd (List.append_eq_nil_iff.1 e).2 hq
  | m + 1, i, fuel + 1, ended, P, Q, hi, he, hpq, hq, hf => by
    obtain ⟨b1, b2, b3, b4, b5, b6, b7, b8⟩ := headOk_parts hr.ok
    have hi' : i < nFrames h := by omega
    have hlt := (hr.nframes i).1 hi'
    have hl := encFr_length h chs i
    have hen : ended = false := by
      cases ended
      · rfl
      · have := he rfl; omega
    subst hen
    rw [List.range'_succ, List.flatMap_cons] at hpq
    unfold Go.Proofs.Ytncmgnmcggkhnaa.frames
    by_cases hP : P = []
    · rw [if_pos hP]
      refine .inr ⟨_, rfl, ?_⟩
      have hc := hr.ch
      have hc1 := hr.ch1
      cases chs with
      | nil => simp at hc; omega
      | cons c l =>
        show (c.take (i * h.block)).length ≠ h.total
        rw [List.length_take, hr.len c (by simp)]
        omega
    · rw [if_neg hP]
      by_cases hs : P.length < (encFr h chs i).length
      · cases hp : pFrame h i P with
        | none => exact .inl ⟨i, rfl⟩
        | some x =>
          obtain ⟨cs, rest⟩ := x
          obtain ⟨part, hp1, _, hp2⟩ := pFrame_local hp
          have h1 := hp2 (rest ++ Q)
          rw [← List.append_assoc, ← hp1, hpq, hr.frame i hi'] at h1
          injection h1 with h1
          injection h1 with _ h1
          have h2 := congrArg List.length h1
          have h3 := congrArg List.length hpq
          have h4 := congrArg List.length hp1
          simp only [List.length_append] at h2 h3 h4
          omega
      · obtain ⟨P', hP'⟩ : ∃ P', P = encFr h chs i ++ P' := by
          have h1 : P = (encFr h chs i ++ (List.range' (i + 1) m).flatMap (encFr h chs)).take P.length := by rw [← hpq, List.take_left]
          rw [List.take_append, List.take_of_length_le (by omega)] at h1
          exact ⟨_, h1⟩
        have hpq' : P' ++ Q = (List.range' (i + 1) m).flatMap (encFr h chs) := by
          rw [hP', List.append_assoc] at hpq
          exact List.append_cancel_left hpq
        rw [hP', hr.frame i hi']
        have hcl := hr.chunk_len i
        show NoGood h (if _ then _ else _)
        rw [hcl, if_neg (by simp; omega), zip_chunk]
        have e2 : min (i * h.block) h.total + min h.block (h.total - i * h.block) = min ((i + 1) * h.block) h.total := by rw [Nat.succ_mul]; omega
        rw [e2]
        have hPl : P.length = (encFr h chs i).length + P'.length := by rw [hP', List.length_append]
        refine right_frames_cut hr m (i + 1) fuel _ P' Q (by omega) (fun hd => ?_) hpq' hq (by omega)
        have hd' := of_decide_eq_true hd
        have h3 : ¬ (i + 1) * h.block < h.total := by rw [Nat.succ_mul]; omega
        have h4 : ¬ i + 1 < nFrames h := fun e => h3 ((hr.nframes (i + 1)).1 e)
        omega

theorem right_frames_more {h : Head} {chs : List (List Int)} (hr : RightS h chs) (T : List UInt8) (hT : T ≠ []) (hno : ∀ n, pFrame h n T = none) : ∀ (m i fuel : Nat) (ended : Bool), i + m = nFrames h → (ended = true → m = 0) → ((List.range' i m).flatMap (encFr h chs) ++ T).length < fuel →
    ∃ n, frames h fuel i (min (i * h.block) h.total) ended (chs.map (fun c => c.take (i * h.block))) ((List.range' i m).flatMap (encFr h chs) ++ T) = .error n
  | _, _, 0, _, _, _, hf => by omega
  | 0, i, fuel + 1, ended, hi, _, _ => by
    refine ⟨i, ?_⟩
    show frames h (fuel + 1) i _ ended _ T = _
    unfold Go.Proofs.Ytncmgnmcggkhnaa.frames
    rw [if_neg hT, hno]
  | m + 1, i, fuel + 1, ended, hi, he, hf => by
    obtain ⟨b1, b2, b3, b4, b5, b6, b7, b8⟩ := headOk_parts hr.ok
    have hi' : i < nFrames h := by omega
    have hlt := (hr.nframes i).1 hi'
    have hl := encFr_length h chs i
    have hen : ended = false := by
      cases ended
      · rfl
      · have := he rfl; omega
    subst hen
    rw [List.range'_succ, List.flatMap_cons, List.append_assoc] at hf ⊢
    rw [List.length_append] at hf
    unfold Go.Proofs.Ytncmgnmcggkhnaa.frames
    rw [if_neg (fun e => by have := congrArg List.length e; rw [List.length_append] at this; simp at this; rw [this.1] at hl; simp at hl), hr.frame i hi']
    have hcl := hr.chunk_len i
    dsimp only
    rw [hcl, if_neg (by simp; omega), zip_chunk]
    have e2 : min (i * h.block) h.total + min h.block (h.total - i * h.block) = min ((i + 1) * h.block) h.total := by rw [Nat.succ_mul]; omega
    rw [e2]
    refine right_frames_more hr T hT hno m (i + 1) fuel _ (by omega) (fun hd => ?_) (by omega)
    have hd' := of_decide_eq_true hd
    have h3 : ¬ (i + 1) * h.block < h.total := by rw [Nat.succ_mul]; omega
    have h4 : ¬ i + 1 < nFrames h := fun e => h3 ((hr.nframes (i + 1)).1 e)
    omega

/-- blocks have 42 bytes at least -/
theorem pBlocks_least {l r : List Bool} {h : Head} (e : pBlocks l = some (h, r)) : 336 ≤ l.length := by
  unfold pBlocks at e
  obtain ⟨⟨a1, r1⟩, e1, e⟩ := Option.bind_eq_some_iff.mp e
  obtain ⟨⟨a2, r2⟩, e2, e⟩ := Option.bind_eq_some_iff.mp e
  obtain ⟨⟨a3, r3⟩, e3, e⟩ := Option.bind_eq_some_iff.mp e
  obtain ⟨⟨a4, r4⟩, e4, e⟩ := Option.bind_eq_some_iff.mp e
  obtain ⟨⟨⟨last, kind, size⟩, r5⟩, e5, e⟩ := Option.bind_eq_some_iff.mp e
  have f1 := pmust_left e1
  have f2 := pmust_left e2
  have f3 := pmust_left e3
  have f4 := pmust_left e4
  unfold pBlock at e5
  obtain ⟨⟨c1, s1⟩, g1, e5⟩ := Option.bind_eq_some_iff.mp e5
  obtain ⟨⟨c2, s2⟩, g2, e5⟩ := Option.bind_eq_some_iff.mp e5
  obtain ⟨⟨c3, s3⟩, g3, e5⟩ := Option.bind_eq_some_iff.mp e5
  have f5 := pnum_left g1
  have f6 := pnum_left g2
  have f7 := pnum_left g3
  injection e5 with e5
  injection e5 with _ e5
  subst e5
  simp only at e
  split at e
  · obtain ⟨⟨hh, r6⟩, e6, e⟩ := Option.bind_eq_some_iff.mp e
    unfold pInfo at e6
    obtain ⟨⟨d1, t1⟩, q1, e6⟩ := Option.bind_eq_some_iff.mp e6
    obtain ⟨⟨d2, t2⟩, q2, e6⟩ := Option.bind_eq_some_iff.mp e6
    obtain ⟨⟨d3, t3⟩, q3, e6⟩ := Option.bind_eq_some_iff.mp e6
    obtain ⟨⟨d4, t4⟩, q4, e6⟩ := Option.bind_eq_some_iff.mp e6
    obtain ⟨⟨d5, t5⟩, q5, e6⟩ := Option.bind_eq_some_iff.mp e6
    obtain ⟨⟨d6, t6⟩, q6, e6⟩ := Option.bind_eq_some_iff.mp e6
    obtain ⟨⟨d7, t7⟩, q7, e6⟩ := Option.bind_eq_some_iff.mp e6
    obtain ⟨⟨d8, t8⟩, q8, e6⟩ := Option.bind_eq_some_iff.mp e6
    have p1 := pnum_left q1
    have p2 := pmust_left q2
    have p3 := pnum_left q3
    have p4 := pnum_left q4
    have p5 := pnum_left q5
    have p6 := pnum_left q6
    have p7 := pnum_left q7
    have p8 := pnum_left q8
    omega
  · cases e

theorem replicate_takes {h : Head} {chs : List (List Int)} (hr : RightS h chs) : chs.map (fun c => c.take (0 * h.block)) = List.replicate h.channels [] := by
  rw [List.eq_replicate_iff]
  exact ⟨by rw [List.length_map]; exact hr.ch, fun b hb => by obtain ⟨c, _, rfl⟩ := List.mem_map.1 hb; simp⟩

/-- a stream with something else behind its head -/
theorem decode_head {h : Head} {chs : List (List Int)} (hr : RightS h chs) (R : List UInt8) (hl : 42 + R.length ≤ 6000) :
    decode (headBytes h ++ R) = match frames h (42 + R.length + 1) 0 0 false (List.replicate h.channels []) R with
      | .error number => .err 4 number
      | .ok chs => if (chs.headD []).length = h.total then .sound h.rate h.bits chs else .err 5 0 := by
  have hL : (headBytes h ++ R).length = 42 + R.length := by rw [List.length_append, headBytes_length]
  unfold decode
  rw [if_neg (by omega), pBlocks_head h R hr.ok hr.ch1]
  simp only
  rw [hL, bitsOf_length, Nat.mul_div_cancel_left _ (by decide), Nat.add_sub_cancel, show (42 : Nat) = (headBytes h).length by rw [headBytes_length], List.drop_left, headBytes_length]
  cases frames h (42 + R.length + 1) 0 0 false (List.replicate h.channels []) R <;> rfl

/-- a stream that is cut off is none -/
theorem right_cut {h : Head} {chs : List (List Int)} (hr : RightS h chs) (k : Nat) (hk : k < (encode h chs).length) :
    ∃ e p, decode ((encode h chs).take k) = .err e p ∧ 3 ≤ e ∧ e ≤ 5 ∧ (k < 42 → e = 3) := by
  have hlen := hr.encode_len
  have hl : ((encode h chs).take k).length = k := by rw [List.length_take]; omega
  by_cases h42 : k < 42
  · refine ⟨3, 0, ?_, by omega, by omega, fun _ => rfl⟩
    unfold decode
    rw [if_neg (by omega)]
    cases hp : pBlocks (bitsOf ((encode h chs).take k)) with
    | none => rfl
    | some x =>
      obtain ⟨hh, r⟩ := x
      have := pBlocks_least hp
      rw [bitsOf_length, hl] at this
      omega
  · obtain ⟨F, hF⟩ : ∃ F, (List.range (nFrames h)).flatMap (encFr h chs) = F := ⟨_, rfl⟩
    have he : (encode h chs).take k = headBytes h ++ F.take (k - 42) := by
      unfold encode
      rw [hF, List.take_append, headBytes_length, List.take_of_length_le (by rw [headBytes_length]; omega)]
    have hel : (encode h chs).length = 42 + F.length := by unfold encode; rw [hF, List.length_append, headBytes_length]
    have hFl : (F.take (k - 42)).length = k - 42 := by rw [List.length_take]; omega
    have hn := right_frames_cut hr (nFrames h) 0 (42 + (F.take (k - 42)).length + 1) false (F.take (k - 42)) (F.drop (k - 42)) (by omega) (by simp) (by rw [List.take_append_drop, ← hF, List.range_eq_range'])
      (fun e => by have := congrArg List.length e; rw [List.length_drop, List.length_nil] at this; omega) (by omega)
    rw [Nat.zero_mul, Nat.zero_min] at hn
    have h0 := replicate_takes hr
    rw [Nat.zero_mul] at h0
    rw [h0] at hn
    rw [he, decode_head hr _ (by omega)]
    rcases hn with ⟨n, hn⟩ | ⟨cs, hn, hne⟩
    · rw [hn]
      exact ⟨4, n, rfl, by omega, by omega, fun e => by omega⟩
    · rw [hn]
      simp only
      rw [if_neg hne]
      exact ⟨5, 0, rfl, by omega, by omega, fun e => by omega⟩

theorem no_sync (more : List UInt8) : pMust 16 65528 (bitsOf (0 :: more)) = none := by
  unfold pMust pNum
  cases more with
  | nil => rfl
  | cons b l =>
    rw [if_pos (by rw [bitsOf_length]; simp; omega), bitsOf_cons, bitsOf_cons, ← List.append_assoc, List.take_append_of_le_length (by simp [byteBits_length]), List.take_of_length_le (by simp [byteBits_length])]
    simp only [Option.bind_some]
    have h1 : val (byteBits 0 ++ byteBits b) = val (byteBits b) := by
      unfold val
      rw [List.foldl_append]
      rfl
    have h2 := val_lt (byteBits b)
    rw [byteBits_length] at h2
    rw [h1, if_neg (by omega)]

theorem no_frame (h : Head) (n : Nat) (more : List UInt8) : pFrame h n (0 :: more) = none := by
  unfold pFrame pHead
  rw [no_sync]
  rfl

/-- a stream with more behind it is none -/
theorem right_more {h : Head} {chs : List (List Int)} (hr : RightS h chs) (more : List UInt8) :
    ((encode h chs).length + 1 + more.length > 6000 ∧ decode (encode h chs ++ 0 :: more) = .err 2 0) ∨ ∃ n, decode (encode h chs ++ 0 :: more) = .err 4 n := by
  by_cases hl : 6000 < (encode h chs ++ 0 :: more).length
  · refine .inl ⟨by rw [List.length_append, List.length_cons] at hl; omega, ?_⟩
    unfold decode
    rw [if_pos hl]
  · refine .inr ?_
    obtain ⟨F, hF⟩ : ∃ F, (List.range (nFrames h)).flatMap (encFr h chs) = F := ⟨_, rfl⟩
    have he : encode h chs ++ 0 :: more = headBytes h ++ (F ++ 0 :: more) := by unfold encode; rw [hF, List.append_assoc]
    have hL : (encode h chs ++ 0 :: more).length = 42 + (F ++ 0 :: more).length := by rw [he, List.length_append, headBytes_length]
    obtain ⟨n, hn⟩ := right_frames_more hr (0 :: more) (by simp) (fun n => no_frame h n more) (nFrames h) 0 (42 + (F ++ 0 :: more).length + 1) false (by omega) (by simp) (by rw [← List.range_eq_range', hF]; omega)
    rw [Nat.zero_mul, Nat.zero_min, ← List.range_eq_range', hF] at hn
    have h0 := replicate_takes hr
    rw [Nat.zero_mul] at h0
    rw [h0] at hn
    refine ⟨n, ?_⟩
    rw [he, decode_head hr _ (by omega), hn]
end Go.Proofs.Ytncmgnmcggkhnaa

namespace Go.Proofs.Ytncmgnmcggkhnaa
open Go.RowKit

set_option maxHeartbeats 2000000 in
set_option maxRecDepth 100000 in
/-- a copy of a text -/
theorem qslclone (w : World) (s : ByteArray) (hs : s.size ≤ 6000) :
    Calls Try.prog 79 #[.string s] w fun e w' => e = .returned (.string s) ∧ w.grownBy w' none := by
  by_cases h0 : s.size = 0
  · have hs : s = ⟨#[]⟩ := by
      apply ByteArray.ext
      exact Array.eq_empty_of_size_eq_zero h0
    subst hs
    go_enter Try.func79, Try.ntmps79
    go_wp2
    go_ret
    exact ⟨rfl, grown_refl _ _⟩
  · obtain ⟨i0, hi, hz0, hz1, hz2⟩ := info_parts infoU8
    have hsz1 : (Try.prog.info? 5).map (·.size) = some 1 := by rw [hi]; simp [hz1]
    obtain ⟨Z, hZ⟩ : ∃ Z, Z = madeCells (Value.int .u8 0).cells (((s.size : Nat) : Int).toNat * i0.size) := ⟨_, rfl⟩
    have hZs : Z.size = s.size := by rw [hZ, size_madeCells, hz1]; simp
    obtain ⟨w1, hw1⟩ : ∃ w1, w.alloc (.cells Z 5) = w1 := ⟨_, rfl⟩
    obtain ⟨g, hg⟩ : ∃ g, w.heap.size = g := ⟨_, rfl⟩
    have hmake : (Instr.makeSlice 59 (.int .i64 (s.size : Int)) (.int .i64 (s.size : Int))).run Try.prog w = .ok (.slice (some ⟨g, 0, none⟩) s.size s.size) w1 := by
      have h := run_make (P := Try.prog) w 59 5 i0 (.int .u8 0) Try.underlying59 hi hz0 .i64 .i64 (s.size : Int) (s.size : Int) (by omega) (by omega) (by rw [hz2]; omega) (by omega)
      rw [← hZ, hw1, hg] at h
      simpa using h
    have hb1 : Box w1 g Z 5 := by rw [← hg, ← hw1]; exact Box.new _ _ _
    have hbl1 : Below g w w1 := by rw [← hw1, ← hg]; exact (Below.refl _ w).alloc (Nat.le_refl _) _
    have hcopy := Lib.run_copy_row_string (P := Try.prog) w1 59 9 3 5 g 0 s.size s.size s Z 5 Try.underlying59 hsz1 hb1 (Nat.le_refl _) (by omega)
    obtain ⟨C, hC⟩ : ∃ C, (Z.toList.take 0 ++ Lib.byteCells s.data.toList ++ Z.toList.drop (0 + s.size)).toArray = C := ⟨_, rfl⟩
    rw [hC] at hcopy
    have hCl : C.toList = Lib.byteCells s.data.toList := by
      rw [← hC, List.toList_toArray, List.take_zero, List.nil_append, List.drop_of_length_le (by rw [Array.length_toList]; omega), List.append_nil]
    have hCs : C.size = s.size := by rw [← Array.length_toList, hCl, Lib.byteCells_length, ← Lib.size_eq]
    obtain ⟨w2, hw2⟩ : ∃ w2, w1.setRow g C = w2 := ⟨_, rfl⟩
    rw [hw2] at hcopy
    have hb2 : w2.heap[g]? = some (.cells C 5 (0, 0)) := by rw [← hw2]; exact setRow_heap _ _ Z _ 5 (0, 0) hb1
    have hbl2 : Below g w1 w2 := by rw [← hw2]; exact ⟨rfl, rfl, rfl, by simp, fun k hk => setRow_other _ _ _ _ (by omega)⟩
    have hne : s.data.toList ≠ [] := fun e => h0 (by rw [Lib.size_eq, e]; rfl)
    have hstr := Lib.run_unsafeString_row (P := Try.prog) w2 133 3 9 5 bldByteP bldCells g C.size (by unfold World.shape?; rw [hb2]) s.data.toList hne (by rw [← Lib.size_eq]; omega) (by rw [← Lib.size_eq]; omega)
      (fun j x hx => Lib.cells_of_row hb2 C.size j _ (by rw [List.take_of_length_le (by rw [Array.length_toList]; exact Nat.le_refl _), hCl]; simp [Lib.byteCells, hx]))
    rw [← Lib.size_eq] at hstr
    have hfin : Below g w (w2.freeze ⟨g, 0, none⟩ s.size) := Lib.below_freeze (hbl1.trans hbl2) (p := ⟨g, 0, none⟩) (Nat.le_refl _) _
    have HFIN : Hid (w.grownBy (w2.freeze ⟨g, 0, none⟩ s.size) none) := ⟨hfin.os, hfin.tape, hfin.output, hfin.size, fun k hk _ => hfin.block k (by rw [← hg]; exact hk)⟩
    have hpos : (0 : Int) < (s.size : Int) := by omega
    clear hfin hbl1 hbl2 hb1 hb2 hC hCl hCs hw1 hw2 hZ hZs hg hi hz0 hz1 hz2 hsz1
    go_enter Try.func79, Try.ntmps79
    go_wp2
    go_ret
    exact ⟨rfl, HFIN.out⟩

theorem qsclone (w : World) (s : ByteArray) (hs : s.size ≤ 6000) :
    Calls Try.prog 56 #[.string s] w fun e w' => e = .returned (.string s) ∧ w.grownBy w' none := by
  have HC := qslclone w s hs
  go_enter Try.func56, Try.ntmps56
  go_wp2_with (go_at_call 79; refine HC.mono ?_; rintro e w1 ⟨rfl, hg1⟩)
  go_ret
  exact ⟨rfl, hg1⟩
end Go.Proofs.Ytncmgnmcggkhnaa

namespace Go.Proofs.Ytncmgnmcggkhnaa
open Go.RowKit

theorem infoStr : (Try.prog.info? 9).map (fun i => (i.zero, i.size, i.bytes)) = some (some (.string ⟨#[]⟩), 1, 16) := by kernel_rfl

def strV (l : List UInt8) : Value := .string ⟨l.toArray⟩

theorem strV_data (s : ByteArray) : strV s.data.toList = .string s := by
  unfold strV
  rfl

/-- a reader in memory: its head, the bytes of its frames, where it is, the block of what it keeps -/
def readerC (h : Head) (pv : Value) (pos gM : Nat) : Array Value :=
  #[.int .i64 h.block, .int .i64 h.rate, .int .i64 h.channels, .int .i64 h.bits, .int .i64 h.total, pv, .int .i64 pos, .map (some gM)]

/-- what Open's function has made of the frames ahead: a list of their bytes -/
def JOpen (gV gB gM base : Nat) (h : Head) (w : World) (l : List Fr) (S : Nat → Prop) : Prop :=
  Box w gV #[.pointer (some ⟨gB, 0, none⟩)] 46 ∧ gM < gB ∧ gB < gV ∧ gV < base ∧ base ≤ w.heap.size ∧ w.heap[gM]? = some (.map #[] 0) ∧
    ∃ pv, Box w gB (readerC h pv 0 gM) 108 ∧ w.ownsRow base 9 1 pv l.length (l.map fun p => strV p.1) ∧ ∀ b, S b ↔ (b = gB ∨ pv.ownBlock = some b)

set_option maxHeartbeats 4000000 in
set_option maxRecDepth 20000 in
theorem take_open (gV gB gM base : Nat) (h : Head) : TakeOk 55 #[.pointer (some ⟨gV, 0, none⟩)] h (JOpen gV gB gM base h) := by
  refine ⟨?_, ?_, ?_⟩
  · intro w l S hJ b hb
    obtain ⟨_, _, _, _, h5, _, pv, hB, hrow, hS⟩ := hJ
    rcases (hS b).1 hb with rfl | e
    · exact hB.lt
    · exact (World.ownsRow.lt hrow b e).2
  · intro w w' l S hJ hg
    obtain ⟨h1, h2, h3, h4, h5, h6, pv, hB, hrow, hS⟩ := hJ
    refine ⟨h1.kept hg (by simp), h2, h3, h4, Nat.le_trans h5 hg.size, ?_, pv, hB.kept hg (by simp), ownsRow_kp hrow (Kp.ofNone (S := fun _ => False) hg) (fun _ _ e => e), hS⟩
    have hlt : gM < w.heap.size := by
      rcases Nat.lt_or_ge gM w.heap.size with h1 | h1
      · exact h1
      · rw [Array.getElem?_eq_none h1] at h6; cases h6
    rw [hg.block gM hlt (by simp), h6]
  · intro W l S D part chs v n total hJ _ _ _ _ _ _ _ _ hll hps
    obtain ⟨h1, h2, h3, h4, h5, h6, pv, hB, hrow, hS⟩ := hJ
    obtain ⟨i0, hi, hz0, hz1, hz2⟩ := info_parts infoStr
    have HI : Hid _ := hi
    have HZ0 : Hid _ := hz0
    have HZ1 : Hid _ := hz1
    have HZ2 : Hid _ := hz2
    clear hi hz0 hz1 hz2
    have HCL := fun w => qsclone w part hps
    obtain ⟨ap, cp, rfl⟩ := row_slice hrow
    obtain ⟨m, hm⟩ : ∃ m, l.length = m := ⟨_, rfl⟩
    obtain ⟨vs, hvs⟩ : ∃ vs, l.map (fun p => strV p.1) = vs := ⟨_, rfl⟩
    rw [hm] at hll
    rw [hm, hvs] at hrow
    rw [hm] at hB hS
    have hlt := World.ownsRow.lt hrow
    have HOWN : Hid (∀ w4 o, W.grownBy w4 none → (w4.alloc o).ownsRow base 9 1 (.slice ap m cp) m vs) := by
      intro w4 o hg4
      exact World.ownsRow.alloc (ownsRow_kp hrow (Kp.ofNone (S := fun _ => False) hg4) (fun _ _ e => e)) o
    have HBASE : Hid (∀ (w4 : World) o, W.grownBy w4 none → base ≤ (w4.alloc o).heap.size) := by
      intro w4 o hg4
      exact Nat.le_trans (Nat.le_trans h5 hg4.size) (by simp)
    have cV : W.cell? ⟨gV, 0, none⟩ = some (.pointer (some ⟨gB, 0, none⟩)) := h1.cell 0
    have cB : W.cell? ⟨gB, 5, none⟩ = some (.slice ap m cp) := hB.cell 5
    have fB := hB.fz 5
    have HV : Hid (∀ (w5 : World) o (w4 : World), W.grownBy w4 none → (w4.alloc o).grownBy w5 (Value.slice ap m cp).ownBlock → Box w5 gV #[.pointer (some ⟨gB, 0, none⟩)] 46 ∧ Box w5 gB (readerC h (.slice ap m cp) 0 gM) 108) := by
      intro w5 o w4 hg4 hg5
      have hga : W.grownBy (w4.alloc o) none := grown_alloc hg4 _
      refine ⟨(h1.kept hga (by simp)).kept hg5 (fun e => ?_), (hB.kept hga (by simp)).kept hg5 (fun e => ?_)⟩
      · have := (hlt gV e.symm).1; omega
      · have := (hlt gB e.symm).1; omega
    have hgM : gM < W.heap.size := by omega
    have hfin : ∀ (w4 : World) o (g cap' : Nat) (w5 : World), W.grownBy w4 none → (w4.alloc o).grownBy w5 (Value.slice ap m cp).ownBlock → w5.ownsRow base 9 1 (.slice (some ⟨g, 0, none⟩) (m + 1) cap') (m + 1) (vs ++ [.string part]) →
        ((Value.slice ap m cp).ownBlock = some g ∨ g = (w4.alloc o).heap.size) → TakePost (JOpen gV gB gM base h) W l S (part.data.toList, chs) (.returned (.tuple #[])) (w5.setCell ⟨gB, 5, none⟩ (.slice (some ⟨g, 0, none⟩) (m + 1) cap')) := by
      intro w4 o g cap' w5 hg4 hg5 hrow5 hat
      have hga : W.grownBy (w4.alloc o) none := grown_alloc hg4 _
      have hk5 : Kp W w5 S := (Kp.ofNone (S := S) hga).trans (Kp.of hg5) (fun b hb => .inl ((hS b).2 (.inr hb.symm)))
      have hgs := grown_set w5 gB 5 (.slice (some ⟨g, 0, none⟩) (m + 1) cap')
      have hk6 : Kp W (w5.setCell ⟨gB, 5, none⟩ (.slice (some ⟨g, 0, none⟩) (m + 1) cap')) S := hk5.trans (Kp.of hgs) (fun b hb => .inl ((hS b).2 (.inl (by injection hb))))
      have hgb := (World.ownsRow.lt hrow5 g rfl).1
      obtain ⟨bV, bB⟩ := HV.out w5 o w4 hg4 hg5
      refine ⟨rfl, hk6, fun b => b = gB ∨ b = g, ⟨bV.kept hgs (by simp; omega), h2, h3, h4, Nat.le_trans h5 hk6.size, ?_, _, bB.set 5 (.slice (some ⟨g, 0, none⟩) (m + 1) cap'), ?_, fun b => ?_⟩, fun b hb => ?_⟩
      · rw [hk6.block gM hgM (fun e => ?_), h6]
        rcases (hS gM).1 e with e | e
        · omega
        · have := (hlt gM e).1; omega
      · have := ownsRow_kp hrow5 (Kp.of hgs) (fun q hq e => by have hq' : g = q := (by simpa [Value.ownBlock] using hq); injection e with e; omega)
        rw [List.length_append, List.length_singleton, hm, List.map_append, hvs, List.map_singleton, strV_data]
        exact this
      · show (b = gB ∨ b = g) ↔ (b = gB ∨ some g = some b)
        constructor
        · rintro (e | e)
          · exact .inl e
          · exact .inr (by rw [e])
        · rintro (e | e)
          · exact .inl e
          · injection e with e
            exact .inr e.symm
      · rcases hb with e | e
        · exact .inl ((hS b).2 (.inl e))
        · rcases hat with h9 | h9
          · exact .inl ((hS b).2 (.inr (by rw [e]; exact h9)))
          · refine .inr ?_
            have := hga.size
            omega
    have HFIN : Hid _ := hfin
    show Calls Try.prog 55 #[.string part, v, .pointer (some ⟨gV, 0, none⟩)] W _
    have HD : Hid (∀ d, W.grownBy (W.drewN d) none) := fun d => grown_drewN (grown_refl _ _) d
    clear hfin hrow hS hB h1 h6 hm hvs hlt hgM
    go_enter Try.func55, Try.ntmps55
    go_upto_region 0 with fail
    go_region_law ((first
      | (refine step_append_lies _ (by rfl) (.tmp 9) (.tmp 12) 50 (by rfl) base 9 i0 (.string ⟨#[]⟩) 1 16 Try.underlying50 HI.out HZ0.out HZ1.out HZ2.out rfl (by decide) (.slice ap m cp) m vs (by simp [Act.eval]) (HOWN.out w4 _ hg4) ⟨w4.heap.size, 0, none⟩ 1 1 [.string part] (by simp [Act.eval]) rfl (one_elem w4 _ _) (by intro u hu; rw [List.mem_singleton.1 hu]; rfl) (by omega) (by unfold maxLen; omega) (by omega) (HBASE.out w4 _ hg4) _ rfl ?_; intro g cap' w5 hrow' hgrow hat hglt; have cV5 : w5.cell? ⟨gV, 0, none⟩ = some (.pointer (some ⟨gB, 0, none⟩)) := (HV.out w5 _ w4 hg4 hgrow).1.cell 0; have cB5 : w5.cell? ⟨gB, 5, none⟩ = some (.slice ap m cp) := (HV.out w5 _ w4 hg4 hgrow).2.cell 5; have fB5 := (HV.out w5 _ w4 hg4 hgrow).2.fz 5; have HROW' : Hid _ := hrow'; have HGROW : Hid _ := hgrow; have HAT : Hid _ := hat; clear hrow' hgrow hat)
      | (go_simp; go_at_call 56; refine (HCL _).mono ?_; rintro e w4 ⟨rfl, hg4d⟩; have hg4 : W.grownBy w4 none := grown_trans (grown_drew (grown_refl W none)) hg4d; have cV4 := hg4.cell cV (by simp); have cB4 := hg4.cell cB (by simp); have cV4a := (grown_alloc hg4 (.cells #[.string part] 9)).cell cV (by simp); have cB4a := (grown_alloc hg4 (.cells #[.string part] 9)).cell cB (by simp))))
    all_goals
      exact bodyPost_end (v := .tuple #[]) (by simp [results, Try.results55, go_sem]) rfl (HFIN.out w4 _ g cap' w5 hg4 HGROW.out HROW'.out HAT.out)
end Go.Proofs.Ytncmgnmcggkhnaa

namespace Go.Proofs.Ytncmgnmcggkhnaa
open Go.RowKit

/-- a reader in memory, as Open leaves it: the bytes of the frames of a stream that is right -/
def RdrNew (w : World) (base gB : Nat) (rate bits : Nat) (chs : List (List Int)) : Prop :=
  ∃ (h : Head) (l : List Fr) (pv : Value) (gM : Nat) (D : List UInt8) (ended : Bool), h.rate = rate ∧ h.bits = bits ∧ joined h.channels l = chs ∧ Fls h D l D.length ended ∧ headOk h = true ∧ 1 ≤ h.channels ∧ (chs.headD []).length = h.total ∧ D.length ≤ 6000 ∧
    base ≤ gM ∧ gM < gB ∧ Box w gB (readerC h pv 0 gM) 108 ∧ w.heap[gM]? = some (.map #[] 0) ∧ ∃ b2, gB < b2 ∧ w.ownsRow b2 9 1 pv l.length (l.map fun p => strV p.1)

def OpenPost (w : World) (s : ByteArray) (e : Ending) (w' : World) : Prop :=
  w.grownBy w' none ∧ match decode s.data.toList with
    | .err er p => e = .returned (.tuple #[.pointer none, .int .i64 er, .int .i64 p])
    | .sound r b chs => ∃ gB, e = .returned (.tuple #[.pointer (some ⟨gB, 0, none⟩), .int .i64 0, .int .i64 0]) ∧ RdrNew w' w.heap.size gB r b chs

set_option maxHeartbeats 4000000 in
set_option maxRecDepth 20000 in
theorem qopen (w : World) (s : ByteArray) (hsz : s.size ≤ maxLen) :
    Calls Try.prog 27 #[.string s] w (OpenPost w s) := by
  have HPH := fun w => qphead w s hsz
  clear hsz
  go_enter Try.func27, Try.ntmps27
  go_wp2_with fail
  refine (HPH w).mono ?_
  rintro e w1 ⟨hg1, hv, d, er, rfl, hcase⟩
  clear HPH
  have hvf : ∃ b1 b2 b3 b4 b5 : Int, hv = .agg #[.int .i64 b1, .int .i64 b2, .int .i64 b3, .int .i64 b4, .int .i64 b5] := by
    rcases hcase with ⟨_, rfl, _⟩ | ⟨_, rfl, _⟩ | ⟨_, _, h, _, _, rfl, _⟩
    · exact ⟨_, _, _, _, _, rfl⟩
    · exact ⟨_, _, _, _, _, rfl⟩
    · exact ⟨_, _, _, _, _, rfl⟩
  obtain ⟨b1, b2, b3, b4, b5, rfl⟩ := hvf
  obtain ⟨w2, hw2⟩ : ∃ w2, w1.alloc (.cells #[Value.int .i64 b1, .int .i64 b2, .int .i64 b3, .int .i64 b4, .int .i64 b5] 77) = w2 := ⟨_, rfl⟩
  have hg2 : w1.grownBy w2 none := by rw [← hw2]; exact grown_alloc (grown_refl _ _) _
  have hgg2 := grown_trans hg1 hg2
  obtain ⟨gH, hgH⟩ : ∃ gH, w1.heap.size = gH := ⟨_, rfl⟩
  have hbh2 : Box w2 gH #[Value.int .i64 b1, .int .i64 b2, .int .i64 b3, .int .i64 b4, .int .i64 b5] 77 := by rw [← hgH, ← hw2]; exact Box.new _ _ _
  have hs2 : w2.heap.size = gH + 1 := by rw [← hw2, ← hgH]; simp
  have HW2 : Hid (w1.alloc (.cells #[Value.int .i64 b1, .int .i64 b2, .int .i64 b3, .int .i64 b4, .int .i64 b5] 77) = w2) := hw2
  have HGH : Hid (w1.heap.size = gH) := hgH
  have HS2 : Hid (w2.heap.size = gH + 1) := hs2
  have hwH : w.heap.size ≤ gH := by rw [← hgH]; exact hg1.size
  clear hg1 hw2 hgH hg2 hs2
  go_upto_region 2 with fail
  rw [HW2.out, HGH.out]
  clear HW2 HGH
  by_cases her : er ≠ 0
  · have hd : decode s.data.toList = .err er 0 := by
      rcases hcase with ⟨rfl, _, hlong⟩ | ⟨rfl, _, hs, hnone⟩ | ⟨h1, _⟩
      · exact decode_long s hlong
      · exact decode_meta s hs hnone
      · exact absurd h1 her
    have hpost : OpenPost w s (.returned (.tuple #[.pointer none, .int .i64 er, .int .i64 0])) w2 := ⟨hgg2, by rw [hd]; rfl⟩
    have te : ((er : Int) != 0) = true := by simp; omega
    clear hd hcase her
    go_wp2
    exact bodyPost_ret (v := .tuple #[.pointer none, .int .i64 er, .int .i64 0]) (by simp [results, Try.results27, go_sem]) rfl hpost
  have her0 : er = 0 := by omega
  subst her0
  obtain ⟨hs, h, at', hat, hhv, rfl, hpb⟩ : s.size ≤ 6000 ∧ ∃ (h : Head) (at' : Nat), at' ≤ s.size ∧ Value.agg #[.int .i64 b1, .int .i64 b2, .int .i64 b3, .int .i64 b4, .int .i64 b5] = .agg (headC h) ∧ d = s.extract at' s.size ∧ pBlocks (bitsOf s.data.toList) = some (h, bitsOf (s.data.toList.drop at')) := by
    rcases hcase with ⟨h1, _⟩ | ⟨h1, _⟩ | ⟨_, h2, h3⟩
    · omega
    · omega
    · exact ⟨h2, h3⟩
  clear hcase her
  have hb5 : b1 = h.block ∧ b2 = h.rate ∧ b3 = h.channels ∧ b4 = h.bits ∧ b5 = h.total := by
    unfold headC at hhv
    injection hhv with e
    injection e with e
    injection e with e1 e
    injection e with e2 e
    injection e with e3 e
    injection e with e4 e
    injection e with e5 e
    injection e1 with _ e1
    injection e2 with _ e2
    injection e3 with _ e3
    injection e4 with _ e4
    injection e5 with _ e5
    exact ⟨e1, e2, e3, e4, e5⟩
  obtain ⟨rfl, rfl, rfl, rfl, rfl⟩ := hb5
  clear hhv
  have hspec := pBlocks_spec hpb (by rw [total_bits]; omega)
  have hc1 := hspec.2.2.2
  have hhok := hspec.2.2.1
  have hb1 : 16 ≤ h.block ∧ h.block ≤ 256 ∧ 4 ≤ h.bits ∧ h.bits ≤ 16 ∧ h.rate ≤ 655350 ∧ h.total ≤ 1200 ∧ h.channels ≤ 2 := by unfold headOk at hhok; simp at hhok; omega
  have HHOK : Hid (headOk h = true) := hhok
  have hdf := decode_frames s hs hpb
  have hrl : s.size - (bitsOf (s.data.toList.drop at')).length / 8 = at' := by rw [bitsOf_length, List.length_drop, dlen]; omega
  rw [hrl] at hdf
  have hex : (s.extract at' s.size).data.toList = s.data.toList.drop at' := by rw [extract_list, List.take_of_length_le (by rw [List.length_drop, dlen]; omega)]
  have hexs : (s.extract at' s.size).size = s.size - at' := by rw [← dlen, hex, List.length_drop, dlen]
  rw [frames_fuel h (s.size + 1) ((s.extract at' s.size).size + 1) 0 0 false _ _ (by rw [List.length_drop, dlen]; omega) (by rw [List.length_drop, dlen]; omega), ← hex] at hdf
  obtain ⟨d, hd⟩ : ∃ d, s.extract at' s.size = d := ⟨_, rfl⟩
  rw [hd] at hdf hexs ⊢
  obtain ⟨res, hres⟩ : ∃ res, frames h (d.size + 1) 0 0 false (List.replicate h.channels []) d.data.toList = res := ⟨_, rfl⟩
  have HRES : Hid (frames h (d.size + 1) 0 0 false (List.replicate h.channels []) d.data.toList = res) := hres
  rw [hres] at hdf
  have HDF : Hid (decode s.data.toList = ansOf h res) := hdf
  have hdsz : d.size ≤ 6000 := by omega
  clear hdf hres hex hexs hrl hhok hspec hpb hd hat
  have e0 : w2.cell? ⟨gH, 0, none⟩ = some (.int .i64 h.block) := hbh2.cell 0
  have e1 : w2.cell? ⟨gH, 1, none⟩ = some (.int .i64 h.rate) := hbh2.cell 1
  have e2 : w2.cell? ⟨gH, 2, none⟩ = some (.int .i64 h.channels) := hbh2.cell 2
  have e3 : w2.cell? ⟨gH, 3, none⟩ = some (.int .i64 h.bits) := hbh2.cell 3
  have e4 : w2.cell? ⟨gH, 4, none⟩ = some (.int .i64 h.total) := hbh2.cell 4
  have hmm := @run_makeMap Try.prog
  go_upto_region 5 with fail
  obtain ⟨gM, hgM⟩ : ∃ gM, w2.heap.size = gM := ⟨_, rfl⟩
  rw [hgM]
  obtain ⟨w5, hw5⟩ : ∃ w5, (((w2.alloc (.map #[] 0)).alloc (.cells #[.int .i64 h.block, .int .i64 h.rate, .int .i64 h.channels, .int .i64 h.bits, .int .i64 h.total, .slice none 0 0, .int .i64 0, .map (some gM)] 108)).alloc (.cells #[.pointer (some ⟨gM + 1, 0, none⟩)] 46)) = w5 := ⟨_, rfl⟩
  rw [hw5]
  have hg5 : w2.grownBy w5 none := by rw [← hw5]; exact grown_alloc (grown_alloc (grown_alloc (grown_refl _ _) _) _) _
  have hs5 : w5.heap.size = gM + 3 := by rw [← hw5, ← hgM]; simp
  have hm5 : w5.heap[gM]? = some (.map #[] 0) := by
    rw [← hw5, ← hgM]
    rw [Below.heap_alloc _ _ _ (by simp; omega), Below.heap_alloc _ _ _ (by simp)]
    show (w2.heap.push _)[w2.heap.size]? = _
    simp
  have hbB5 : Box w5 (gM + 1) (readerC h (.slice none 0 0) 0 gM) 108 := by
    have e : (w2.alloc (.map #[] 0)).heap.size = gM + 1 := by rw [← hgM]; simp
    rw [← hw5, ← e]
    exact (Box.new _ _ _).kept (grown_alloc (grown_refl _ none) _) (by simp)
  have hbV5 : Box w5 (gM + 2) #[.pointer (some ⟨gM + 1, 0, none⟩)] 46 := by
    have e : ((w2.alloc (.map #[] 0)).alloc (.cells #[.int .i64 h.block, .int .i64 h.rate, .int .i64 h.channels, .int .i64 h.bits, .int .i64 h.total, .slice none 0 0, .int .i64 0, .map (some gM)] 108)).heap.size = gM + 2 := by rw [← hgM]; simp
    rw [← hw5, ← e]
    exact Box.new _ _ _
  have hgg5 := grown_trans hgg2 hg5
  have hbh5 := hbh2.kept hg5 (by simp)
  have hwM : w.heap.size ≤ gM := by rw [← hgM]; exact hgg2.size
  have hJ0 : JOpen (gM + 2) (gM + 1) gM (gM + 3) h w5 [] (fun b => b = gM + 1 ∨ (Value.slice none 0 0).ownBlock = some b) :=
    ⟨hbV5, by omega, by omega, by omega, by omega, hm5, _, hbB5, World.ownsRow_nil _ _ _ _, fun b => Iff.rfl⟩
  have HEA := qeachframe w5 d h res 55 #[.pointer (some ⟨gM + 2, 0, none⟩)] _ _ (enters_of Try.func55 (by kernel_rfl) rfl) (take_open (gM + 2) (gM + 1) gM (gM + 3) h) hJ0 hdsz hc1 (by omega) (by omega) (by omega) (by omega) HRES.out
  clear e0 e1 e2 e3 e4 hw5 hgM hg5 hs5 hm5 hbB5 hmm
  have e0 : w5.cell? ⟨gH, 0, none⟩ = some (.int .i64 h.block) := hbh5.cell 0
  have e1 : w5.cell? ⟨gH, 1, none⟩ = some (.int .i64 h.rate) := hbh5.cell 1
  have e2 : w5.cell? ⟨gH, 2, none⟩ = some (.int .i64 h.channels) := hbh5.cell 2
  have e3 : w5.cell? ⟨gH, 3, none⟩ = some (.int .i64 h.bits) := hbh5.cell 3
  have e4 : w5.cell? ⟨gH, 4, none⟩ = some (.int .i64 h.total) := hbh5.cell 4
  unfold headC at HEA
  go_wp2_with fail
  refine HEA.mono ?_
  intro e w6 hpost
  obtain ⟨er, k, rfl⟩ := each_shape hpost
  clear HEA e0 e1 e2 e3 e4 hbh5 hbh2
  have hk6 : Kp w5 w6 (fun b => b = gM + 1 ∨ (Value.slice none 0 0).ownBlock = some b) := by obtain ⟨_, _, _, hk, _⟩ := hpost; exact hk
  have hgg6 : w.grownBy w6 none := by
    refine ⟨hk6.os.trans hgg5.os, hk6.tape.trans hgg5.tape, hk6.output.trans hgg5.output, Nat.le_trans hgg5.size hk6.size, fun b hb hn => ?_⟩
    rw [hk6.block b (Nat.lt_of_lt_of_le hb hgg5.size) (fun e => by rcases e with e | e; omega; cases e), hgg5.block b hb hn]
  by_cases her : er ≠ 0
  · have hd : decode s.data.toList = .err er k := by rw [HDF.out]; exact each_err hpost her
    have hpo : OpenPost w s (.returned (.tuple #[.pointer none, .int .i64 er, .int .i64 k])) w6 := ⟨hgg6, by rw [hd]⟩
    have te : ((er : Int) != 0) = true := by simp; omega
    clear hd her hpost hJ0 hk6
    go_wp2
    exact bodyPost_ret (v := .tuple #[.pointer none, .int .i64 er, .int .i64 k]) (by simp [results, Try.results27, go_sem]) rfl hpo
  have her0 : er = 0 := by omega
  subst her0
  obtain ⟨rfl, l, S', hJ, _, hS', hres, hans, ended, hfls⟩ := each_ok hpost
  have hd : decode s.data.toList = .sound h.rate h.bits (joined h.channels l) := by rw [HDF.out]; exact hans
  obtain ⟨bV6, j1, j2, j3, j4, j5, pv, bB6, hrow6, _⟩ := hJ
  have htot : ((joined h.channels l).headD []).length = h.total := by
    rw [hres] at hans
    unfold ansOf at hans
    by_cases hc : ((joined h.channels l).headD []).length = h.total
    · exact hc
    · simp only at hans
      rw [if_neg hc] at hans
      cases hans
  have hpo : OpenPost w s (.returned (.tuple #[.pointer (some ⟨gM + 1, 0, none⟩), .int .i64 0, .int .i64 0])) w6 := by
    refine ⟨hgg6, ?_⟩
    rw [hd]
    exact ⟨gM + 1, rfl, h, l, pv, gM, d.data.toList, ended, rfl, rfl, rfl, hfls, HHOK.out, hc1, htot, by rw [dlen]; exact hdsz, hwM, j1, bB6, j5, gM + 3, by omega, hrow6⟩
  have eV : w6.cell? ⟨gM + 2, 0, none⟩ = some (.pointer (some ⟨gM + 1, 0, none⟩)) := bV6.cell 0
  clear hd her hpost hJ0 hk6 hres hans hS' hfls bV6 bB6 hrow6 j5 htot
  go_wp2
  exact bodyPost_ret (v := .tuple #[.pointer (some ⟨gM + 1, 0, none⟩), .int .i64 0, .int .i64 0]) (by simp [results, Try.results27, go_sem]) rfl hpo
end Go.Proofs.Ytncmgnmcggkhnaa

namespace Go.Proofs.Ytncmgnmcggkhnaa
open Go.RowKit Go.ChangeMaps Go.MapKept

theorem law_int : Maps.Keyed Try.prog 3 := Maps.int_keyed Try.underlying3
theorem und_map : Try.prog.underlying 106 = some (.map 3 24) := by kernel_rfl
theorem zero_rows (w : World) : (zeroValue 24).run Try.prog w = .ok (.slice none 0 0) w := by kernel_rfl

/-- an element is read as itself -/
def heldR (v : Value) : Option (DataW Value × List MemPlace) := some (.held v, [])

theorem fits_i64 {a : Int} (h : -9223372036854775808 ≤ a ∧ a ≤ 9223372036854775807) : (Lit.int .i64 a).wf = true := WalkArith.wf_i64 h

/-- what is kept, by numbers -/
def KMap (w : World) (gM n : Nat) (M : Int → Option Value) : Prop :=
  ∃ D : DataW Value, w.ownsMap Try.prog 3 heldR gM n D ∧ ∀ a : Int, Maps.has D (.int .i64 a) = (M a).isSome ∧ ∀ v, M a = some v → ∀ z, D.atKey (.int .i64 a) z = .held v

theorem KMap.new (w : World) (gM : Nat) (h : w.heap[gM]? = some (.map #[] 0)) : KMap w gM 0 (fun _ => none) :=
  ⟨.map [], ⟨#[], 0, h, ⟨by simp, stamped_empty 0, by simp⟩, Nat.le_refl _, rfl⟩, fun a => ⟨rfl, fun v hv => by cases hv⟩⟩

theorem KMap.kp {w w' : World} {gM n : Nat} {M : Int → Option Value} {S : Nat → Prop} (h : KMap w gM n M) (hk : Kp w w' S) (hn : ¬ S gM) : KMap w' gM n M := by
  obtain ⟨D, hD, hM⟩ := h
  have hl := hD.lt
  obtain ⟨es, clock, hb, F, hs, e⟩ := hD
  exact ⟨D, ⟨es, clock, by rw [hk.block gM hl hn, hb], F, hs, e⟩, hM⟩

theorem KMap.lt {w : World} {gM n : Nat} {M : Int → Option Value} (h : KMap w gM n M) : gM < w.heap.size := by
  obtain ⟨D, hD, _⟩ := h
  exact hD.lt

/-- the number of the entries' bound may be raised -/
theorem KMap.more {w : World} {gM n n' : Nat} {M : Int → Option Value} (h : KMap w gM n M) (hn : n ≤ n') : KMap w gM n' M := by
  obtain ⟨D, hD, hM⟩ := h
  exact ⟨D, hD.mono hn, hM⟩

set_option maxRecDepth 20000 in
theorem KMap.look {w : World} {gM n : Nat} {M : Int → Option Value} (h : KMap w gM n M) (a : Int) (ha : -9223372036854775808 ≤ a ∧ a ≤ 9223372036854775807) :
    ∃ v, (Instr.lookup 106 (.map (some gM)) (.int .i64 a) true).run Try.prog w = .ok (.tuple #[v, .bool (M a).isSome]) w ∧ ∀ u, M a = some u → v = u := by
  obtain ⟨D, hD, hM⟩ := h
  obtain ⟨v, ps, hrun, hv⟩ := hD.look_ok law_int und_map (zero_rows w) (zd := .held (.slice none 0 0)) (zp := []) rfl (Maps.keyOf_int_mk Try.underlying3 (fits_i64 ha))
  rw [(hM a).1] at hrun
  refine ⟨v, hrun, fun u hu => ?_⟩
  have h2 := (hM a).2 u hu (.held (.slice none 0 0))
  rw [h2] at hv
  unfold heldR at hv
  injection hv with hv
  injection hv with hv _
  injection hv with hv

theorem lit_ne {a b : Int} (h : a ≠ b) : (Lit.int .i64 a) ≠ .int .i64 b := fun e => by injection e with _ e; exact h e

theorem KMap.drop {w : World} {gM n : Nat} {M : Int → Option Value} (h : KMap w gM n M) (a : Int) (ha : -9223372036854775808 ≤ a ∧ a ≤ 9223372036854775807) :
    ∃ w', (∀ ty, (Builtin.delete_ #[106, 3] ty #[.map (some gM), .int .i64 a]).run Try.prog w = .ok (.tuple #[]) w') ∧ KMap w' gM n (fun x => if x = a then none else M x) ∧ w.grownBy w' (some gM) := by
  obtain ⟨D, hD, hM⟩ := h
  obtain ⟨w', hrun, hown, hturn⟩ := hD.drop law_int und_map (Maps.keyOf_int_mk Try.underlying3 (fits_i64 ha)) 0
  refine ⟨w', fun ty => hrun, ⟨D.del (.int .i64 a), hown, fun x => ?_⟩, hturn.grown⟩
  by_cases hx : x = a
  · subst hx
    simp only [if_pos]
    exact ⟨Maps.has_del_same, fun v hv => by cases hv⟩
  · simp only [if_neg hx]
    refine ⟨by rw [Maps.has_del_other (lit_ne hx)]; exact (hM x).1, fun v hv z => ?_⟩
    rw [Maps.atKey_del_other (lit_ne hx)]
    exact (hM x).2 v hv z

set_option maxRecDepth 20000 in
theorem KMap.put {w : World} {gM n : Nat} {M : Int → Option Value} (h : KMap w gM n M) (hn : n < maxLen) (a : Int) (ha : -9223372036854775808 ≤ a ∧ a ≤ 9223372036854775807) (v : Value) :
    ∃ w', (Instr.mapUpdate 106 (.map (some gM)) (.int .i64 a) v).run Try.prog w = .ok () w' ∧ KMap w' gM (n + 1) (fun x => if x = a then some v else M x) ∧ w.grownBy w' (some gM) := by
  obtain ⟨D, hD, hM⟩ := h
  have hkey := Maps.keyOf_int_mk Try.underlying3 (fits_i64 ha)
  obtain ⟨w', hrun, hown, hturn⟩ := hD.store law_int und_map hn hkey (val := v) (d := .held v) (ps := []) rfl
  refine ⟨w', hrun, ⟨D.put (.int .i64 a) (.held v), hown, fun x => ?_⟩, hturn.grown⟩
  by_cases hx : x = a
  · subst hx
    simp only [if_pos]
    refine ⟨Maps.has_put_same hD.isMap (law_int.key hkey) _, fun u hu z => ?_⟩
    injection hu with hu
    subst hu
    exact Maps.atKey_put_same hD.isMap (law_int.key hkey) _ _
  · simp only [if_neg hx]
    refine ⟨by rw [Maps.has_put_other (lit_ne hx)]; exact (hM x).1, fun u hu z => ?_⟩
    rw [Maps.atKey_put_other (lit_ne hx)]
    exact (hM x).2 u hu z

theorem KMap.clear {w : World} {gM n : Nat} {M : Int → Option Value} (h : KMap w gM n M) :
    ∃ w', (∀ ty, (Builtin.clear_ #[106] ty #[.map (some gM)]).run Try.prog w = .ok (.tuple #[]) w') ∧ KMap w' gM 0 (fun _ => none) ∧ w.grownBy w' (some gM) := by
  obtain ⟨D, ⟨es, clock, hb, F, hs, e⟩, hM⟩ := h
  refine ⟨setBlock w gM (.map #[] clock), fun ty => ?_, ⟨.map [], ⟨#[], clock, heap_setBlock_same hb _, ⟨by simp, stamped_empty clock, by simp⟩, Nat.le_refl _, rfl⟩, fun a => ⟨rfl, fun v hv => by cases hv⟩⟩, ?_⟩
  · simp [Builtin.clear_, run_underlying und_map, Go.MapKept.run_getObj_map hb, Go.MapKept.run_setObj_map _ hb, Result.andThen, setBlock]
  · exact ⟨rfl, rfl, rfl, by simp [setBlock], fun i _ hi => heap_setBlock_other hb _ (fun e => hi (by rw [e]))⟩
end Go.Proofs.Ytncmgnmcggkhnaa

namespace Go.Proofs.Ytncmgnmcggkhnaa
open Go.RowKit

/-- what is known of the frames of a stream that a reader was made of -/
structure FrOk (h : Head) (chs : List (List Int)) (l : List Fr) : Prop where
  ok : headOk h = true
  ch1 : 1 ≤ h.channels
  ch : chs.length = h.channels
  total : ∀ j, j < h.channels → (chs.getD j []).length = h.total
  num : ∀ i, i < l.length ↔ i * h.block < h.total
  frame : ∀ i, i < l.length → pFrame h i (l.getD i ([], [])).1 = some ((l.getD i ([], [])).2, [])
  small : ∀ i, i < l.length → (l.getD i ([], [])).1.length ≤ 6000
  part : ∀ i, i < l.length → ∀ j, j < h.channels → (l.getD i ([], [])).2.getD j [] = ((chs.getD j []).drop (i * h.block)).take h.block

/-- lists of one length, the last of them maybe shorter -/
theorem flat_parts (B : Nat) (hB : 1 ≤ B) : ∀ (L : List (List Int)), (∀ i, i + 1 < L.length → (L.getD i []).length = B) → (∀ i, i < L.length → 1 ≤ (L.getD i []).length ∧ (L.getD i []).length ≤ B) →
    (∀ i, i < L.length → (L.flatten.drop (i * B)).take B = L.getD i []) ∧ ∀ i, i < L.length ↔ i * B < L.flatten.length
  | [], _, _ => ⟨fun i hi => by simp at hi, fun i => by simp⟩
  | x :: L, h1, h2 => by
    have hx := h2 0 (by simp)
    have hx0 : 1 ≤ x.length ∧ x.length ≤ B := hx
    obtain ⟨ih1, ih2⟩ := flat_parts B hB L (fun i hi => h1 (i + 1) (by simpa using hi)) (fun i hi => h2 (i + 1) (by simpa using hi))
    by_cases hL : L = []
    · subst hL
      refine ⟨fun i hi => ?_, fun i => ?_⟩
      · obtain rfl : i = 0 := by simpa using hi
        simp only [Nat.zero_mul, List.drop_zero, List.flatten_cons, List.flatten_nil, List.append_nil, List.getD_cons_zero]
        exact List.take_of_length_le hx0.2
      · simp only [List.length_singleton, List.flatten_cons, List.flatten_nil, List.append_nil]
        cases i with
        | zero => simp; omega
        | succ i => rw [Nat.succ_mul]; have := Nat.zero_le (i * B); omega
    · have hpos : 0 < L.length := List.length_pos_iff.mpr hL
      have hxB : x.length = B := h1 0 (by simp; omega)
      refine ⟨fun i hi => ?_, fun i => ?_⟩
      · cases i with
        | zero =>
          simp only [Nat.zero_mul, List.drop_zero, List.flatten_cons, List.getD_cons_zero]
          rw [List.take_append_of_le_length (by omega), List.take_of_length_le (by omega)]
        | succ i =>
          rw [List.getD_cons_succ, ← ih1 i (by simpa using hi), List.flatten_cons, Nat.succ_mul, Nat.add_comm, ← hxB, List.drop_append, List.drop_of_length_le (by omega), Nat.add_sub_cancel_left, List.nil_append]
      · rw [List.flatten_cons, List.length_append, List.length_cons]
        cases i with
        | zero => simp; omega
        | succ i => rw [Nat.succ_mul]; have := ih2 i; omega

theorem snoc_ind {α : Type} {P : List α → Prop} (h0 : P []) (h1 : ∀ l a, P l → P (l ++ [a])) (l : List α) : P l := by
  have h2 : ∀ m : List α, P m.reverse := by
    intro m
    induction m with
    | nil => exact h0
    | cons a m ih => rw [List.reverse_cons]; exact h1 _ _ ih
  have h3 := h2 l.reverse
  rwa [List.reverse_reverse] at h3

theorem joined_len (c : Nat) : ∀ (l : List Fr), (∀ p ∈ l, p.2.length = c) → (joined c l).length = c := by
  refine snoc_ind ?_ ?_
  · intro _; simp [joined]
  · intro l p ih h
    rw [joined_snoc, List.length_zipWith, ih (fun q hq => h q (List.mem_append_left _ hq)), h p (by simp)]
    omega

theorem joined_get (c : Nat) : ∀ (l : List Fr), (∀ p ∈ l, p.2.length = c) → ∀ j, j < c → (joined c l).getD j [] = (l.map (fun p => p.2.getD j [])).flatten := by
  refine snoc_ind ?_ ?_
  · intro _ j hj; simp [joined, List.getD, hj]
  · intro l p ih h j hj
    have hl := joined_len c l (fun q hq => h q (List.mem_append_left _ hq))
    rw [joined_snoc, zip_append_get _ _ c hl (h p (by simp)) j hj, ih (fun q hq => h q (List.mem_append_left _ hq)) j hj]
    simp

theorem getD_of_get {α : Type} (l : List α) (i : Nat) (d : α) (hi : i < l.length) : l[i]? = some (l.getD i d) := by
  simp [List.getD, hi]

theorem fr_ok {h : Head} {l : List Fr} {D : List UInt8} {ended : Bool} (hok : headOk h = true) (hc1 : 1 ≤ h.channels) (hf : Fls h D l D.length ended) (ht : ((joined h.channels l).headD []).length = h.total) (hD : D.length ≤ 6000) : FrOk h (joined h.channels l) l := by
  obtain ⟨b1, b2, b3, b4, b5, b6, b7, b8⟩ := headOk_parts hok
  have hfr : ∀ i, i < l.length → ∃ rest, pFrame h i ((l.getD i ([], [])).1 ++ rest) = some ((l.getD i ([], [])).2, rest) := fun i hi => hf.each i _ (getD_of_get l i _ hi)
  have hcl : ∀ p ∈ l, p.2.length = h.channels := by
    intro p hp
    obtain ⟨i, hi, rfl⟩ := List.getElem_of_mem hp
    obtain ⟨rest, e⟩ := hf.each i _ (List.getElem?_eq_getElem hi)
    exact (pFrame_spec e).1
  have hpl : ∀ i, i < l.length → ∀ j, j < h.channels → 1 ≤ ((l.getD i ([], [])).2.getD j []).length ∧ ((l.getD i ([], [])).2.getD j []).length ≤ h.block := by
    intro i hi j hj
    obtain ⟨rest, e⟩ := hfr i hi
    obtain ⟨_, n, k, h1, h2, h3, _⟩ := pFrame_spec e
    rw [h3 j hj]
    exact ⟨h1, h2⟩
  have hsame : ∀ i, i < l.length → ∀ j, j < h.channels → ((l.getD i ([], [])).2.getD j []).length = ((l.getD i ([], [])).2.getD 0 []).length := by
    intro i hi j hj
    obtain ⟨rest, e⟩ := hfr i hi
    obtain ⟨_, n, k, h1, h2, h3, _⟩ := pFrame_spec e
    rw [h3 j hj, h3 0 (by omega)]
  have hmap : ∀ j i, i < l.length → (l.map (fun p => p.2.getD j [])).getD i [] = (l.getD i ([], [])).2.getD j [] := by
    intro j i hi
    simp [List.getD, hi]
  have hparts := fun j (hj : j < h.channels) => flat_parts h.block (by omega) (l.map (fun p => p.2.getD j [])) (fun i hi => by
      rw [List.length_map] at hi
      rw [hmap j i (by omega)]
      exact hf.full i _ (getD_of_get l i _ (by omega)) (.inl hi) j hj) (fun i hi => by
      rw [List.length_map] at hi
      rw [hmap j i hi]
      exact hpl i hi j hj)
  have htot : ∀ j, j < h.channels → ((joined h.channels l).getD j []).length = h.total := by
    intro j hj
    rw [headD_getD] at ht
    rw [← ht, joined_get _ l hcl j hj, joined_get _ l hcl 0 (by omega), List.length_flatten, List.length_flatten, List.map_map, List.map_map]
    congr 1
    refine List.map_congr_left (fun p hp => ?_)
    obtain ⟨i, hi, rfl⟩ := List.getElem_of_mem hp
    have := hsame i hi j hj
    simp only [List.getD, List.getElem?_eq_getElem hi, Option.getD_some] at this
    simpa [List.getD] using this
  refine ⟨hok, hc1, joined_len _ l hcl, htot, fun i => ?_, fun i hi => ?_, fun i hi => ?_, fun i hi j hj => ?_⟩
  · have h1 := (hparts 0 (by omega)).2 i
    rw [List.length_map, ← joined_get _ l hcl 0 (by omega), htot 0 (by omega)] at h1
    exact h1
  · obtain ⟨rest, e⟩ := hfr i hi
    obtain ⟨part, hp1, _, hp2⟩ := pFrame_local e
    have : part = (l.getD i ([], [])).1 := by
      have := List.append_cancel_right hp1
      exact this.symm
    rw [this] at hp2
    have h9 := hp2 []
    rw [List.append_nil] at h9
    exact h9
  · have h1 : ((l.getD i ([], [])).1).length ≤ ((l.map (·.1)).flatten).length := by
      have hm : (l.getD i ([], [])).1 ∈ l.map (·.1) := List.mem_map.2 ⟨l.getD i ([], []), by simp [List.getD, hi], rfl⟩
      exact (List.sublist_flatten_of_mem hm).length_le
    rw [hf.bytes, List.take_length] at h1
    omega
  · rw [joined_get _ l hcl j hj, (hparts j hj).1 i (by rw [List.length_map]; exact hi), hmap j i hi]
end Go.Proofs.Ytncmgnmcggkhnaa

namespace Go.Proofs.Ytncmgnmcggkhnaa
open Go.RowKit

/-- a reader in memory: `M`: what it keeps, in blocks of `KB` -/
structure Rdr (w : World) (gB gM : Nat) (h : Head) (l : List Fr) (pv : Value) (pos nM : Nat) (M : Int → Option Value) (KB : Nat → Prop) : Prop where
  box : Box w gB (readerC h pv pos gM) 108
  row : w.ownsRow (gB + 1) 9 1 pv l.length (l.map fun p => strV p.1)
  lt : gM < gB
  map : KMap w gM nM M
  kept : ∀ a v, M a = some v → ∃ i : Nat, a = (i : Int) ∧ i < l.length ∧ Views w KB v (l.getD i ([], [])).2
  kb : ∀ b, KB b → gB < b ∧ b < w.heap.size

/-- which blocks are a reader's -/
def rdrB (gB gM : Nat) (pv : Value) (KB : Nat → Prop) (b : Nat) : Prop := b = gB ∨ b = gM ∨ pv.ownBlock = some b ∨ KB b

theorem Rdr.kp {w w' : World} {gB gM : Nat} {h : Head} {l : List Fr} {pv : Value} {pos nM : Nat} {M : Int → Option Value} {KB S : Nat → Prop} (hr : Rdr w gB gM h l pv pos nM M KB) (hk : Kp w w' S) (hn : ∀ b, rdrB gB gM pv KB b → ¬ S b) : Rdr w' gB gM h l pv pos nM M KB :=
  ⟨hr.box.kp hk (hn gB (.inl rfl)), ownsRow_kp hr.row hk (fun q hq => hn q (.inr (.inr (.inl hq)))), hr.lt, hr.map.kp hk (hn gM (.inr (.inl rfl))),
    fun a v hv => by obtain ⟨i, h1, h2, h3⟩ := hr.kept a v hv; exact ⟨i, h1, h2, h3.kp hk (fun q hq => hn q (.inr (.inr (.inr hq))))⟩,
    fun b hb => ⟨(hr.kb b hb).1, Nat.lt_of_lt_of_le (hr.kb b hb).2 hk.size⟩⟩

theorem Rdr.blt {w : World} {gB gM : Nat} {h : Head} {l : List Fr} {pv : Value} {pos nM : Nat} {M : Int → Option Value} {KB : Nat → Prop} (hr : Rdr w gB gM h l pv pos nM M KB) : ∀ b, rdrB gB gM pv KB b → b < w.heap.size := by
  intro b hb
  rcases hb with rfl | rfl | hq | hb
  · exact hr.box.lt
  · exact hr.map.lt
  · exact (World.ownsRow.lt hr.row b hq).2
  · exact (hr.kb b hb).2

/-- the part's block is no other one of the reader's -/
theorem Rdr.pvlt {w : World} {gB gM : Nat} {h : Head} {l : List Fr} {pv : Value} {pos nM : Nat} {M : Int → Option Value} {KB : Nat → Prop} (hr : Rdr w gB gM h l pv pos nM M KB) : ∀ b, pv.ownBlock = some b → gB < b := fun b hq => (World.ownsRow.lt hr.row b hq).1

theorem Views.more {w : World} {D D' : Nat → Prop} {v : Value} {ls : List (List Int)} (h : Views w D v ls) (hd : ∀ b, D b → D' b) : Views w D' v ls := by
  obtain ⟨lg, lcap, h1, h2, h3, h4, h5⟩ := h
  exact ⟨lg, lcap, h1, h2, hd _ h3, h4, fun i hi => by obtain ⟨g, off, cap, q1, q⟩ := h5 i hi; exact ⟨g, off, cap, hd _ q1, q⟩⟩

/-- what is kept has changed: what is left of it, and maybe one more -/
theorem Rdr.turn {w w' : World} {gB gM : Nat} {h : Head} {l : List Fr} {pv : Value} {pos nM nM' : Nat} {M M' : Int → Option Value} {KB : Nat → Prop} (hr : Rdr w gB gM h l pv pos nM M KB) (hg : w.grownBy w' (some gM)) (hm : KMap w' gM nM' M') (hs : ∀ a v, M' a = some v → M a = some v) : Rdr w' gB gM h l pv pos nM' M' KB := by
  have hk := Kp.of hg
  have hlt := hr.lt
  refine ⟨hr.box.kept hg (by simp; omega), ownsRow_kp hr.row hk (fun q hq e => by have := hr.pvlt q hq; injection e with e; omega), hr.lt, hm, fun a v hv => ?_, fun b hb => ⟨(hr.kb b hb).1, Nat.lt_of_lt_of_le (hr.kb b hb).2 hg.size⟩⟩
  obtain ⟨i, h1, h2, h3⟩ := hr.kept a v (hs a v hv)
  exact ⟨i, h1, h2, h3.kp hk (fun q hq e => by have := (hr.kb q hq).1; injection e with e; omega)⟩

/-- one frame more is kept -/
theorem Rdr.keep {w w1 w' : World} {gB gM : Nat} {h : Head} {l : List Fr} {pv : Value} {pos nM nM' : Nat} {M : Int → Option Value} {KB : Nat → Prop} {i : Nat} {v : Value} (hr : Rdr w gB gM h l pv pos nM M KB) (hg1 : w.grownBy w1 none) (hg : w1.grownBy w' (some gM))
    (hm : KMap w' gM nM' (fun x => if x = (i : Int) then some v else M x)) (hi : i < l.length) (hv : Views w1 (fun q => w.heap.size ≤ q ∧ q < w1.heap.size) v (l.getD i ([], [])).2) :
    Rdr w' gB gM h l pv pos nM' (fun x => if x = (i : Int) then some v else M x) (fun b => KB b ∨ (w.heap.size ≤ b ∧ b < w'.heap.size)) ∧ Views w' (fun b => KB b ∨ (w.heap.size ≤ b ∧ b < w'.heap.size)) v (l.getD i ([], [])).2 := by
  have hlt := hr.lt
  have hbl := hr.box.lt
  have h1 : Rdr w1 gB gM h l pv pos nM M KB := hr.kp (Kp.ofNone (S := fun _ => False) hg1) (fun _ _ e => e)
  have hk := Kp.of hg
  have hv2 : Views w' (fun q => w.heap.size ≤ q ∧ q < w1.heap.size) v (l.getD i ([], [])).2 := hv.kp hk (fun q hq e => by injection e with e; omega)
  have hv3 : Views w' (fun b => KB b ∨ (w.heap.size ≤ b ∧ b < w'.heap.size)) v (l.getD i ([], [])).2 := hv2.more (fun b hb => .inr ⟨hb.1, Nat.lt_of_lt_of_le hb.2 hg.size⟩)
  refine ⟨⟨h1.box.kept hg (by simp; omega), ownsRow_kp h1.row hk (fun q hq e => by have := h1.pvlt q hq; injection e with e; omega), hr.lt, hm, fun a u hu => ?_, fun b hb => ?_⟩, hv3⟩
  · by_cases ha : a = (i : Int)
    · simp only [if_pos ha] at hu
      injection hu with hu
      subst hu
      exact ⟨i, ha, hi, hv3⟩
    · simp only [if_neg ha] at hu
      obtain ⟨k, q1, q2, q3⟩ := h1.kept a u hu
      exact ⟨k, q1, q2, (q3.kp hk (fun q hq e => by have := (hr.kb q hq).1; injection e with e; omega)).more (fun b hb => .inl hb)⟩
  · rcases hb with hb | hb
    · exact ⟨(hr.kb b hb).1, Nat.lt_of_lt_of_le (Nat.lt_of_lt_of_le (hr.kb b hb).2 hg1.size) hg.size⟩
    · exact ⟨by omega, hb.2⟩

/-- the reader is elsewhere -/
theorem Rdr.move {w : World} {gB gM : Nat} {h : Head} {l : List Fr} {pv : Value} {pos nM : Nat} {M : Int → Option Value} {KB : Nat → Prop} (hr : Rdr w gB gM h l pv pos nM M KB) (pos' : Nat) : Rdr (w.setCell ⟨gB, 6, none⟩ (.int .i64 pos')) gB gM h l pv pos' nM M KB := by
  have hlt := hr.lt
  have hg := grown_set w gB 6 (.int .i64 pos')
  have hk := Kp.of hg
  refine ⟨hr.box.set 6 (.int .i64 pos'), ownsRow_kp hr.row hk (fun q hq e => by have := hr.pvlt q hq; injection e with e; omega), hr.lt, hr.map.kp hk (fun e => by injection e with e; omega), fun a v hv => ?_, fun b hb => ⟨(hr.kb b hb).1, Nat.lt_of_lt_of_le (hr.kb b hb).2 hg.size⟩⟩
  obtain ⟨i, h1, h2, h3⟩ := hr.kept a v hv
  exact ⟨i, h1, h2, h3.kp hk (fun q hq e => by have := (hr.kb q hq).1; injection e with e; omega)⟩

theorem row_down {w : World} {base base' : Nat} {e : TypeId} {size : Nat} {v : Value} {n : Nat} {xs : List Value} (h : w.ownsRow base e size v n xs) (hb : base' ≤ base) : w.ownsRow base' e size v n xs := by
  refine ⟨h.1, ?_⟩
  rcases h.2 with h2 | ⟨g, cap, cur, hv, hg, r⟩
  · exact .inl h2
  · exact .inr ⟨g, cap, cur, hv, by omega, r⟩

/-- as Open makes it -/
theorem RdrNew.rdr {w : World} {base gB rate bits : Nat} {chs : List (List Int)} (hn : RdrNew w base gB rate bits chs) :
    ∃ (h : Head) (l : List Fr) (pv : Value) (gM : Nat), h.rate = rate ∧ h.bits = bits ∧ FrOk h chs l ∧ base ≤ gM ∧ (∀ b, pv.ownBlock = some b → base ≤ b) ∧ Rdr w gB gM h l pv 0 0 (fun _ => none) (fun _ => False) := by
  obtain ⟨h, l, pv, gM, D, ended, h1, h2, h3, h4, h5, h6, h7, h8, h9, h10, h11, h12, b2, h13, h14⟩ := hn
  have hrow : w.ownsRow (gB + 1) 9 1 pv l.length (l.map fun p => strV p.1) := row_down h14 (by omega)
  refine ⟨h, l, pv, gM, h1, h2, ?_, h9, fun b hq => ?_, ⟨h11, hrow, h10, KMap.new w gM h12, (fun a v hv => by cases hv), fun b hb => hb.elim⟩⟩
  · rw [← h3]
    rw [← h3] at h7
    exact fr_ok h5 h6 h4 h7 h8
  · have := (World.ownsRow.lt hrow b hq).1
    omega
end Go.Proofs.Ytncmgnmcggkhnaa

namespace Go.Proofs.Ytncmgnmcggkhnaa
open Go.RowKit

theorem grown_some3 {w w' : World} {g : Nat} (h : w.grownBy w' none) : w.grownBy w' (some g) := ⟨h.os, h.tape, h.output, h.size, fun i hi _ => h.block i hi (by simp)⟩

/-- what a reader's frame leaves -/
def FrPost (w : World) (gB gM : Nat) (h : Head) (l : List Fr) (pv : Value) (pos nM : Nat) (KB : Nat → Prop) (i : Nat) (e : Ending) (w' : World) : Prop :=
  ∃ v M' KB', e = .returned v ∧ w.grownBy w' (some gM) ∧ Rdr w' gB gM h l pv pos (nM + 1) M' KB' ∧ (∀ b, KB' b → KB b ∨ w.heap.size ≤ b) ∧ Views w' KB' v (l.getD i ([], [])).2

/-- what the reading of a frame that is right leaves -/
def FrRead (w : World) (cs : List (List Int)) (e : Ending) (w' : World) : Prop :=
  ∃ (size cnt lg ln lcap : Nat), e = .returned (.tuple #[.agg #[.int .i64 size, .int .i64 cnt, .slice (some ⟨lg, 0, none⟩) ln lcap], .bool true]) ∧ w.grownBy w' none ∧ Views w' (fun q => w.heap.size ≤ q ∧ q < w'.heap.size) (.slice (some ⟨lg, 0, none⟩) ln lcap) cs

def RelF (w2 : World) (cs : List (List Int)) (s9 s10 : Value) (wx : World) : Prop :=
  ∃ (gF size cnt lg ln lcap : Nat), s9 = .pointer (some ⟨gF, 0, none⟩) ∧ s10 = .bool true ∧ Box wx gF #[.int .i64 size, .int .i64 cnt, .slice (some ⟨lg, 0, none⟩) ln lcap] 115 ∧ w2.heap.size ≤ gF ∧ w2.grownBy wx none ∧ Views wx (fun q => w2.heap.size ≤ q ∧ q < wx.heap.size) (.slice (some ⟨lg, 0, none⟩) ln lcap) cs

theorem rel_new {w2 w3 wx : World} {cs : List (List Int)} {size cnt lg ln lcap : Nat} (hg : w2.grownBy w3 none) (hb : w2.heap.size ≤ wx.heap.size) (hview : Views w3 (fun q => wx.heap.size ≤ q ∧ q < w3.heap.size) (.slice (some ⟨lg, 0, none⟩) ln lcap) cs) :
    RelF w2 cs (.pointer (some ⟨w3.heap.size, 0, none⟩)) (.bool true) (w3.alloc (.cells #[.int .i64 size, .int .i64 cnt, .slice (some ⟨lg, 0, none⟩) ln lcap] 115)) :=
  ⟨w3.heap.size, size, cnt, lg, ln, lcap, rfl, rfl, Box.new _ _ _, hg.size, grown_alloc hg _, (hview.kp (Kp.ofNone (S := fun _ => False) (grown_alloc (grown_refl w3 none) _)) (fun _ _ e => e)).more (fun b hb' => ⟨by omega, Nat.lt_of_lt_of_le hb'.2 (by simp)⟩)⟩

theorem rel_set {w2 w3 wx : World} {cs : List (List Int)} {size cnt lg ln lcap : Nat} {a b c : Value} (hbx : Box w3 w2.heap.size #[a, b, c] 115) (hg : w2.grownBy w3 none) (hb : w2.heap.size < wx.heap.size) (hview : Views w3 (fun q => wx.heap.size ≤ q ∧ q < w3.heap.size) (.slice (some ⟨lg, 0, none⟩) ln lcap) cs) :
    RelF w2 cs (.pointer (some ⟨w2.heap.size, 0, none⟩)) (.bool true) (((w3.setCell ⟨w2.heap.size, 0, none⟩ (.int .i64 size)).setCell ⟨w2.heap.size, 1, none⟩ (.int .i64 cnt)).setCell ⟨w2.heap.size, 2, none⟩ (.slice (some ⟨lg, 0, none⟩) ln lcap)) := by
  have hset : ∀ (w : World) (x y z : Value), Box w w2.heap.size #[x, y, z] 115 → ∀ p q r : Value, Box (((w.setCell ⟨w2.heap.size, 0, none⟩ p).setCell ⟨w2.heap.size, 1, none⟩ q).setCell ⟨w2.heap.size, 2, none⟩ r) w2.heap.size #[p, q, r] 115 := fun w x y z hw p q r => ((hw.set 0 p).set 1 q).set 2 r
  have hgs : w3.grownBy (((w3.setCell ⟨w2.heap.size, 0, none⟩ (.int .i64 size)).setCell ⟨w2.heap.size, 1, none⟩ (.int .i64 cnt)).setCell ⟨w2.heap.size, 2, none⟩ (.slice (some ⟨lg, 0, none⟩) ln lcap)) (some w2.heap.size) := grown_trans (grown_trans (grown_set _ _ _ _) (grown_set _ _ _ _)) (grown_set _ _ _ _)
  refine ⟨w2.heap.size, size, cnt, lg, ln, lcap, rfl, rfl, hset _ _ _ _ hbx _ _ _, Nat.le_refl _, grown_new hg hgs (fun q e => by injection e with e; omega), (hview.kp (Kp.of hgs) (fun q hq e => by injection e with e; omega)).more (fun b hb' => ⟨by omega, Nat.lt_of_lt_of_le hb'.2 hgs.size⟩)⟩

set_option maxHeartbeats 4000000 in
set_option maxRecDepth 20000 in
theorem qframeof (w : World) (gB gM : Nat) (h : Head) (chs : List (List Int)) (l : List Fr) (pv : Value) (pos nM : Nat) (M : Int → Option Value) (KB : Nat → Prop) (i : Nat) (hr : Rdr w gB gM h l pv pos nM M KB) (hf : FrOk h chs l) (hi : i < l.length) (hl : l.length ≤ 6000) (hn : nM + 1 ≤ 9223372036854775807) :
    Calls Try.prog 59 #[.pointer (some ⟨gB, 0, none⟩), .int .i64 i] w (FrPost w gB gM h l pv pos nM KB i) := by
  obtain ⟨b1, b2, b3, b4, b5, b6, b7, b8⟩ := headOk_parts hf.ok
  have c7 : w.cell? ⟨gB, 7, none⟩ = some (.map (some gM)) := hr.box.cell 7
  obtain ⟨v0, hk0, hv0⟩ := hr.map.look i (by omega)
  cases hMi : M i with
  | some u =>
    rw [hMi] at hk0
    obtain rfl : v0 = u := hv0 u hMi
    obtain ⟨i', q1, q2, q3⟩ := hr.kept i v0 hMi
    obtain rfl : i = i' := by omega
    have hpost : FrPost w gB gM h l pv pos nM KB i (.returned v0) w := by
      refine ⟨v0, M, KB, rfl, grown_refl _ _, ⟨hr.box, hr.row, hr.lt, hr.map.more (by omega), hr.kept, hr.kb⟩, fun b hb => .inl hb, q3⟩
    clear hv0 hMi q3 hr
    go_enter Try.func59, Try.ntmps59
    go_wp2
    exact bodyPost_ret (v := v0) (by simp [results, Try.results59, go_sem]) rfl hpost
  | none =>
    rw [hMi] at hk0
    obtain ⟨v1, hk1, _⟩ := hr.map.look ((i : Int) - 1) (by omega)
    obtain ⟨ok1, hok1⟩ : ∃ ok1, (M ((i : Int) - 1)).isSome = ok1 := ⟨_, rfl⟩
    rw [hok1] at hk1
    clear hok1
    obtain ⟨wc0, hcl, hmc, hgc⟩ := hr.map.clear
    have HMC : Hid (KMap wc0 gM 0 (fun _ => none)) := hmc
    have HGC : Hid (w.grownBy wc0 (some gM)) := hgc
    have HR : Hid (Rdr w gB gM h l pv pos nM M KB) := hr
    clear hmc hgc hv0 hMi hr
    have hiz : IntKind.i64.wrap ((i : Int) - 1) = (i : Int) - 1 := by rw [IntKind.wrap_i64]; omega
    go_enter Try.func59, Try.ntmps59
    go_upto_region 4 with fail
    go_upto_if 33 with fail
    go_cut [] (fun wx => ∃ n' M', n' ≤ nM ∧ w.grownBy wx (some gM) ∧ Rdr wx gB gM h l pv pos n' M' KB)
    case first =>
      cases ok1 with
      | true =>
        go_wp2
        go_meet
        case rel => exact ⟨nM, M, Nat.le_refl _, grown_refl _ _, HR.out⟩
      | false =>
        go_wp2
        go_meet
        case rel => exact ⟨0, _, Nat.zero_le _, HGC.out, HR.out.turn HGC.out HMC.out (fun a v e => by cases e)⟩
    case rest =>
    clear hk0 hk1 hcl HMC HGC c7 HR
    obtain ⟨n1, M1, hn1, hg1, hr1⟩ := hcut
    have c7 : wc.cell? ⟨gB, 7, none⟩ = some (.map (some gM)) := hr1.box.cell 7
    obtain ⟨w2, hdr, hm2, hg2⟩ := hr1.map.drop ((i : Int) - 4) (by omega)
    have hr2 := hr1.turn hg2 hm2 (fun a v e => by by_cases ha : a = (i : Int) - 4; simp only [if_pos ha] at e; cases e; simp only [if_neg ha] at e; exact e)
    have hgg2 := grown_trans hg1 hg2
    obtain ⟨M2, hM2⟩ : ∃ M2, (fun x => if x = (i : Int) - 4 then none else M1 x) = M2 := ⟨_, rfl⟩
    rw [hM2] at hr2
    have HG2 : Hid (w.grownBy w2 (some gM)) := hgg2
    have HR2 : Hid (Rdr w2 gB gM h l pv pos n1 M2 KB) := hr2
    clear hr1 hm2 hg1 hg2 hM2 hr2 hgg2 hiz
    go_upto_region 8 with fail
    have hrow := HR2.out.row
    obtain ⟨gp, cp, hpv, hgp, _⟩ := World.ownsRow.form hrow (by omega)
    subst hpv
    have hcp := World.ownsRow.cellAt hrow i (by omega)
    obtain ⟨part, hpart⟩ : ∃ part : ByteArray, (⟨(l.getD i ([], [])).1.toArray⟩ : ByteArray) = part := ⟨_, rfl⟩
    have hcp2 : w2.cell? ⟨gp, i, none⟩ = some (.string part) := by
      rw [← hpart]
      rw [hcp, List.getElem?_map, getD_of_get l i ([], []) hi]
      rfl
    have hpd : part.data.toList = (l.getD i ([], [])).1 := by rw [← hpart]
    have hps : part.size ≤ 6000 := by rw [← dlen, hpd]; exact hf.small i hi
    have hfr : pFrame h i part.data.toList = some ((l.getD i ([], [])).2, []) := by rw [hpd]; exact hf.frame i hi
    have HRD : ∀ wx, Calls Try.prog 62 #[.string part, .agg (headC h), .int .i64 i] wx (FrRead wx (l.getD i ([], [])).2) := by
      intro wx
      refine (qreadframe wx part h i hps hf.ch1 b5 b6 b7 b2).mono ?_
      rintro e w3 ⟨hg3, size, cnt, v, ok, rfl, hcase⟩
      rcases hcase with ⟨rfl, cs, cvs, hp, _, hsubs, hcn⟩ | ⟨_, _, _, hp⟩
      · rw [hfr] at hp
        injection hp with hp
        injection hp with hp _
        subst hp
        obtain ⟨h1, n, k, h2, _, h3, _⟩ := pFrame_spec hfr
        have hview := hsubs.views (by rw [h1]; exact hf.ch1) (fun j hj => by rw [h3 j (by rw [← h1]; exact hj)]; exact h2)
        obtain ⟨lg, lcap, hv, _⟩ := id hview
        subst hv
        exact ⟨size, cnt, lg, _, lcap, rfl, hg3, hview⟩
      · rw [hfr] at hp; cases hp
    unfold headC at HRD
    have hbox := HR2.out.box
    have d0 : w2.cell? ⟨gB, 0, none⟩ = some (.int .i64 h.block) := hbox.cell 0
    have d1 : w2.cell? ⟨gB, 1, none⟩ = some (.int .i64 h.rate) := hbox.cell 1
    have d2 : w2.cell? ⟨gB, 2, none⟩ = some (.int .i64 h.channels) := hbox.cell 2
    have d3 : w2.cell? ⟨gB, 3, none⟩ = some (.int .i64 h.bits) := hbox.cell 3
    have d4 : w2.cell? ⟨gB, 4, none⟩ = some (.int .i64 h.total) := hbox.cell 4
    have d5 : w2.cell? ⟨gB, 5, none⟩ = some (.slice (some ⟨gp, 0, none⟩) l.length cp) := hbox.cell 5
    have hil : (i : Int) < (l.length : Int) := by omega
    obtain ⟨ZF, hZF⟩ : ∃ ZF, (Obj.cells #[.int .i64 0, .int .i64 0, .slice none 0 0] 115) = ZF := ⟨_, rfl⟩
    have hgz : w2.grownBy (w2.alloc ZF) none := grown_alloc (grown_refl _ _) _
    have g0 := hgz.cell d0 (by simp)
    have g1 := hgz.cell d1 (by simp)
    have g2 := hgz.cell d2 (by simp)
    have g3 := hgz.cell d3 (by simp)
    have g4 := hgz.cell d4 (by simp)
    have g5 := hgz.cell d5 (by simp)
    have g6 := hgz.cell hcp2 (by simp)
    rw [← hZF] at g0 g1 g2 g3 g4 g5 g6
    have HBZ : Hid (∀ w3, (w2.alloc (Obj.cells #[.int .i64 0, .int .i64 0, .slice none 0 0] 115)).drew.grownBy w3 none → Box w3 w2.heap.size #[.int .i64 0, .int .i64 0, .slice none 0 0] 115) := by
      intro w3 hg3
      exact (show Box (w2.alloc (Obj.cells #[.int .i64 0, .int .i64 0, .slice none 0 0] 115)).drew w2.heap.size _ _ from Box.new w2 _ _).kept hg3 (by simp)
    clear hgz hZF
    clear hrow hcp hpart hpd hbox hdr c7 hfr hps
    go_cut [9, 10] (fun s9 s10 wx => RelF w2 (l.getD i ([], [])).2 s9 s10 wx)
    case first =>
      go_region_with (first
        | (go_at_call 62; refine (HRD (w2.alloc (Obj.cells #[.int .i64 0, .int .i64 0, .slice none 0 0] 115)).drew).mono ?_; rintro e w3 ⟨size, cnt, lg, ln, lcap, rfl, hg3, hview⟩; have HB3 : Hid (Box w3 w2.heap.size #[.int .i64 0, .int .i64 0, .slice none 0 0] 115) := HBZ.out w3 hg3; have z0 : w3.cell? ⟨w2.heap.size, 0, none⟩ = some (.int .i64 0) := HB3.out.cell 0; have z1 : w3.cell? ⟨w2.heap.size, 1, none⟩ = some (.int .i64 0) := HB3.out.cell 1; have z2 : w3.cell? ⟨w2.heap.size, 2, none⟩ = some (.slice none 0 0) := HB3.out.cell 2; have y0 := HB3.out.fz 0; have y1 := HB3.out.fz 1; have y2 := HB3.out.fz 2; have hgg3 : w2.grownBy w3 none := grown_trans (grown_drew (grown_alloc (grown_refl w2 none) _)) hg3)
        | (go_at_call 62; refine (HRD w2.drew).mono ?_; rintro e w3 ⟨size, cnt, lg, ln, lcap, rfl, hg3, hview⟩; have hgg3 : w2.grownBy w3 none := grown_trans (grown_drew (grown_refl w2 none)) hg3))
      all_goals
        go_wp2
        go_meet
        case rel => first | exact rel_set HB3.out hgg3 (by simp) hview | exact rel_new hgg3 (by first | exact Nat.le_refl _ | simp) hview
    case rest =>
      obtain ⟨gF, size, cnt, lg, ln, lcap, rfl, rfl, hbF, hgF, hg3, hview⟩ := hcut
      have hr3 : Rdr wc gB gM h l (.slice (some ⟨gp, 0, none⟩) l.length cp) pos n1 M2 KB := HR2.out.kp (Kp.ofNone (S := fun _ => False) hg3) (fun _ _ e => e)
      obtain ⟨w4, hput, hm4, hg4⟩ := (show KMap wc.drew gM n1 M2 from hr3.map).put (by unfold maxLen; omega) i (by omega) (.slice (some ⟨lg, 0, none⟩) ln lcap)
      have hg4' : wc.grownBy w4 (some gM) := ⟨hg4.os, hg4.tape, hg4.output, hg4.size, hg4.block⟩
      obtain ⟨hr4, hv4⟩ := HR2.out.keep hg3 hg4' hm4 hi hview
      have c7 : wc.cell? ⟨gB, 7, none⟩ = some (.map (some gM)) := hr3.box.cell 7
      have f2 : wc.cell? ⟨gF, 2, none⟩ = some (.slice (some ⟨lg, 0, none⟩) ln lcap) := hbF.cell 2
      have f4 : w4.cell? ⟨gF, 2, none⟩ = some (.slice (some ⟨lg, 0, none⟩) ln lcap) := hg4'.cell f2 (by have h1 := HR2.out.lt; have h2 := HR2.out.box.lt; intro e; injection e with e; have e' : gF = gM := e; omega)
      have hpost : FrPost w gB gM h l (.slice (some ⟨gp, 0, none⟩) l.length cp) pos nM KB i (.returned (.slice (some ⟨lg, 0, none⟩) ln lcap)) w4 := by
        refine ⟨_, _, _, rfl, ?_, ⟨hr4.box, hr4.row, hr4.lt, hr4.map.more (by omega), hr4.kept, hr4.kb⟩, fun b hb => ?_, hv4⟩
        · exact grown_trans (grown_trans HG2.out (grown_some3 hg3)) hg4'
        · rcases hb with hb | hb
          · exact .inl hb
          · exact .inr (Nat.le_trans HG2.out.size hb.1)
      clear hr4 hv4 hm4 hg4 hg4' hr3 hview hbF hg3
      go_upto_region 9 with fail
      go_region
      all_goals
        go_wp2
        exact bodyPost_ret (v := .slice (some ⟨lg, 0, none⟩) ln lcap) (by simp [results, Try.results59, go_sem]) rfl hpost
end Go.Proofs.Ytncmgnmcggkhnaa

namespace Go.Proofs.Ytncmgnmcggkhnaa
open Go.RowKit

/-- lists of nothing -/
def Nones (w : World) (D : Nat → Prop) (v : Value) (n : Nat) : Prop :=
  ∃ lg lcap, v = .slice (some ⟨lg, 0, none⟩) n lcap ∧ D lg ∧ lg < w.heap.size ∧ ∀ i, i < n → ∃ a cap, w.cell? ⟨lg, i, none⟩ = some (.slice a 0 cap)

def NonePost (w : World) (n : Nat) (e : Ending) (w' : World) : Prop :=
  ∃ g, e = .returned (.slice (some ⟨g, 0, none⟩) n n) ∧ w.grownBy w' none ∧ w.heap.size ≤ g ∧ Nones w' (fun q => q = g) (.slice (some ⟨g, 0, none⟩) n n) n

/-- the new list of lists of nothing, filled up to `us` -/
def NonI (w wr : World) (g n : Nat) (us : List Value) : Prop :=
  w.grownBy wr none ∧ Box wr g (fillV n us).toArray 30 ∧ ∀ u ∈ us, ∃ a cap, u = .slice a 0 cap

theorem NonI.next {w wr : World} {g n : Nat} {us : List Value} (h : NonI w wr g n us) (hk : us.length < n) (hwg : w.heap.size ≤ g) (a : Option Addr) (cap : Nat) : NonI w (wr.setCell ⟨g, us.length, none⟩ (.slice a 0 cap)) g n (us ++ [.slice a 0 cap]) := by
  obtain ⟨hg, hb, hi⟩ := h
  refine ⟨grown_new hg (grown_set _ _ _ _) (fun q e => by injection e with e; omega), ?_, fun u hu => ?_⟩
  · have := hb.set us.length (.slice a 0 cap)
    rw [List.setIfInBounds_toArray, fillV_set _ us _ hk] at this
    exact this
  · rcases List.mem_append.1 hu with hu | hu
    · exact hi u hu
    · exact ⟨a, cap, List.mem_singleton.1 hu⟩

theorem getD_of_get2 {α : Type} (l : List α) (i : Nat) (d : α) (hi : i < l.length) : l[i]? = some (l.getD i d) := by
  simp [List.getD, hi]

theorem NonI.done {w wr : World} {g n : Nat} {us : List Value} (h : NonI w wr g n us) (hl : us.length = n) : Nones wr (fun q => q = g) (.slice (some ⟨g, 0, none⟩) n n) n := by
  obtain ⟨hg, hb, hi⟩ := h
  have e : fillV n us = us := by simp [fillV, hl]
  rw [e] at hb
  refine ⟨g, n, rfl, rfl, hb.lt, fun i hlt => ?_⟩
  have hm : us.getD i undef ∈ us := by simp [List.getD, show i < us.length by omega]
  obtain ⟨a, cap, ha⟩ := hi _ hm
  refine ⟨a, cap, ?_⟩
  rw [hb.cell i, List.getElem?_toArray, getD_of_get2 us i undef (by omega), ha]

set_option maxHeartbeats 2000000 in
set_option maxRecDepth 20000 in
/-- where nothing lies between -/
theorem qbetween0 (w : World) (D : Nat → Prop) (v : Value) (chs : List (List Int)) (n f : Nat) (h : Views w D v chs) (hc1 : 1 ≤ chs.length) (hc2 : chs.length ≤ 2) (hn : ∀ i, i < chs.length → (chs.getD i []).length = n) (hft : f ≤ n) :
    Calls Try.prog 50 #[v, .int .i64 f, .int .i64 f] w (NonePost w chs.length) := by
  obtain ⟨i1, hi, hz0, hz1, hz2⟩ := info_parts Try.info30
  obtain ⟨lg, lcap, rfl, _, _, _, hcells⟩ := h
  obtain ⟨m, hm⟩ : ∃ m, chs.length = m := ⟨_, rfl⟩
  have HC : Hid (∀ i, i < m → ∃ b off cap, w.cell? ⟨lg, i, none⟩ = some (.slice (some ⟨b, off, none⟩) n cap) ∧ n ≤ cap) := by
    intro i hi'
    obtain ⟨b, off, cap, _, _, h1, h2, _⟩ := hcells i (by omega)
    rw [hn i (by omega)] at h1 h2
    exact ⟨b, off, cap, h1, h2⟩
  rw [hm] at hc1 hc2 ⊢
  clear hm hcells hn
  go_enter Try.func50, Try.ntmps50
  go_wp2_with (first
    | (at_make; refine wpList_make_full _ rfl _ _ 24 rfl w.heap.size 30 i1 (.slice none 0 0) 1 Try.underlying24 hi hz0 hz1 _ _ _ _ m rfl rfl rfl rfl ?m1 ?m2 ?m3 ?_))
  case m1 => rw [hz2]; omega
  case m2 => unfold maxLen; omega
  case m3 => exact Nat.le_refl _
  intro w1 hmade hg1
  have hboxC : Box w1 w.heap.size (List.replicate m (Value.slice none 0 0)).toArray 30 := by
    rcases hmade.2 with ⟨e, _⟩ | ⟨g, cap, cur, e, _, hblk, _, _, hcs, htake⟩
    · cases e
    · simp only [Value.slice.injEq, Option.some.injEq, Addr.mk.injEq, and_true, true_and] at e
      obtain ⟨rfl, rfl⟩ := e
      rw [Nat.mul_one] at hcs htake
      have hr := replicate_of_made hcs htake
      rw [← hr]
      exact hblk
  have hB0 : NonI w w1 w.heap.size m [] := ⟨hg1, by simpa [fillV] using hboxC, fun u hu => by cases hu⟩
  obtain ⟨g, hg⟩ : ∃ g, w.heap.size = g := ⟨_, rfl⟩
  rw [hg] at hB0
  rw [hg]
  have HG : Hid (w.heap.size = g) := hg
  clear hmade hboxC hi hz0 hz1 hz2 hg hg1
  go_wp2_with fail
  go_loopg [15] m (fun gk t15 wr => ∃ us : List Value, gk + us.length = m ∧ t15 = .int .i64 us.length ∧ NonI w wr g m us)
  case atStart => exact ⟨[], rfl, rfl, hB0⟩
  case round =>
    clear hB0
    obtain ⟨us, hgk, rfl, hB⟩ := hrel
    obtain ⟨k, hk⟩ : ∃ k, us.length = k := ⟨_, rfl⟩
    have HK : Hid (us.length = k) := hk
    rw [hk] at hgk ⊢
    by_cases hlt : k < m
    · obtain ⟨b, off, cap, hck, hcap⟩ := HC.out k hlt
      have hckr : wr.cell? ⟨lg, k, none⟩ = some (.slice (some ⟨b, off, none⟩) n cap) := hB.1.cell hck (by simp)
      have fz := hB.2.1.fz k
      have hgc : wr.cell? ⟨g, k, none⟩ = some (.slice none 0 0) := by
        rw [hB.2.1.cell k]
        unfold fillV
        rw [List.getElem?_toArray, List.getElem?_append_right (by omega), hk, Nat.sub_self, List.getElem?_replicate, if_pos (by omega)]
      have HNX : Hid (∀ a cap, NonI w (wr.setCell ⟨g, k, none⟩ (.slice a 0 cap)) g m (us ++ [.slice a 0 cap])) := by
        intro a cap
        have := hB.next (by omega) (by rw [HG.out]; exact Nat.le_refl _) a cap
        rw [hk] at this
        exact this
      have hkm : (k : Int) < (m : Int) := by omega
      have hf1 : (f : Int) ≤ (cap : Int) := by omega
      clear hB hck hk
      go_wp2
      all_goals
        go_roundg (gk - 1)
        case measure => omega
        case rel => exact ⟨us ++ [_], by rw [List.length_append, HK.out]; simp; omega, by rw [List.length_append, HK.out]; go_num, HNX.out _ _⟩
    · have hkm : k = m := by omega
      subst hkm
      have hpost : NonePost w k (.returned (.slice (some ⟨g, 0, none⟩) k k)) wr := ⟨g, rfl, hB.1, by rw [HG.out]; exact Nat.le_refl _, hB.done hk⟩
      clear hB hgk hk
      go_wp2
      exact bodyPost_ret (v := .slice (some ⟨g, 0, none⟩) k k) (by simp [results, Try.results50, go_sem]) rfl hpost

set_option maxHeartbeats 2000000 in
set_option maxRecDepth 20000 in
/-- lists of nothing are joined: nothing changes -/
theorem qjoin0 (w : World) (gC base n : Nat) (D : Nat → Prop) (v : Value) (vs : List Value) (acc : List (List Int)) (hcm : CM w gC base vs acc) (hvl : vs.length = n) (hn : n ≤ 2) (hcb : gC < base) (hview : Nones w D v n) (hD : ∀ q, D q → q ≠ gC) :
    Calls Try.prog 43 #[.slice (some ⟨gC, 0, none⟩) n n, v] w fun e w' => e = .returned (.tuple #[]) ∧ w.grownBy w' (some gC) ∧ CM w' gC base vs acc := by
  obtain ⟨i0, hi, hz0, hz1, hz2⟩ := info_parts Try.info3
  obtain ⟨lg, lcap, rfl, hDl, _, hcells⟩ := hview
  have hlg := hD lg hDl
  have HC : Hid (∀ i, i < n → ∃ a cap, w.cell? ⟨lg, i, none⟩ = some (.slice a 0 cap)) := hcells
  have HCM : Hid (CM w gC base vs acc) := hcm
  have HVL : Hid (vs.length = n) := hvl
  have hinv : w.grownBy w (some gC) ∧ CM w gC base vs acc := ⟨grown_refl _ _, hcm⟩
  clear hcells hcm hvl
  go_enter Try.func43, Try.ntmps43
  go_wp2_with fail
  go_loopg [8] n (fun gq t8 wq => ∃ k : Nat, gq + k = n ∧ t8 = .int .i64 k ∧ w.grownBy wq (some gC) ∧ CM wq gC base vs acc)
  case atStart => exact ⟨0, rfl, rfl, hinv.1, hinv.2⟩
  case round =>
    clear hinv
    obtain ⟨k, hgq, rfl, hgr, hcm⟩ := hrel
    by_cases hk : k < n
    · obtain ⟨a1, cap1, hc1⟩ := HC.out k hk
      have hc1r : wr.cell? ⟨lg, k, none⟩ = some (.slice a1 0 cap1) := hgr.cell hc1 (by intro e; injection e with e; exact hlg e)
      have hkv : k < vs.length := by rw [HVL.out]; exact hk
      have hownk := hcm.own k hkv
      obtain ⟨a9, c9, hV⟩ := own_slice hownk
      obtain ⟨m1, hm1⟩ : ∃ m1, (acc.getD k []).length = m1 := ⟨_, rfl⟩
      rw [hm1] at hV
      have hcap : m1 ≤ c9 := by
        have h1 := hownk
        unfold Own at h1
        rw [hV, hm1] at h1
        rcases h1.2 with ⟨e, e2⟩ | ⟨g, cap, cur, e, _, _, h2, _⟩
        · omega
        · injection e with _ _ e; omega
      have ck : wr.cell? ⟨gC, k, none⟩ = some (.slice a9 m1 c9) := by
        rw [hcm.row.cell k, ← hV]
        simp [List.getD, hkv]
      have fk := hcm.row.fz k
      have hap : ∀ ty, (Builtin.append_ #[30, 30] ty #[.slice a9 m1 c9, .slice a1 0 cap1]).run Try.prog wr = .ok (.slice a9 m1 c9) wr := by
        intro ty
        cases a9 <;> cases a1 <;> simp [Builtin.append_, run_underlying Try.underlying30, Go.sizeOf, typeInfo, hi, hcap, Builtin.lenOf, Builtin.firstCells, loadCells, loadCellsFrom, storeCells, Result.andThen]
      have HAP : Hid _ := hap
      have hset : CM (wr.setCell ⟨gC, k, none⟩ (.slice a9 m1 c9)) gC base vs acc := by
        have hb := hcm.row.set k (.slice a9 m1 c9)
        have e : (vs.toArray.setIfInBounds k (.slice a9 m1 c9)) = vs.toArray := by
          rw [List.setIfInBounds_toArray]
          congr 1
          rw [← hV]
          refine List.ext_getElem? (fun j => ?_)
          rw [List.getElem?_set]
          by_cases hj : k = j
          · subst hj
            simp [hkv, List.getD]
          · simp [hj]
        rw [e] at hb
        have hgs := grown_set wr gC k (.slice a9 m1 c9)
        exact ⟨hb, hcm.len, fun i hi => (hcm.own i hi).kp (Kp.of hgs) (fun q hq e => by injection e with e; have := ((hcm.own i hi).lt q hq).1; omega), hcm.apartV⟩
      have HSET : Hid _ := hset
      have HG2 : Hid (w.grownBy (wr.setCell ⟨gC, k, none⟩ (.slice a9 m1 c9)) (some gC)) := grown_trans hgr (grown_set _ _ _ _)
      have tk : decide ((k : Int) < (n : Int)) = true := decide_eq_true (by omega)
      clear hset hgr hcm hV hm1 hownk hcap hc1 hap
      go_wp2_with (at_builtin; refine Lib.wpList_append_run _ rfl _ _ _ _ rfl _ _ rfl rfl _ _ (HAP.out _) ?_)
      go_roundg (gk - 1)
      case measure => omega
      case rel => exact ⟨k + 1, by omega, by go_num, HG2.out, HSET.out⟩
    · have tk : decide ((k : Int) < (n : Int)) = false := decide_eq_false (by omega)
      have HP : Hid (w.grownBy wr (some gC) ∧ CM wr gC base vs acc) := ⟨hgr, hcm⟩
      clear hgr hcm hgq
      go_wp2
      exact bodyPost_end (v := .tuple #[]) (by simp [results, Try.results43, go_sem]) rfl ⟨rfl, HP.out⟩
end Go.Proofs.Ytncmgnmcggkhnaa

namespace Go.Proofs.Ytncmgnmcggkhnaa
open Go.RowKit

theorem rdr_total (w : World) (gB gM : Nat) (h : Head) (l : List Fr) (pv : Value) (pos nM : Nat) (M : Int → Option Value) (KB : Nat → Prop) (hr : Rdr w gB gM h l pv pos nM M KB) :
    Calls Try.prog 28 #[.pointer (some ⟨gB, 0, none⟩)] w fun e w' => e = .returned (.int .i64 h.total) ∧ w' = w := by
  have c4 : w.cell? ⟨gB, 4, none⟩ = some (.int .i64 h.total) := hr.box.cell 4
  clear hr
  go_enter Try.func28, Try.ntmps28
  go_wp2
  go_ret
  exact ⟨rfl, rfl⟩

theorem rdr_tell (w : World) (gB gM : Nat) (h : Head) (l : List Fr) (pv : Value) (pos nM : Nat) (M : Int → Option Value) (KB : Nat → Prop) (hr : Rdr w gB gM h l pv pos nM M KB) :
    Calls Try.prog 34 #[.pointer (some ⟨gB, 0, none⟩)] w fun e w' => e = .returned (.int .i64 pos) ∧ w' = w := by
  have c4 : w.cell? ⟨gB, 6, none⟩ = some (.int .i64 pos) := hr.box.cell 6
  clear hr
  go_enter Try.func34, Try.ntmps34
  go_wp2
  go_ret
  exact ⟨rfl, rfl⟩

/-- a place that is none -/
theorem rdr_seek_no (w : World) (gB gM : Nat) (h : Head) (l : List Fr) (pv : Value) (pos nM : Nat) (M : Int → Option Value) (KB : Nat → Prop) (hr : Rdr w gB gM h l pv pos nM M KB) (at_ : Int) (ha : at_ < 0 ∨ (h.total : Int) < at_) :
    Calls Try.prog 35 #[.pointer (some ⟨gB, 0, none⟩), .int .i64 at_] w fun e w' => e = .returned (.int .i64 1) ∧ w' = w := by
  have c4 : w.cell? ⟨gB, 4, none⟩ = some (.int .i64 h.total) := hr.box.cell 4
  clear hr
  rcases Int.lt_or_le at_ 0 with h0 | h0
  · have t0 : decide (at_ < 0) = true := decide_eq_true h0
    go_enter Try.func35, Try.ntmps35
    go_wp2
    go_ret
    exact ⟨rfl, rfl⟩
  · have t0 : decide (at_ < 0) = false := decide_eq_false (by omega)
    have t1 : decide ((h.total : Int) < at_) = true := decide_eq_true (by omega)
    clear ha
    go_enter Try.func35, Try.ntmps35
    go_wp2
    go_ret
    exact ⟨rfl, rfl⟩

theorem rdr_seek (w : World) (gB gM : Nat) (h : Head) (l : List Fr) (pv : Value) (pos nM : Nat) (M : Int → Option Value) (KB : Nat → Prop) (hr : Rdr w gB gM h l pv pos nM M KB) (p : Nat) (hp : p ≤ h.total) :
    Calls Try.prog 35 #[.pointer (some ⟨gB, 0, none⟩), .int .i64 p] w fun e w' => e = .returned (.int .i64 0) ∧ Rdr w' gB gM h l pv p nM M KB ∧ w.grownBy w' (some gB) := by
  have c4 : w.cell? ⟨gB, 4, none⟩ = some (.int .i64 h.total) := hr.box.cell 4
  have c6 : w.cell? ⟨gB, 6, none⟩ = some (.int .i64 pos) := hr.box.cell 6
  have f6 := hr.box.fz 6
  have HM : Hid _ := hr.move p
  have t0 : decide ((p : Int) < 0) = false := decide_eq_false (by omega)
  have t1 : decide ((h.total : Int) < (p : Int)) = false := decide_eq_false (by omega)
  clear hr
  go_enter Try.func35, Try.ntmps35
  go_wp2
  go_ret
  exact ⟨rfl, HM.out, grown_set _ _ _ _⟩

/-- less than nothing -/
theorem rdr_read_no (w : World) (g : Nat) (n : Int) (hn : n < 0) :
    Calls Try.prog 36 #[.pointer (some ⟨g, 0, none⟩), .int .i64 n] w fun e w' => e = .returned (.tuple #[.slice none 0 0, .int .i64 1]) ∧ w' = w := by
  have t0 : decide (n < 0) = true := decide_eq_true hn
  go_enter Try.func36, Try.ntmps36
  go_wp2
  exact bodyPost_ret (v := .tuple #[.slice none 0 0, .int .i64 1]) (by simp [results, Try.results36, go_sem]) rfl ⟨rfl, rfl⟩
end Go.Proofs.Ytncmgnmcggkhnaa

namespace Go.Proofs.Ytncmgnmcggkhnaa
open Go.RowKit

theorem Views.ins {w : World} {D : Nat → Prop} {v : Value} {ls : List (List Int)} (h : Views w D v ls) : Ins w D v ls := by
  obtain ⟨lg, lcap, h1, h2, h3, h4, h5⟩ := h
  refine .inr ⟨lg, lcap, h1, h3, h4, fun i hi => ?_⟩
  obtain ⟨g, off, cap, q1, q2, q3, q4, q5⟩ := h5 i hi
  refine ⟨_, q3, .inr ⟨g, off, cap, rfl, q4, q1, q2, fun j hj => ?_⟩⟩
  have := q5 j _ (map_get_int _ j hj)
  have e : (⟨g, off, none⟩ : Addr).add j = ⟨g, off + j, none⟩ := by
    unfold Addr.add
    split
    · rename_i e; rw [e, Nat.add_zero]
    · rfl
  rw [e] at this
  exact this

/-- lists, none of them empty, or all -/
def GV (w : World) (D : Nat → Prop) (v : Value) (ls : List (List Int)) : Prop :=
  (Views w D v ls ∧ ∀ j, j < ls.length → 1 ≤ (ls.getD j []).length) ∨ (Nones w D v ls.length ∧ ∀ j, j < ls.length → ls.getD j [] = [])

def BetAny (w : World) (D : Nat → Prop) (ls : List (List Int)) (e : Ending) (w' : World) : Prop :=
  ∃ g, e = .returned (.slice (some ⟨g, 0, none⟩) ls.length ls.length) ∧ w.grownBy w' none ∧ w.heap.size ≤ g ∧ g < w'.heap.size ∧ GV w' (fun q => D q ∨ q = g) (.slice (some ⟨g, 0, none⟩) ls.length ls.length) ls

theorem qbet (w : World) (D : Nat → Prop) (v : Value) (chs : List (List Int)) (n f t : Nat) (h : Views w D v chs) (hc1 : 1 ≤ chs.length) (hc2 : chs.length ≤ 2) (hn : ∀ i, i < chs.length → (chs.getD i []).length = n) (hft : f ≤ t) (htn : t ≤ n) :
    Calls Try.prog 50 #[v, .int .i64 f, .int .i64 t] w (BetAny w D (cutAll f t chs)) := by
  have hl : (cutAll f t chs).length = chs.length := by unfold cutAll; rw [List.length_map]
  rcases Nat.lt_or_ge f t with h1 | h1
  · refine (qbetween w D v chs n f t h.ins hc1 hc2 hn h1 htn).mono ?_
    rintro e w' ⟨g, h2, h3, h4, h5, h6⟩
    refine ⟨g, h2, h3, h4, h5, .inl ⟨h6, fun j hj => ?_⟩⟩
    rw [hl] at hj
    rw [cutAll_get f t chs j hj, List.length_take, List.length_drop, hn j hj]
    omega
  · obtain rfl : f = t := by omega
    refine (qbetween0 w D v chs n f h hc1 hc2 hn htn).mono ?_
    rintro e w' ⟨g, h2, h3, h4, h5⟩
    obtain ⟨lg, lcap, e1, hD, hlt, hcells⟩ := id h5
    have hgl : lg = g := hD
    subst hgl
    rw [← hl] at h2 h5
    refine ⟨lg, h2, h3, h4, hlt, .inr ⟨?_, fun j hj => ?_⟩⟩
    · obtain ⟨lg', lcap', e1', hD', hlt', hcells'⟩ := h5
      exact ⟨lg', lcap', e1', .inr hD', hlt', hcells'⟩
    · rw [hl] at hj
      rw [cutAll_get f f chs j hj, Nat.sub_self, List.take_zero]

theorem zip_nils : ∀ (acc ls : List (List Int)), acc.length = ls.length → (∀ j, j < ls.length → ls.getD j [] = []) → List.zipWith (· ++ ·) acc ls = acc
  | [], _, _, _ => by simp
  | a :: acc, [], h, _ => by simp at h
  | a :: acc, x :: ls, h, hz => by
    have h0 : x = [] := hz 0 (by simp)
    rw [List.zipWith_cons_cons, zip_nils acc ls (by simpa using h) (fun j hj => hz (j + 1) (by simpa using hj)), h0, List.append_nil]

theorem qjn (w : World) (gC base n : Nat) (D : Nat → Prop) (v : Value) (vs : List Value) (acc chs : List (List Int)) (hcm : CM w gC base vs acc) (hvl : vs.length = n) (hcl : chs.length = n) (hn : n ≤ 2) (hcb : gC < base) (hbw : base ≤ w.heap.size)
    (hview : GV w D v chs) (hD : ∀ q, D q → ¬ ownsB gC vs q ∧ q < w.heap.size) (hlen : ∀ j, j < n → (acc.getD j []).length + (chs.getD j []).length ≤ 1200) :
    Calls Try.prog 43 #[.slice (some ⟨gC, 0, none⟩) n n, v] w (JoinPost w gC base n vs acc chs) := by
  rcases hview with ⟨h1, h2⟩ | ⟨h1, h2⟩
  · exact qjoin w gC base n D v vs acc chs hcm hvl hcl hn hcb hbw h1 hD (fun j hj => ⟨h2 j (by omega), hlen j hj⟩)
  · rw [hcl] at h1
    refine (qjoin0 w gC base n D v vs acc hcm hvl hn hcb h1 (fun q hq e => (hD q hq).1 (.inl e))).mono ?_
    rintro e w' ⟨rfl, hg, hcm'⟩
    refine ⟨rfl, (Kp.of hg).mono (fun b hb => .inl (by injection hb with hb; exact .inl hb)), vs, ?_, hvl, fun b hb => .inl hb⟩
    rw [zip_nils acc chs (by rw [hcm.len, hvl, hcl]) h2]
    exact hcm'

/-- what one more frame gives -/
theorem cut_step (c : List Int) (pos fs B en : Nat) (h1 : fs < en) (h2 : pos ≤ en) (h3 : pos < fs + B) :
    (c.drop pos).take (min fs en - pos) ++ (((c.drop fs).take B).drop (pos - fs)).take (min (en - fs) B - (pos - fs)) = (c.drop pos).take (min (fs + B) en - pos) := by
  rw [Nat.min_eq_left (by omega : fs ≤ en)]
  rcases Nat.le_total pos fs with h | h
  · have e0 : pos - fs = 0 := by omega
    rw [e0, List.drop_zero, Nat.sub_zero, List.take_take, show min (min (en - fs) B) B = min (en - fs) B by omega]
    have e1 : c.drop fs = (c.drop pos).drop (fs - pos) := by rw [List.drop_drop]; congr 1; omega
    rw [e1, ← List.take_add]
    congr 1
    omega
  · have e0 : fs - pos = 0 := by omega
    rw [e0, List.take_zero, List.nil_append, List.drop_take, List.drop_drop, show fs + (pos - fs) = pos by omega, List.take_take]
    congr 1
    omega

theorem cutAll_step (chs ls : List (List Int)) (pos fs B en : Nat) (h1 : fs < en) (h2 : pos ≤ en) (h3 : pos < fs + B) (hl : ls.length = chs.length) (hls : ∀ j, j < chs.length → ls.getD j [] = ((chs.getD j []).drop fs).take B) :
    List.zipWith (· ++ ·) (cutAll pos (min fs en) chs) (cutAll (pos - fs) (min (en - fs) B) ls) = cutAll pos (min (fs + B) en) chs := by
  refine List.ext_getElem? (fun j => ?_)
  rcases Nat.lt_or_ge j chs.length with hj | hj
  · have e1 : chs[j]? = some (chs.getD j []) := getD_of_get chs j [] hj
    have e2 : ls[j]? = some (ls.getD j []) := getD_of_get ls j [] (by omega)
    unfold cutAll
    rw [List.getElem?_zipWith, List.getElem?_map, List.getElem?_map, List.getElem?_map, e1, e2, hls j hj]
    show some _ = some _
    rw [cut_step _ pos fs B en h1 h2 h3]
  · unfold cutAll
    rw [List.getElem?_eq_none (by rw [List.length_zipWith, List.length_map, List.length_map]; omega), List.getElem?_eq_none (by rw [List.length_map]; exact hj)]
end Go.Proofs.Ytncmgnmcggkhnaa

namespace Go.Proofs.Ytncmgnmcggkhnaa
open Go.RowKit

/-- what a reader's Read leaves -/
def RdrPost (w : World) (gB gM : Nat) (h : Head) (chs : List (List Int)) (l : List Fr) (pv : Value) (nM : Nat) (KB : Nat → Prop) (pos en : Nat) (e : Ending) (w' : World) : Prop :=
  ∃ lv vs M' KB', e = .returned (.tuple #[lv, .int .i64 0]) ∧ Kp w w' (fun b => b = gB ∨ b = gM) ∧ Rdr w' gB gM h l pv en (nM + 1300) M' KB' ∧ (∀ b, KB' b → KB b ∨ w.heap.size ≤ b) ∧ Subs w' w.heap.size lv vs (cutAll pos en chs) ∧
    ∀ b, (lv.ownBlock = some b ∨ ∃ i, i < vs.length ∧ (vs.getD i undef).ownBlock = some b) → ¬ KB' b

/-- the loop over the frames -/
structure RdI (w wr : World) (gB gM gC : Nat) (h : Head) (chs : List (List Int)) (l : List Fr) (pv : Value) (nM : Nat) (KB : Nat → Prop) (pos en k0 k : Nat) (vs : List Value) (M' : Int → Option Value) (KB' : Nat → Prop) : Prop where
  kp : Kp w wr (fun b => b = gM)
  rdr : Rdr wr gB gM h l pv pos (nM + (k - k0)) M' KB'
  sub : ∀ b, KB' b → KB b ∨ w.heap.size ≤ b
  cm : CM wr gC (gC + 1) vs (cutAll pos (min (k * h.block) en) chs)
  len : vs.length = h.channels
  own : ∀ b, ownsB gC vs b → w.heap.size ≤ b ∧ ¬ KB' b

/-- the next round's state -/
def RdNext (w : World) (gB gM gC : Nat) (h : Head) (chs : List (List Int)) (l : List Fr) (pv : Value) (nM : Nat) (KB : Nat → Prop) (pos en k0 k : Nat) (e : Ending) (wr : World) : Prop :=
  e = .returned (.tuple #[]) ∧ gC + 1 ≤ wr.heap.size ∧ ∃ vs M' KB', RdI w wr gB gM gC h chs l pv nM KB pos en k0 k vs M' KB'


theorem RdNext.pos {w wr : World} {gB gM gC : Nat} {h : Head} {chs : List (List Int)} {l : List Fr} {pv : Value} {nM : Nat} {KB : Nat → Prop} {pos en k0 k : Nat} {e : Ending} (hn : RdNext w gB gM gC h chs l pv nM KB pos en k0 k e wr) : wr.cell? ⟨gB, 6, none⟩ = some (.int .i64 pos) := by
  obtain ⟨_, _, vs, M', KB', hI⟩ := hn
  exact hI.rdr.box.cell 6

/-- what lies between, its length by name -/
def BetN (w : World) (D : Nat → Prop) (ls : List (List Int)) (nc : Nat) (e : Ending) (w' : World) : Prop :=
  ∃ g, e = .returned (.slice (some ⟨g, 0, none⟩) nc nc) ∧ w.grownBy w' none ∧ w.heap.size ≤ g ∧ g < w'.heap.size ∧ GV w' (fun q => D q ∨ q = g) (.slice (some ⟨g, 0, none⟩) nc nc) ls

theorem rd_join (w wr w2 w3 : World) (gB gM gC : Nat) (h : Head) (chs : List (List Int)) (l : List Fr) (pv : Value) (nM : Nat) (M : Int → Option Value) (KB : Nat → Prop) (pos en k0 k fs : Nat) (vs : List Value) (M' : Int → Option Value) (KB' : Nat → Prop) (KB2 : Nat → Prop) (M2 : Int → Option Value) (g : Nat)
    (hr : Rdr w gB gM h l pv pos nM M KB) (hf : FrOk h chs l) (hfs : k * h.block = fs) (hlt : fs < en) (hen : en ≤ h.total) (hpe : pos ≤ en) (hpf : pos < fs + h.block) (hkl : k < l.length) (hk0 : k0 ≤ k) (hgC : gC = w.heap.size) (hI : RdI w wr gB gM gC h chs l pv nM KB pos en k0 k vs M' KB') (hwr : gC + 1 ≤ wr.heap.size)
    (hg2 : wr.grownBy w2 (some gM)) (hr2 : Rdr w2 gB gM h l pv pos (nM + (k - k0) + 1) M2 KB2) (hs2 : ∀ b, KB2 b → KB' b ∨ wr.heap.size ≤ b) (hg3 : w2.grownBy w3 none) (hwg : w2.heap.size ≤ g) (hgl : g < w3.heap.size)
    (hgv : GV w3 (fun q => KB2 q ∨ q = g) (.slice (some ⟨g, 0, none⟩) (cutAll (pos - fs) (min (en - fs) h.block) (l.getD k ([], [])).2).length (cutAll (pos - fs) (min (en - fs) h.block) (l.getD k ([], [])).2).length) (cutAll (pos - fs) (min (en - fs) h.block) (l.getD k ([], [])).2)) :
    Calls Try.prog 43 #[.slice (some ⟨gC, 0, none⟩) h.channels h.channels, .slice (some ⟨g, 0, none⟩) (cutAll (pos - fs) (min (en - fs) h.block) (l.getD k ([], [])).2).length (cutAll (pos - fs) (min (en - fs) h.block) (l.getD k ([], [])).2).length] w3 (RdNext w gB gM gC h chs l pv nM KB pos en k0 (k + 1)) := by
  obtain ⟨b1, b2, b3, b4, b5, b6, b7, b8⟩ := headOk_parts hf.ok
  have hml := hr.lt
  have hbl := hr.box.lt
  have hwwr := hI.kp.size
  have hcmlt := hI.cm.ownsLt
  have hn : ∀ q, KB2 q ∨ q = g → ¬ ownsB gC vs q ∧ q < w3.heap.size := by
    intro q hq
    rcases hq with hq | rfl
    · refine ⟨fun e => ?_, Nat.lt_of_lt_of_le (hr2.kb q hq).2 hg3.size⟩
      rcases hs2 q hq with h1 | h1
      · exact (hI.own q e).2 h1
      · have := hcmlt q e; omega
    · refine ⟨fun e => ?_, hgl⟩
      have h1 := hcmlt q e
      have h2 := hg2.size
      omega
  have hk23 : Kp wr w3 (fun b => b = gM) := ((Kp.of hg2).mono (fun b hb => .inl (by injection hb))).trans (Kp.ofNone (S := fun _ => False) hg3) (fun b e => e.elim)
  have hcm3 := hI.cm.kp hk23 (fun b hb e => by have := (hI.own b hb).1; omega)
  obtain ⟨hl1, _⟩ := pFrame_spec (hf.frame k hkl)
  have hcl : (cutAll (pos - fs) (min (en - fs) h.block) (l.getD k ([], [])).2).length = h.channels := by unfold cutAll; rw [List.length_map]; exact hl1
  have hstep := cutAll_step chs (l.getD k ([], [])).2 pos fs h.block en hlt hpe hpf (by rw [hl1, hf.ch]) (fun j hj => by rw [hf.part k hkl j (by rw [← hf.ch]; exact hj), hfs])
  have hal : (cutAll pos (min fs en) chs).length = h.channels := by unfold cutAll; rw [List.length_map]; exact hf.ch
  have hlen : ∀ j, j < h.channels → ((cutAll pos (min fs en) chs).getD j []).length + ((cutAll (pos - fs) (min (en - fs) h.block) (l.getD k ([], [])).2).getD j []).length ≤ 1200 := by
    intro j hj
    have h1 := zip_append_get (cutAll pos (min fs en) chs) (cutAll (pos - fs) (min (en - fs) h.block) (l.getD k ([], [])).2) h.channels hal hcl j hj
    rw [hstep] at h1
    have h2 := congrArg List.length h1
    rw [List.length_append] at h2
    rw [← h2, cutAll_get _ _ _ j (by rw [hf.ch]; exact hj), List.length_take, List.length_drop, hf.total j hj]
    omega
  rw [hfs] at hcm3
  have hw13 : wr.heap.size ≤ w3.heap.size := hk23.size
  refine (qjn w3 gC (gC + 1) h.channels _ _ vs _ _ hcm3 hI.len hcl b5 (by omega) (by omega) hgv hn hlen).mono ?_
  rintro e w4 ⟨rfl, hk4, vs', hcm4, hvl4, hsub4⟩
  rw [hstep] at hcm4
  have e1 : fs + h.block = (k + 1) * h.block := by rw [Nat.succ_mul, hfs]
  rw [e1] at hcm4
  have hpvl : ∀ b, pv.ownBlock = some b → b < w.heap.size := fun b hb => (World.ownsRow.lt hr.row b hb).2
  refine ⟨rfl, by have := hk4.size; omega, vs', M2, KB2, ⟨?_, ?_, ?_, hcm4, hvl4, ?_⟩⟩
  · refine (hI.kp.trans hk23 (fun b hb => .inl hb)).trans hk4 (fun b hb => .inr (hI.own b hb).1)
  · have hr3 : Rdr w3 gB gM h l pv pos (nM + (k - k0) + 1) M2 KB2 := hr2.kp (Kp.ofNone (S := fun _ => False) hg3) (fun _ _ e => e)
    have hr4 := hr3.kp hk4 (fun b hb e => by
      have h1 := (hI.own b e).1
      rcases hb with rfl | rfl | hq | hq
      · omega
      · omega
      · have := hpvl b hq; omega
      · exact (hn b (.inl hq)).1 e)
    rw [show nM + (k + 1 - k0) = nM + (k - k0) + 1 by omega]
    exact hr4
  · intro b hb
    rcases hs2 b hb with h1 | h1
    · exact hI.sub b h1
    · exact .inr (by omega)
  · intro b hb
    rcases hsub4 b hb with h1 | h1
    · exact ⟨(hI.own b h1).1, fun e => (hn b (.inl e)).1 h1⟩
    · refine ⟨by omega, fun e => ?_⟩
      have h2 := (hr2.kb b e).2
      have h3 := hg3.size
      omega
end Go.Proofs.Ytncmgnmcggkhnaa

namespace Go.Proofs.Ytncmgnmcggkhnaa
open Go.RowKit

set_option maxHeartbeats 8000000 in
set_option maxRecDepth 20000 in
theorem rdr_read (w : World) (gB gM : Nat) (h : Head) (chs : List (List Int)) (l : List Fr) (pv : Value) (pos nM : Nat) (M : Int → Option Value) (KB : Nat → Prop) (hr : Rdr w gB gM h l pv pos nM M KB) (hf : FrOk h chs l) (hp : pos ≤ h.total) (n : Nat) (hn : n ≤ 9223372036854775807) (hnM : nM ≤ 9223372036854000000) :
    Calls Try.prog 36 #[.pointer (some ⟨gB, 0, none⟩), .int .i64 n] w (RdrPost w gB gM h chs l pv nM KB pos (pos + min n (h.total - pos))) := by
  obtain ⟨b1, b2, b3, b4, b5, b6, b7, b8⟩ := headOk_parts hf.ok
  obtain ⟨i1, hi, hz0, hz1, hz2⟩ := info_parts Try.info30
  have HI : Hid _ := hi
  have HZ0 : Hid _ := hz0
  have HZ1 : Hid _ := hz1
  have HZ2 : Hid _ := hz2
  clear hi hz0 hz1 hz2
  have c0 : w.cell? ⟨gB, 0, none⟩ = some (.int .i64 h.block) := hr.box.cell 0
  have c2 : w.cell? ⟨gB, 2, none⟩ = some (.int .i64 h.channels) := hr.box.cell 2
  have c4 : w.cell? ⟨gB, 4, none⟩ = some (.int .i64 h.total) := hr.box.cell 4
  have c6 : w.cell? ⟨gB, 6, none⟩ = some (.int .i64 pos) := hr.box.cell 6
  obtain ⟨en, hen⟩ : ∃ en, pos + min n (h.total - pos) = en := ⟨_, rfl⟩
  obtain ⟨rem, hrem⟩ : ∃ rem, h.total - pos = rem := ⟨_, rfl⟩
  have hremz : (h.total : Int) - (pos : Int) = (rem : Int) := by omega
  have HEN : Hid (pos + min n (h.total - pos) = en) := hen
  have hent : en ≤ h.total ∧ pos ≤ en := by omega
  have t0 : decide ((n : Int) < 0) = false := decide_eq_false (by omega)
  have HR : Hid (Rdr w gB gM h l pv pos nM M KB) := hr
  rw [hen]
  clear hr hen
  go_enter Try.func36, Try.ntmps36
  go_upto_region 4 with fail
  go_cut [7] (fun s7 wx => s7 = .int .i64 en ∧ wx = w.drew)
  case first =>
    go_region
    all_goals
      go_wp2
      all_goals
        go_meet
        case rel => exact ⟨by have := HEN.out; congr 1; omega, rfl⟩
  case rest =>
  obtain ⟨rfl, hwc⟩ := hcut
  have hgd : w.grownBy wc none := by rw [hwc]; exact grown_drew (grown_refl _ _)
  have hrw : Rdr wc gB gM h l pv pos nM M KB := HR.out.kp (Kp.ofNone (S := fun _ => False) hgd) (fun _ _ e => e)
  have hsz : wc.heap.size = w.heap.size := by rw [hwc]; rfl
  have HSZ : Hid (wc.heap.size = w.heap.size) := hsz
  clear hwc hsz c0 c2 c4 c6 hrem hremz t0
  have c0 : wc.cell? ⟨gB, 0, none⟩ = some (.int .i64 h.block) := hrw.box.cell 0
  have c2 : wc.cell? ⟨gB, 2, none⟩ = some (.int .i64 h.channels) := hrw.box.cell 2
  have c6 : wc.cell? ⟨gB, 6, none⟩ = some (.int .i64 pos) := hrw.box.cell 6
  go_wp2_with (first
    | (at_make; refine wpList_make_full _ rfl _ _ 24 rfl wc.heap.size 30 i1 (.slice none 0 0) 1 Try.underlying24 HI.out HZ0.out HZ1.out _ _ _ _ h.channels rfl rfl rfl rfl ?m1 ?m2 ?m3 ?_))
  case m1 => rw [HZ2.out]; omega
  case m2 => unfold maxLen; omega
  case m3 => exact Nat.le_refl _
  intro w1 hmade hg1
  have hboxC : Box w1 wc.heap.size (List.replicate h.channels (Value.slice none 0 0)).toArray 30 := by
    rcases hmade.2 with ⟨e, _⟩ | ⟨g, cap, cur, e, _, hblk, _, _, hcs, htake⟩
    · cases e
    · simp only [Value.slice.injEq, Option.some.injEq, Addr.mk.injEq, and_true, true_and] at e
      obtain ⟨rfl, rfl⟩ := e
      rw [Nat.mul_one] at hcs htake
      have hr := replicate_of_made hcs htake
      rw [← hr]
      exact hblk
  obtain ⟨gC, hgC⟩ : ∃ gC, wc.heap.size = gC := ⟨_, rfl⟩
  rw [hgC] at hboxC
  rw [hgC]
  have hgC2 : gC = w.heap.size := by rw [← hgC]; exact HSZ.out
  have hgg1 := grown_trans hgd hg1
  have hr1 : Rdr w1 gB gM h l pv pos nM M KB := hrw.kp (Kp.ofNone (S := fun _ => False) hg1) (fun _ _ e => e)
  have HR1 : Hid (Rdr w1 gB gM h l pv pos nM M KB) := hr1
  have HBC : Hid (Box w1 gC (List.replicate h.channels (Value.slice none 0 0)).toArray 30) := hboxC
  have HG1 : Hid (w.grownBy w1 none) := hgg1
  have HGC : Hid (gC = w.heap.size) := hgC2
  clear hmade hboxC hg1 hgd hrw c0 c2 c6 hgC hgC2 hgg1 HI HZ0 HZ1 HZ2
  have c6 : w1.cell? ⟨gB, 6, none⟩ = some (.int .i64 pos) := hr1.box.cell 6
  clear hr1
  obtain ⟨k0, hk0⟩ : ∃ k0, pos / h.block = k0 := ⟨_, rfl⟩
  have hk0z : wrap64 ((pos : Int) / (h.block : Int)) = (k0 : Int) := by
    rw [← hk0]
    have h1 : ((pos : Int) / (h.block : Int)) = ((pos / h.block : Nat) : Int) := by simp
    have h2 : pos / h.block ≤ pos := Nat.div_le_self _ _
    rw [h1]
    unfold wrap64
    omega
  have hk0b : k0 * h.block ≤ pos ∧ pos < k0 * h.block + h.block := by
    have h1 := Nat.div_add_mod pos h.block
    have h2 := Nat.mod_lt pos (show h.block > 0 by omega)
    rw [hk0, Nat.mul_comm] at h1
    omega
  have HK0 : Hid (k0 * h.block ≤ pos ∧ pos < k0 * h.block + h.block) := hk0b
  go_upto_region 7 with fail
  rw [hk0z]
  have hI0 : RdI w w1 gB gM gC h chs l pv nM KB pos en k0 k0 (List.replicate h.channels (.slice none 0 0)) M KB := by
    have hm := CM.start w1 gC (gC + 1) h.channels HBC.out
    have e1 : fillV h.channels [] = List.replicate h.channels (Value.slice none 0 0) := by simp [fillV]
    have e2 : fillX h.channels [] = cutAll pos (min (k0 * h.block) en) chs := by
      unfold fillX cutAll
      rw [List.nil_append, List.length_nil, Nat.sub_zero, ← hf.ch]
      have e3 : min (k0 * h.block) en - pos = 0 := by omega
      rw [e3]
      simp [List.map_const']
    rw [e1, e2] at hm
    refine ⟨Kp.ofNone HG1.out, by rw [Nat.sub_self]; exact HR1.out, fun b hb => .inl hb, hm, by simp, fun b hb => ?_⟩
    have hbC : b = gC := by
      rcases hb with e | ⟨i, hi, hq⟩
      · exact e
      · rw [List.length_replicate] at hi
        have e1 : (List.replicate h.channels (Value.slice none 0 0)).getD i undef = .slice none 0 0 := by simp [List.getD, hi]
        rw [e1] at hq
        cases hq
    rw [hbC, HGC.out]
    exact ⟨Nat.le_refl _, fun e => by have := (HR.out.kb _ e).2; omega⟩
  have hC1 : gC + 1 ≤ w1.heap.size := HBC.out.lt
  have HW1 : Hid (gC + 1 ≤ w1.heap.size) := hC1
  clear hk0z hk0 hk0b hC1 c6 HBC HR1
  go_loopg [9] 1300 (fun gk t9 wr => ∃ (k : Nat) (vs : List Value) (M' : Int → Option Value) (KB' : Nat → Prop), gk + k = k0 + 1300 ∧ k0 ≤ k ∧ t9 = .int .i64 k ∧ gC + 1 ≤ wr.heap.size ∧ RdI w wr gB gM gC h chs l pv nM KB pos en k0 k vs M' KB')
  case atStart => exact ⟨k0, _, M, KB, by omega, Nat.le_refl _, rfl, HW1.out, hI0⟩
  case round =>
    clear hI0 HW1
    obtain ⟨k, vs, M', KB', hgk, hk0k, rfl, hwr, hI⟩ := hrel
    obtain ⟨fs, hfs⟩ : ∃ fs, k * h.block = fs := ⟨_, rfl⟩
    have hfsz : (k : Int) * (h.block : Int) = (fs : Int) := by rw [← hfs]; simp
    by_cases hlt : fs < en
    · have tlt : decide ((fs : Int) < (en : Int)) = true := decide_eq_true (by omega)
      have hkl : k < l.length := (hf.num k).2 (by rw [hfs]; omega)
      have hk12 : k < 1200 := by
        have h1 : k * 1 ≤ k * h.block := Nat.mul_le_mul_left _ (by omega)
        omega
      have hll : l.length ≤ 6000 := by
        rcases Nat.lt_or_ge 6000 l.length with h1 | h1
        · have h2 := (hf.num 6000).1 h1
          have h3 : 6000 * 1 ≤ 6000 * h.block := Nat.mul_le_mul_left _ (by omega)
          omega
        · exact h1
      have hk0fs : pos < fs + h.block := by
        have h1 := HK0.out
        have h2 : k0 * h.block ≤ k * h.block := Nat.mul_le_mul_right _ hk0k
        omega
      obtain ⟨f, hf0⟩ : ∃ f, pos - fs = f := ⟨_, rfl⟩
      obtain ⟨t, ht⟩ : ∃ t, min (en - fs) h.block = t := ⟨_, rfl⟩
      obtain ⟨rm, hrm⟩ : ∃ rm, en - fs = rm := ⟨_, rfl⟩
      have hrmz : (en : Int) - (fs : Int) = (rm : Int) := by omega
      have c6 : wr.cell? ⟨gB, 6, none⟩ = some (.int .i64 pos) := hI.rdr.box.cell 6
      have E1 : Hid ((if IntKind.i64.wrap ((pos : Int) - (fs : Int)) < 0 then (0 : Int) else IntKind.i64.wrap ((pos : Int) - (fs : Int))) = (f : Int)) := by
        show _ = _
        rw [IntKind.wrap_i64]
        split <;> omega
      have E2 : Hid ((if (h.block : Int) < IntKind.i64.wrap (rm : Int) then (h.block : Int) else IntKind.i64.wrap (rm : Int)) = (t : Int)) := by
        show _ = _
        rw [IntKind.wrap_i64]
        split <;> omega
      have HI : Hid (RdI w wr gB gM gC h chs l pv nM KB pos en k0 k vs M' KB') := hI
      have HFR := qframeof wr.drew gB gM h chs l pv pos (nM + (k - k0)) M' KB' k (show Rdr wr.drew gB gM h l pv pos (nM + (k - k0)) M' KB' from ⟨hI.rdr.box, hI.rdr.row, hI.rdr.lt, hI.rdr.map, hI.rdr.kept, hI.rdr.kb⟩) hf hkl hll (by omega)
      have HBT : Hid (∀ (w2 : World) (KB2 : Nat → Prop) (v2 : Value), Views w2 KB2 v2 (l.getD k ([], [])).2 → Calls Try.prog 50 #[v2, .int .i64 f, .int .i64 t] w2 (BetAny w2 KB2 (cutAll f t (l.getD k ([], [])).2))) := by
        intro w2 KB2 v2 hv2
        obtain ⟨hl1, _⟩ := pFrame_spec (hf.frame k hkl)
        have hch1 := hf.ch1
        have hlen : ∀ i, i < (l.getD k ([], [])).2.length → ((l.getD k ([], [])).2.getD i []).length = min h.block (h.total - fs) := by
          intro i hi
          rw [hf.part k hkl i (by omega), hfs, List.length_take, List.length_drop, hf.total i (by omega)]
        exact qbet w2 KB2 v2 _ (min h.block (h.total - fs)) f t hv2 (by omega) (by omega) hlen (by omega) (by omega)
      have HJN : Hid (∀ (w2 w3 : World) (KB2 : Nat → Prop) (M2 : Int → Option Value) (g : Nat), wr.drew.grownBy w2 (some gM) → Rdr w2 gB gM h l pv pos (nM + (k - k0) + 1) M2 KB2 → (∀ b, KB2 b → KB' b ∨ wr.drew.heap.size ≤ b) → w2.grownBy w3 none → w2.heap.size ≤ g → g < w3.heap.size →
          GV w3 (fun q => KB2 q ∨ q = g) (.slice (some ⟨g, 0, none⟩) (cutAll f t (l.getD k ([], [])).2).length (cutAll f t (l.getD k ([], [])).2).length) (cutAll f t (l.getD k ([], [])).2) →
          Calls Try.prog 43 #[.slice (some ⟨gC, 0, none⟩) h.channels h.channels, .slice (some ⟨g, 0, none⟩) (cutAll f t (l.getD k ([], [])).2).length (cutAll f t (l.getD k ([], [])).2).length] w3 (RdNext w gB gM gC h chs l pv nM KB pos en k0 (k + 1))) := by
        rw [← hf0, ← ht]
        intro w2 w3 KB2 M2 g hg2 hr2 hs2 hg3 hwg hgl hgv
        exact rd_join w wr w2 w3 gB gM gC h chs l pv nM M KB pos en k0 k fs vs M' KB' KB2 M2 g HR.out hf hfs hlt hent.1 hent.2 hk0fs hkl hk0k HGC.out hI hwr ⟨hg2.os, hg2.tape, hg2.output, hg2.size, hg2.block⟩ hr2 hs2 hg3 hwg hgl hgv
      have HOM : Hid (gk + k = k0 + 1300 ∧ k < 1200 ∧ k0 ≤ k) := ⟨hgk, hk12, hk0k⟩
      have u1 : fs ≤ 1200 := by omega
      have u2 : pos ≤ 1200 := by omega
      have u3 : en ≤ 1200 := by omega
      have u4 : rm ≤ 1200 := by omega
      have u5 : k ≤ 1200 := by omega
      obtain ⟨cs, hcs⟩ : ∃ cs, cutAll f t (l.getD k ([], [])).2 = cs := ⟨_, rfl⟩
      rw [hcs] at HBT HJN
      obtain ⟨nc, hnc⟩ : ∃ nc, cs.length = nc := ⟨_, rfl⟩
      have HBT2 : Hid (∀ (w2 : World) (KB2 : Nat → Prop) (v2 : Value), Views w2 KB2 v2 (l.getD k ([], [])).2 → Calls Try.prog 50 #[v2, .int .i64 f, .int .i64 t] w2 (BetN w2 KB2 cs nc)) := by
        intro w2 KB2 v2 hv2
        refine (HBT.out w2 KB2 v2 hv2).mono ?_
        rintro e w' ⟨g, h1, h2, h3, h4, h5⟩
        rw [hnc] at h1 h5
        exact ⟨g, h1, h2, h3, h4, h5⟩
      rw [hnc] at HJN
      clear hI HBT hcs hnc hkl hll hk0fs hf0 ht hrm hf hwr hgk hk12 hk0k hfs hp hn hnM hent b1 b3 b4 b5 b6 b7 b8 HEN HR HSZ HG1 HGC HK0 HI
      go_upto_region 10 with fail
      have e1 := E1.out
      have e2 := E2.out
      go_region_held (fun w' => w'.cell? ⟨gB, 6, none⟩ = some (.int .i64 pos)) (go_keep) (first
        | (go_at_call 59; refine HFR.mono ?_; rintro e w2 ⟨v2, M2, KB2, rfl, hg2, hr2, hs2, hv2⟩; have c62 : w2.cell? ⟨gB, 6, none⟩ = some (.int .i64 pos) := hr2.box.cell 6; have HB2 := HBT2.out w2 KB2 v2 hv2; have HR2 : Hid _ := hr2; have HV2 : Hid _ := hv2; have HG2 : Hid _ := hg2; have HS2 : Hid _ := hs2; clear hr2 hv2 hg2 hs2)
        | (go_at_call 50; (try rw [E1.out]); (try rw [E2.out]); refine HB2.mono ?_; rintro e w3 ⟨g3, rfl, hg3, hwg3, hgl3, hgv3⟩; have c63 : w3.cell? ⟨gB, 6, none⟩ = some (.int .i64 pos) := hg3.cell c62 (by simp); have HJ3 := HJN.out w2 w3 KB2 M2 g3 HG2.out HR2.out HS2.out hg3 hwg3 hgl3 hgv3; clear hg3 hwg3 hgl3 hgv3)
        | (go_at_call 43; refine HJ3.mono ?_; intro e w4 hnx; obtain rfl := hnx.1; have c64 : w4.cell? ⟨gB, 6, none⟩ = some (.int .i64 pos) := hnx.pos))
      all_goals
        obtain ⟨_, hwr4, vs4, M4, KB4, hI4⟩ := hnx
        have HI4 : Hid (RdI w w4 gB gM gC h chs l pv nM KB pos en k0 (k + 1) vs4 M4 KB4) := hI4
        clear hI4
        have hom := HOM.out
        go_wp2
        go_roundg (gk - 1)
        case measure => omega
        case rel => exact ⟨k + 1, vs4, M4, KB4, by omega, by omega, by go_num, hwr4, HI4.out⟩
    · have tlt : decide ((fs : Int) < (en : Int)) = false := decide_eq_false (by omega)
      have hge : ¬ fs < en := hlt
      have tlt2 : decide (fs < en) = false := decide_eq_false hlt
      have hle : en ≤ fs := by omega
      have hk0p : k0 ≤ 1200 := by
        have h1 : k0 * 1 ≤ k0 * h.block := Nat.mul_le_mul_left _ (by omega)
        have h2 := HK0.out
        omega
      have hfsb : fs ≤ 640000 := by
        rw [← hfs]
        have h1 : k * h.block ≤ 2500 * 256 := Nat.mul_le_mul (by omega) b2
        omega
      have hmin : min fs en = en := by omega
      have hcm := hI.cm
      rw [hfs, hmin] at hcm
      have hgw : gC + 1 ≤ wr.heap.size := hwr
      have hbx := hI.rdr.box
      have c6 : wr.cell? ⟨gB, 6, none⟩ = some (.int .i64 pos) := hbx.cell 6
      have f6 := hbx.fz 6
      have hsubs := hcm.subs (base' := gC) (Nat.le_refl _) (by omega) (by rw [hI.len]; exact b5)
      have hmv := hI.rdr.move en
      have hgs := grown_set wr gB 6 (.int .i64 en)
      have hgBl : gB < gC := by have := HR.out.box.lt; have := HGC.out; omega
      have hml := HR.out.lt
      rw [hI.len] at hsubs
      have hpost : RdrPost w gB gM h chs l pv nM KB pos en (.returned (.tuple #[.slice (some ⟨gC, 0, none⟩) h.channels h.channels, .int .i64 0])) (wr.setCell ⟨gB, 6, none⟩ (.int .i64 en)) := by
        refine ⟨_, vs, M', KB', rfl, (hI.kp.mono (fun b hb => .inl (.inr hb))).trans (Kp.of hgs) (fun b hb => .inl (.inl (by injection hb))), ⟨hmv.box, hmv.row, hmv.lt, hmv.map.more (by omega), hmv.kept, hmv.kb⟩, hI.sub, ?_, fun b hb => ?_⟩
        · have := hsubs.kept hgs hgBl
          rw [← HGC.out]
          exact this
        · rcases hb with hb | ⟨i, hi, hb⟩
          · have e1 : gC = b := by simpa [Value.ownBlock] using hb
            exact (hI.own b (.inl e1.symm)).2
          · exact (hI.own b (.inr ⟨i, hi, hb⟩)).2
      clear hI hcm hsubs hmv hgs hbx hmin hgk hge hlt
      have HFS : Hid (k * h.block = fs) := hfs
      clear hfs
      go_wp2
      exact bodyPost_ret (v := .tuple #[.slice (some ⟨gC, 0, none⟩) h.channels h.channels, .int .i64 0]) (by simp [results, Try.results36, go_sem]) rfl hpost
end Go.Proofs.Ytncmgnmcggkhnaa

namespace Go.Proofs.Ytncmgnmcggkhnaa
open Go.RowKit

theorem grown_kp {w0 wr w' : World} {S : Nat → Prop} (hg : w0.grownBy wr none) (hk : Kp wr w' S) (hs : ∀ b, S b → w0.heap.size ≤ b) : w0.grownBy w' none :=
  ⟨hk.os.trans hg.os, hk.tape.trans hg.tape, hk.output.trans hg.output, Nat.le_trans hg.size hk.size, fun b hb hn => by rw [hk.block b (Nat.lt_of_lt_of_le hb hg.size) (fun e => by have := hs b e; omega), hg.block b hb hn]⟩

theorem open_of_sound {w w' : World} {s : ByteArray} {e : Ending} {r b : Nat} {chs : List (List Int)} (hA : decode s.data.toList = .sound r b chs) (h : OpenPost w s e w') :
    ∃ gB, e = .returned (.tuple #[.pointer (some ⟨gB, 0, none⟩), .int .i64 0, .int .i64 0]) ∧ w.grownBy w' none ∧ RdrNew w' w.heap.size gB r b chs := by
  obtain ⟨hg, h⟩ := h
  rw [hA] at h
  obtain ⟨gB, h1, h2⟩ := h
  exact ⟨gB, h1, hg, h2⟩

/-- the loop over the steps -/
def PcI (w0 wr : World) (gB gM : Nat) (h : Head) (l : List Fr) (pv : Value) (i place : Nat) : Prop :=
  w0.grownBy wr none ∧ place ≤ h.total ∧ ∃ M KB, Rdr wr gB gM h l pv place (1300 * i) M KB

set_option maxHeartbeats 4000000 in
set_option maxRecDepth 20000 in
theorem pieces_walk (w : World) (vr vt : Value) (raw steps : List Int) (wide channels block : Int) (h : Rin w vr raw) (hrl : raw.length ≤ 9223372036854775807) (hr64 : ∀ x ∈ raw, -9223372036854775808 ≤ x ∧ x ≤ 9223372036854775807) (hst : Rin w vt steps) (hs64 : ∀ x ∈ steps, -9223372036854775808 ≤ x ∧ x ≤ 9223372036854775807)
    (hw64 : -9223372036854775808 ≤ wide ∧ wide ≤ 9223372036854775807) (hc64 : -9223372036854775808 ≤ channels ∧ channels ≤ 9223372036854775807) (hb64 : -9223372036854775808 ≤ block ∧ block ≤ 9223372036854775807) :
    Calls Try.prog 10 #[vr, .int .i64 wide, .int .i64 channels, .int .i64 block, vt] w fun e w' => e = .returned (.bool true) ∧ w.grownBy w' none := by
  have HSO := ksound w vr raw wide channels 7 h hrl hr64 hw64 hc64 (by omega)
  obtain ⟨a, c, rfl, _⟩ := h
  obtain ⟨n, hn⟩ : ∃ n, raw.length = n := ⟨_, rfl⟩
  obtain ⟨sa, sc, rfl, hsat⟩ := hst
  obtain ⟨sn, hsn⟩ : ∃ sn, steps.length = sn := ⟨_, rfl⟩
  have HSN : Hid (steps.length = sn) := hsn
  have HSAT : Hid (∀ k, k < steps.length → ∃ b off, sa = some ⟨b, off, none⟩ ∧ w.cell? ⟨b, off + k, none⟩ = some (.int .i64 (steps.getD k 0))) := hsat
  have HS64 : Hid (∀ x ∈ steps, -9223372036854775808 ≤ x ∧ x ≤ 9223372036854775807) := hs64
  rw [hsn]
  rw [hn] at HSO ⊢
  clear hn hr64 hw64 hc64 hrl hsn hsat hs64
  go_enter Try.func10, Try.ntmps10
  go_wp2_with fail
  refine HSO.mono ?_
  rintro e w1 ⟨rt, bits, lv, vs, chs, rfl, hg1, hsubs, hM⟩
  clear HSO
  have hch1 : 1 ≤ chs.length ∧ chs.length ≤ 2 := by obtain ⟨_, _, _, _, h5, _⟩ := hM; omega
  have hvl := hsubs.len
  obtain ⟨lg, lcap, hlv, _, _, hcells⟩ := hsubs.cell (by omega)
  subst hlv
  obtain ⟨k, hk⟩ : ∃ k, vs.length = k := ⟨_, rfl⟩
  rw [hk] at hsubs ⊢
  have hkc : chs.length = k := by omega
  have hins := hsubs.ins
  clear hk hcells hvl
  obtain ⟨w2, hw2⟩ : ∃ w2, w1.alloc (.cells #[.int .i64 rt, .int .i64 bits, .slice (some ⟨lg, 0, none⟩) k lcap] 26) = w2 := ⟨_, rfl⟩
  have hg2 : w1.grownBy w2 none := by rw [← hw2]; exact grown_alloc (grown_refl _ _) _
  obtain ⟨gT, hgT⟩ : ∃ gT, w1.heap.size = gT := ⟨_, rfl⟩
  have hbT : Box w2 gT #[.int .i64 rt, .int .i64 bits, .slice (some ⟨lg, 0, none⟩) k lcap] 26 := by rw [← hgT, ← hw2]; exact Box.new _ _ _
  have hins2 := (hins.kept hg2).mono (D' := fun q => q < w2.heap.size) (fun b _ hb => hb)
  have HEN := kencoded w2 _ rt bits (min n 600) block chs hins2 hM (by omega) hb64
  have HW2 : Hid (w1.alloc (.cells #[.int .i64 rt, .int .i64 bits, .slice (some ⟨lg, 0, none⟩) k lcap] 26) = w2) := hw2
  have HGT : Hid (w1.heap.size = gT) := hgT
  have y0 : w2.cell? ⟨gT, 0, none⟩ = some (.int .i64 rt) := hbT.cell 0
  have y1 : w2.cell? ⟨gT, 1, none⟩ = some (.int .i64 bits) := hbT.cell 1
  have y2 : w2.cell? ⟨gT, 2, none⟩ = some (.slice (some ⟨lg, 0, none⟩) k lcap) := hbT.cell 2
  have HM : Hid (Made rt bits (min n 600) chs) := hM
  clear hw2 hgT hM hsubs hins
  go_upto_region 2 with fail
  rw [HW2.out, HGT.out]
  clear HW2 HGT
  go_wp2_with fail
  refine HEN.mono ?_
  rintro e w3 ⟨hg3, hh, hRS, hhr, hhb, rfl⟩
  have hgg3 := grown_trans hg1 (grown_trans hg2 hg3)
  have hel := hRS.encode_len
  have hdec := hRS.decode
  rw [hhr, hhb] at hdec
  have hsz := size_of (encode hh chs)
  have hdt := data_of (encode hh chs)
  have hins3 := hins2.kept hg3
  have hsnd3 := hins3.snd
  have hbT3 := hbT.kept hg3 (by simp)
  obtain ⟨st, hst⟩ : ∃ st, (⟨(encode hh chs).toArray⟩ : ByteArray) = st := ⟨_, rfl⟩
  rw [hst] at hsz hdt ⊢
  have hst60 : 42 ≤ st.size ∧ st.size ≤ 6000 := by omega
  have HOP := qopen w3 st (by unfold maxLen; omega)
  have HDE : Hid (decode st.data.toList = .sound rt bits chs) := by show _ = _; rw [hdt]; exact hdec
  clear HEN hst hsz hdt hdec hel hRS hhr hhb hins2 hg3 hg2 hg1 y0 y1 y2 hbT
  go_wp2_with fail
  refine HOP.mono ?_
  intro e w4 hop
  obtain ⟨gB, rfl, hg4, hnew⟩ := open_of_sound HDE.out hop
  obtain ⟨hd, l, pv, gM, _, _, hf, hgM3, _, hr4⟩ := hnew.rdr
  clear hop HOP HDE hnew hst60
  have hbT4 := hbT3.kept hg4 (by simp)
  have hsnd4 := hsnd3.kept hg4
  have hml := hr4.lt
  obtain ⟨tot, htot⟩ : ∃ tot, hd.total = tot := ⟨_, rfl⟩
  have hlen : ∀ j, j < k → (chs.getD j []).length = tot := fun j hj => by rw [← htot]; exact hf.total j (by rw [← hf.ch, hkc]; exact hj)
  have hchk : hd.channels = k := by rw [← hf.ch]; exact hkc
  obtain ⟨lg0, v0, ea, hc0, hlo0⟩ := hsnd4.at 0 (by omega)
  have e1 : lg0 = lg := by injection ea with ea; injection ea with ea; exact ea.symm
  subst e1
  obtain ⟨a0, c0, hv0⟩ := hlo0.slice
  subst hv0
  rw [hlen 0 (by omega)] at hc0
  have t4 : w4.cell? ⟨gT, 2, none⟩ = some (.slice (some ⟨lg0, 0, none⟩) k lcap) := hbT4.cell 2
  have HTO := rdr_total w4 gB gM hd l pv 0 0 _ _ hr4
  have HTE := rdr_tell w4 gB gM hd l pv 0 0 _ _ hr4
  rw [htot] at HTO
  have tne : ((tot : Int) != (tot : Int)) = false := by simp
  have hkz : (0 : Int) < (k : Int) := by omega
  go_upto_region 6 with fail
  go_wp2_with (first
    | (go_at_call 28; refine HTO.mono ?_; rintro e w5 ⟨rfl, rfl⟩)
    | (go_at_call 34; refine HTE.mono ?_; rintro e w5 ⟨rfl, rfl⟩))
  have hP0 : PcI w3 w5 gB gM hd l pv 0 0 := ⟨hg4, Nat.zero_le _, _, _, hr4⟩
  have HSND : Hid (Ins w3 (fun q => q < w2.heap.size) (.slice (some ⟨lg0, 0, none⟩) k lcap) chs) := hins3
  have HBT : Hid (Box w3 gT #[.int .i64 rt, .int .i64 bits, .slice (some ⟨lg0, 0, none⟩) k lcap] 26) := hbT3
  have HGG3 : Hid (w.grownBy w3 none) := hgg3
  have HF : Hid (FrOk hd chs l) := hf
  have HML : Hid (w3.heap.size ≤ gM ∧ gM < gB) := ⟨hgM3, hml⟩
  have HLEN : Hid (∀ j, j < k → (chs.getD j []).length = tot) := hlen
  have HTOT : Hid (hd.total = tot) := htot
  have HCHK : Hid (hd.channels = k) := hchk
  have HKC : Hid (chs.length = k) := hkc
  have htb : tot ≤ 1200 := by rw [← htot]; exact (headOk_parts hf.ok).2.2.2.2.2.2.2
  clear hlen htot hchk hkc hf hgM3 hml hgg3 hbT3 hsnd3 hins3 hr4 hg4 hbT4 hsnd4 hc0 hlo0 t4 HTO HTE hkz
  go_loopg [18, 19] 21 (fun gk t18 t19 wr => ∃ (i place : Nat), gk + i = 21 ∧ i ≤ 20 ∧ t18 = .int .i64 place ∧ t19 = .int .i64 i ∧ PcI w3 wr gB gM hd l pv i place)
  case atStart => exact ⟨0, 0, rfl, by omega, rfl, rfl, hP0⟩
  case round =>
    clear hP0
    obtain ⟨i, place, hgk, hi20, rfl, rfl, hP⟩ := hrel
    by_cases hgo : i < sn ∧ i < 20
    · have tg1 : decide ((i : Int) < (sn : Int)) = true := decide_eq_true (by omega)
      have tg2 : decide ((i : Int) < 20) = true := decide_eq_true (by omega)
      obtain ⟨sb, so, es, hsc⟩ := HSAT.out i (by rw [HSN.out]; exact hgo.1)
      subst es
      have hx64 := HS64.out (steps.getD i 0) (by have := HSN.out; simp [List.getD, show i < steps.length by omega])
      obtain ⟨x, hx⟩ : ∃ x, steps.getD i 0 = x := ⟨_, rfl⟩
      rw [hx] at hsc hx64
      have hscr : wr.cell? ⟨sb, so + i, none⟩ = some (.int .i64 x) := (grown_trans HGG3.out hP.1).cell hsc (by simp)
      have HPK : Calls _ _ #[_, .int .i64 1099511627776] _ _ := pick_any x 1099511627776 wr hx64.1 hx64.2 (by omega) (by omega)
      have hin1 := hgo.1
      have hin2 := hgo.2
      have HP : Hid (PcI w3 wr gB gM hd l pv i place) := hP
      clear hx hsc hP
      go_wp2_with fail
      refine HPK.mono ?_
      rintro e w9 ⟨c, hc, rfl, rfl⟩
      clear HPK hscr
      go_upto_if 91 with fail
      go_cut [18, 21] (fun s18 s21 wx => ∃ place', s18 = .int .i64 (place' : Nat) ∧ PcI w3 wx gB gM hd l pv i place')
      case first =>
        by_cases hc2 : c % 2 = 0
        · have tc : ((c : Int) % 2 == 0) = true := by
            have : ((c : Int) % 2) = 0 := by omega
            rw [this]; rfl
          obtain ⟨pl, hpl⟩ : ∃ pl, c / 2 % (tot + 1) = pl := ⟨_, rfl⟩
          have hplb : pl ≤ tot := by
            have := Nat.mod_lt (c / 2) (show tot + 1 > 0 by omega)
            omega
          have hplz : ((c : Int) / 2) % ((tot : Int) + 1) = (pl : Int) := by
            rw [← hpl]
            simp
          obtain ⟨hq0, hq1, Mq, KBq, hrq⟩ := HP.out
          have HSE := rdr_seek w9 gB gM hd l pv place (1300 * i) Mq KBq hrq pl (by rw [HTOT.out]; exact hplb)
          have HG0 : Hid (w3.grownBy w9 none) := hq0
          clear hq0 hq1 hrq hpl
          have HPLZ : Hid (((c : Int) / 2) % ((tot : Int) + 1) = (pl : Int)) := hplz
          have HPLB : Hid (pl ≤ tot) := hplb
          go_wp2_with fail
          refine HSE.mono ?_
          rintro e w10 ⟨rfl, hr10, hg10⟩
          have HPN : Hid (PcI w3 w10 gB gM hd l pv i pl) := ⟨grown_kp HG0.out (Kp.of hg10) (fun b hb => by injection hb with hb; have := HML.out; omega), by rw [HTOT.out]; exact HPLB.out, _, _, hr10⟩
          clear HSE hr10 hg10
          go_wp2
          go_meet
          case rel => exact ⟨pl, by first | rfl | rw [HPLZ.out], HPN.out⟩
        · have tc : ((c : Int) % 2 == 0) = false := by
            have : ((c : Int) % 2) = 1 := by omega
            rw [this]; rfl
          go_wp2
          go_meet
          case rel => exact ⟨place, rfl, HP.out⟩
      case rest =>
      obtain ⟨pl, rfl, hP⟩ := hcut
      obtain ⟨m, hm⟩ : ∃ m, c / 2 % 90 = m := ⟨_, rfl⟩
      have hmb : m < 90 := by rw [← hm]; exact Nat.mod_lt _ (by omega)
      have hmz : ((c : Int) / 2) % 90 = (m : Int) := by rw [← hm]; simp
      obtain ⟨hq0, hq1, Mq, KBq, hrq⟩ := hP
      have hplt : pl ≤ tot := by rw [← HTOT.out]; exact hq1
      have HRD := rdr_read wc gB gM hd chs l pv pl (1300 * i) Mq KBq hrq HF.out hq1 m (by omega) (by omega)
      rw [HTOT.out] at HRD
      obtain ⟨en, hen⟩ : ∃ en, pl + min m (tot - pl) = en := ⟨_, rfl⟩
      rw [hen] at HRD
      have henb : pl ≤ en ∧ en ≤ tot := by omega
      have HENE : Hid (min (pl + m) tot = en) := by show _ = _; omega
      have HG0 : Hid (w3.grownBy wc none) := hq0
      clear hq0 hq1 hrq hm hen HP
      go_wp2_with fail
      refine HRD.mono ?_
      rintro e w6 ⟨lv, vs6, M6, KB6, rfl, hk6, hr6, _, hsub6, _⟩
      have hg06 : w3.grownBy w6 none := grown_kp HG0.out hk6 (fun b hb => by have := HML.out; omega)
      have hln6 := hsub6.len
      have hcl6 : (cutAll pl en chs).length = k := by unfold cutAll; rw [List.length_map]; exact HKC.out
      obtain ⟨lg6, lcap6, hlv6, _, _, hcl⟩ := hsub6.cell (by have := hch1; have := HKC.out; omega)
      subst hlv6
      have hv6 : vs6.length = k := by omega
      rw [hv6] at hcl hsub6 ⊢
      have HP6 : Hid (PcI w3 w6 gB gM hd l pv (i + 1) en) := ⟨hg06, by rw [HTOT.out]; exact henb.2, M6, KB6, by rw [Nat.mul_add]; exact hr6⟩
      have HOUT : Hid (∀ j, j < k → ∃ u, w6.cell? ⟨lg6, j, none⟩ = some u ∧ Lo w6 u (((chs.getD j []).drop pl).take (en - pl))) := by
        intro j hj
        refine ⟨vs6.getD j undef, hcl j hj, ?_⟩
        have h1 := hsub6.own j (by omega)
        rw [cutAll_get pl en chs j (by rw [HKC.out]; exact hj)] at h1
        exact h1.ls.lo
      have HIN : Hid (∀ j, j < k → ∃ u, w6.cell? ⟨lg0, j, none⟩ = some u ∧ LoC w6 (fun q => q < w2.heap.size) u (chs.getD j [])) := by
        intro j hj
        rcases HSND.out.kept hg06 with ⟨e, _⟩ | ⟨lg', lcap', e, _, _, hc⟩
        · cases e
        · have e1 : lg0 = lg' := by injection e with e; injection e with e; injection e
          subst e1
          exact hc j (by rw [HKC.out]; exact hj)
      have HTE := rdr_tell w6 gB gM hd l pv en _ _ _ hr6
      have t6 : w6.cell? ⟨gT, 2, none⟩ = some (.slice (some ⟨lg0, 0, none⟩) k lcap) := hg06.cell (HBT.out.cell 2) (by simp)
      clear hcl hsub6 hln6 hcl6 hr6 hk6 HRD
      go_upto_region 23 with fail
      go_cut [25] (fun s25 wx => s25 = .int .i64 en ∧ wx = w6)
      case first =>
        go_wp2
        all_goals
          go_meet
          case rel => exact ⟨by have := HENE.out; congr 1; omega, rfl⟩
      case rest =>
      obtain ⟨rfl, rfl⟩ := hcut
      have tk : ((k : Int) != (k : Int)) = false := by simp
      have ten : ((en : Int) != (en : Int)) = false := by simp
      go_wp2_with (go_at_call 34; refine HTE.mono ?_; rintro e w7 ⟨rfl, rfl⟩)
      have HG6 : Hid (w3.grownBy w7 none) := hg06
      clear HTE t6 hg06
      obtain ⟨ko, rfl⟩ : ∃ ko : Nat, ko = gk := ⟨_, rfl⟩
      have HOM : Hid (ko + i = 21 ∧ i < 20) := ⟨hgk, hgo.2⟩
      go_loopg [26] k (fun gq t26 wq => ∃ j : Nat, gq + j = k ∧ t26 = .int .i64 j ∧ w7.grownBy wq none)
      case atStart => exact ⟨0, rfl, rfl, grown_refl _ _⟩
      case round =>
        obtain ⟨j, hgq, rfl, hgw⟩ := hrel
        have hk2 : k ≤ 2 := by have := HKC.out; omega
        by_cases hj : j < k
        · have tj : decide ((j : Int) < (k : Int)) = true := decide_eq_true (by omega)
          obtain ⟨u1, hu1, hlo1⟩ := HOUT.out j hj
          obtain ⟨u2, hu2, hlo2⟩ := HIN.out j hj
          have hlj := HLEN.out j hj
          have p1 := hgw.cell hu1 (by simp)
          have p2 : wr.cell? ⟨gT, 2, none⟩ = some (.slice (some ⟨lg0, 0, none⟩) k lcap) := hgw.cell (HG6.out.cell (HBT.out.cell 2) (by simp)) (by simp)
          have p3 := hgw.cell hu2 (by simp)
          have hlo1r : Lo wr.drew u1 (((chs.getD j []).drop pl).take (en - pl)) := hlo1.kept (grown_drew hgw)
          rcases hlo2 with ⟨rfl, hnil⟩ | ⟨b2, o2, cap2, rfl, hcap2, _, _, hc2⟩
          · have ht0 : tot = 0 := by rw [← hlj, hnil]; rfl
            obtain ⟨cap0, hc0⟩ : ∃ cap0 : Nat, 0 = cap0 := ⟨_, rfl⟩
            have p3' : wr.cell? ⟨lg0, j, none⟩ = some (.slice none tot cap0) := by rw [ht0, ← hc0]; exact p3
            have hv2 : Value.slice none (en - pl) (cap0 - pl) = .slice none 0 0 := by rw [show en - pl = 0 by omega, show cap0 - pl = 0 by omega]
            have hlo2 : Lo wr.drew (.slice none (en - pl) (cap0 - pl)) (((chs.getD j []).drop pl).take (en - pl)) := by
              rw [hv2, hnil]
              exact .inl ⟨rfl, by simp⟩
            have HSI := ksame_ints wr.drew u1 (.slice none (en - pl) (cap0 - pl)) _ hlo1r hlo2 (by rw [hnil]; simp)
            have HGW : Hid (w7.grownBy wr none) := hgw
            have f1 : (pl : Int) ≤ (en : Int) := by omega
            have f2 : (en : Int) ≤ (cap0 : Int) := by omega
            have hjz : (j : Int) < (k : Int) := by omega
            have Q1 : Hid (wr.cell? ⟨lg6, j, none⟩ = some u1) := p1
            have Q2 : Hid (wr.cell? ⟨gT, 2, none⟩ = some (.slice (some ⟨lg0, 0, none⟩) k lcap)) := p2
            have Q3 : Hid (wr.cell? ⟨lg0, j, none⟩ = some (.slice none tot cap0)) := p3'
            clear hu1 hu2 hlo1 hgw hlo1r hlj hnil ht0 hc0 hv2 hlo2 p3
            go_upto_region 29 with fail
            go_region_held (fun w' => w'.cell? ⟨lg6, j, none⟩ = some u1 ∧ w'.cell? ⟨gT, 2, none⟩ = some (.slice (some ⟨lg0, 0, none⟩) k lcap) ∧ w'.cell? ⟨lg0, j, none⟩ = some (.slice none tot cap0)) (go_keep) (first
              | (go_at_call 37; refine HSI.mono ?_; rintro e w8 ⟨rfl, d8, hw8⟩; have HG8 : Hid (wr.grownBy w8 none) := (by show wr.grownBy w8 none; rw [hw8]; exact grown_drewN (grown_drew (grown_refl _ _)) _); have q1 := HG8.out.cell Q1.out (by simp); have q2 := HG8.out.cell Q2.out (by simp); have q3 := HG8.out.cell Q3.out (by simp); clear hw8))
            all_goals
              go_wp2
              go_roundg (gk - 1)
              case measure => omega
              case rel => exact ⟨j + 1, by omega, by go_num, grown_trans HGW.out HG8.out⟩
          · rw [hlj] at hcap2 p3 hc2 hu2
            obtain ⟨ad, had⟩ : ∃ ad : Option Addr, (if cap2 = pl then some (⟨b2, o2, none⟩ : Addr) else some ⟨b2, o2 + pl, none⟩) = ad := ⟨_, rfl⟩
            have hlo2 : Lo wr.drew (.slice ad (en - pl) (cap2 - pl)) (((chs.getD j []).drop pl).take (en - pl)) := by
              have hll : (((chs.getD j []).drop pl).take (en - pl)).length = en - pl := by rw [List.length_take, List.length_drop, hlj]; omega
              by_cases hcp : cap2 = pl
              · rw [if_pos hcp] at had
                rw [← had]
                exact .inr ⟨b2, o2, cap2 - pl, by rw [hll], fun q hq => by rw [hll] at hq; omega⟩
              · rw [if_neg hcp] at had
                rw [← had]
                refine .inr ⟨b2, o2 + pl, cap2 - pl, by rw [hll], fun q hq => ?_⟩
                rw [hll] at hq
                have h1 := (grown_drew hgw).cell (hc2 (pl + q) (by omega)) (by simp)
                rw [Nat.add_assoc, h1]
                congr 2
                simp [List.getD, hq, List.getElem?_drop]
            have HSI := ksame_ints wr.drew u1 (.slice ad (en - pl) (cap2 - pl)) _ hlo1r hlo2 (by rw [List.length_take, List.length_drop, hlj]; omega)
            have HGW : Hid (w7.grownBy wr none) := hgw
            have f1 : (pl : Int) ≤ (en : Int) := by omega
            have f2 : (en : Int) ≤ (cap2 : Int) := by omega
            have hjz : (j : Int) < (k : Int) := by omega
            have Q1 : Hid (wr.cell? ⟨lg6, j, none⟩ = some u1) := p1
            have Q2 : Hid (wr.cell? ⟨gT, 2, none⟩ = some (.slice (some ⟨lg0, 0, none⟩) k lcap)) := p2
            have Q3 : Hid (wr.cell? ⟨lg0, j, none⟩ = some (.slice (some ⟨b2, o2, none⟩) tot cap2)) := p3
            clear hc2 hu1 hu2 hlo1 hgw hlo1r hlo2 hlj
            go_upto_region 29 with fail
            go_region_held (fun w' => w'.cell? ⟨lg6, j, none⟩ = some u1 ∧ w'.cell? ⟨gT, 2, none⟩ = some (.slice (some ⟨lg0, 0, none⟩) k lcap) ∧ w'.cell? ⟨lg0, j, none⟩ = some (.slice (some ⟨b2, o2, none⟩) tot cap2)) (go_keep) (first
              | (go_at_call 37; refine HSI.mono ?_; rintro e w8 ⟨rfl, d8, hw8⟩; have HG8 : Hid (wr.grownBy w8 none) := (by show wr.grownBy w8 none; rw [hw8]; exact grown_drewN (grown_drew (grown_refl _ _)) _); have q1 := HG8.out.cell Q1.out (by simp); have q2 := HG8.out.cell Q2.out (by simp); have q3 := HG8.out.cell Q3.out (by simp); clear hw8))
            all_goals
              go_wp2
              go_roundg (gk - 1)
              case measure => omega
              case rel => exact ⟨j + 1, by omega, by go_num, grown_trans HGW.out HG8.out⟩
        · have tj : decide ((j : Int) < (k : Int)) = false := decide_eq_false (by omega)
          have hje : j = k := by omega
          subst hje
          have HPF : Hid (PcI w3 wr gB gM hd l pv (i + 1) en) := by
            obtain ⟨h1, h2, M9, KB9, h3⟩ := HP6.out
            exact ⟨grown_trans h1 hgw, h2, M9, KB9, h3.kp (Kp.ofNone (S := fun _ => False) hgw) (fun _ _ e => e)⟩
          clear hgw hgq
          go_wp2
          go_roundg (ko - 1)
          case measure => have := HOM.out; omega
          case rel => exact ⟨i + 1, en, by have := HOM.out; omega, by have := HOM.out; omega, rfl, by go_num, HPF.out⟩
    · obtain ⟨hq0, hq1, Mq, KBq, hrq⟩ := hP
      have hpl : place ≤ tot := by rw [← HTOT.out]; exact hq1
      have HS1 := rdr_seek_no wr gB gM hd l pv place (1300 * i) Mq KBq hrq (-1) (by omega)
      have HS2 := rdr_seek_no wr gB gM hd l pv place (1300 * i) Mq KBq hrq ((tot : Int) + 1) (by rw [HTOT.out]; omega)
      have HR1 := rdr_read_no wr gB (-1) (by omega)
      have HT1 := rdr_tell wr gB gM hd l pv place (1300 * i) Mq KBq hrq
      have HGF : Hid (w.grownBy wr none) := grown_trans HGG3.out hq0
      have teq : ((place : Int) == (place : Int)) = true := by simp
      clear hq0 hq1 hrq
      by_cases h1 : i < sn
      · have tg1 : decide ((i : Int) < (sn : Int)) = true := decide_eq_true (by omega)
        have tg2 : decide ((i : Int) < 20) = false := decide_eq_false (by omega)
        have h20 : ¬ i < 20 := fun e => hgo ⟨h1, e⟩
        clear hgo
        go_wp2_with fail
        refine HS1.mono ?_
        rintro e w9 ⟨rfl, rfl⟩
        clear HS1
        go_wp2_with fail
        refine HS2.mono ?_
        rintro e w10 ⟨rfl, rfl⟩
        clear HS2
        go_wp2_with fail
        refine HR1.mono ?_
        rintro e w11 ⟨rfl, rfl⟩
        clear HR1
        go_wp2_with fail
        refine HT1.mono ?_
        rintro e w12 ⟨rfl, rfl⟩
        go_wp2
        exact bodyPost_ret (v := .bool true) (by simp [results, Try.results10, go_sem]) rfl ⟨rfl, HGF.out⟩
      · have tg1 : decide ((i : Int) < (sn : Int)) = false := decide_eq_false (by omega)
        clear hgo
        go_wp2_with fail
        refine HS1.mono ?_
        rintro e w9 ⟨rfl, rfl⟩
        clear HS1
        go_wp2_with fail
        refine HS2.mono ?_
        rintro e w10 ⟨rfl, rfl⟩
        clear HS2
        go_wp2_with fail
        refine HR1.mono ?_
        rintro e w11 ⟨rfl, rfl⟩
        clear HR1
        go_wp2_with fail
        refine HT1.mono ?_
        rintro e w12 ⟨rfl, rfl⟩
        go_wp2
        exact bodyPost_ret (v := .bool true) (by simp [results, Try.results10, go_sem]) rfl ⟨rfl, HGF.out⟩
end Go.Proofs.Ytncmgnmcggkhnaa
