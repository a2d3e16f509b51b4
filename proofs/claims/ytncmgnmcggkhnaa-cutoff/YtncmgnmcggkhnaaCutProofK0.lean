import Derived.Test.YtncmgnmcggkhnaaBackProofJ0
import Derived.Test.YtncmgnmcggkhnaaBackProofJ1
import Derived.Test.YtncmgnmcggkhnaaBackProofJ2
import Derived.Test.YtncmgnmcggkhnaaBackProofJ3
import Derived.Test.YtncmgnmcggkhnaaBackProofJ4
import Derived.Test.YtncmgnmcggkhnaaBackProofJ5
import Derived.Test.YtncmgnmcggkhnaaBackProofJ6
import Derived.Test.YtncmgnmcggkhnaaBackProofJ7
import Derived.Test.YtncmgnmcggkhnaaBackProofJ8
import Derived.Test.YtncmgnmcggkhnaaBackProofJ9
import Derived.Test.YtncmgnmcggkhnaaBackProofJ10
import Derived.Test.YtncmgnmcggkhnaaBackProofJ11
import Derived.Test.YtncmgnmcggkhnaaBackProofJ12
import Derived.Test.YtncmgnmcggkhnaaBackProofJ13
import Derived.Test.YtncmgnmcggkhnaaBackProofJ14
import Derived.Test.YtncmgnmcggkhnaaBackProofJ15
import Derived.Test.YtncmgnmcggkhnaaBackProofJ16
import Derived.Test.YtncmgnmcggkhnaaBackProofJ17
import Derived.Test.YtncmgnmcggkhnaaBackProofJ18
import Derived.Test.YtncmgnmcggkhnaaBackProofJ19
import Derived.Test.YtncmgnmcggkhnaaBackProofJ20
import Derived.Test.YtncmgnmcggkhnaaBackProofJ21
import Derived.Test.YtncmgnmcggkhnaaBackProofJ22
import Derived.Test.YtncmgnmcggkhnaaBackProofJ23
import Derived.Test.YtncmgnmcggkhnaaBackProofJ24
import Derived.Test.YtncmgnmcggkhnaaBackProofJ25
import Derived.Test.YtncmgnmcggkhnaaBackProofJ26
import Derived.Test.YtncmgnmcggkhnaaBackProofJ27
import Derived.Test.YtncmgnmcggkhnaaBackProofJ28
import Derived.Test.YtncmgnmcggkhnaaBackProofJ29
import Derived.Test.YtncmgnmcggkhnaaBackProofJ30
import Derived.Test.YtncmgnmcggkhnaaBackProofJ31
import Derived.Test.YtncmgnmcggkhnaaBackProofJ32
import Derived.Test.YtncmgnmcggkhnaaBackProofJ33
import Derived.Test.YtncmgnmcggkhnaaBackProofJ34
import Derived.Test.YtncmgnmcggkhnaaBackProofJ35
import Derived.Lib.BufferWrite
import Derived.Laws.MakeOwn
import Derived.Deep.RegionLaw
import Derived.Deep.AppendLies
import Derived.Carry
/-
  What a field is does not hang on what stands behind it.
-/
namespace Go.Proofs.Ytncmgnmcggkhnaa

def Loc {α : Type} (p : P α) : Prop := ∀ l x r, p l = some (x, r) → ∃ pre, l = pre ++ r ∧ ∀ r', p (pre ++ r') = some (x, r')

theorem Loc.fail {α : Type} : Loc (fun _ => none : P α) := fun l x r h => by cases h

theorem Loc.pure {α : Type} (y : α) : Loc (fun l => some (y, l) : P α) := fun l x r h => by
  injection h with h
  injection h with h1 h2
  subst h1 h2
  exact ⟨[], rfl, fun r' => rfl⟩

theorem Loc.bind {α β : Type} {p : P α} {F : α × List Bool → Option (β × List Bool)} (hp : Loc p) (hq : ∀ x, Loc (fun r => F (x, r) : P β)) : Loc (fun l => (p l).bind F : P β) := fun l x r h => by
  cases hl : p l with
  | none => simp only [hl] at h; cases h
  | some a =>
    obtain ⟨y, m⟩ := a
    simp only [hl] at h
    have h' : F (y, m) = some (x, r) := h
    obtain ⟨pre, e1, k1⟩ := hp l y m hl
    obtain ⟨pre2, e2, k2⟩ := hq y m x r h'
    refine ⟨pre ++ pre2, by rw [List.append_assoc, ← e2, ← e1], fun r' => ?_⟩
    show (p (pre ++ pre2 ++ r')).bind _ = _
    rw [List.append_assoc, k1]
    exact k2 r'

theorem Loc.map {α β : Type} {p : P α} {F : α × List Bool → β × List Bool} (f : α → β) (hf : ∀ x r, F (x, r) = (f x, r)) (hp : Loc p) : Loc (fun l => (p l).map F : P β) := fun l x r h => by
  cases hl : p l with
  | none => simp only [hl] at h; cases h
  | some a =>
    obtain ⟨y, m⟩ := a
    simp only [hl] at h
    injection h with h
    rw [hf] at h
    injection h with h1 h2
    subst h1 h2
    obtain ⟨pre, e1, k1⟩ := hp l y m hl
    exact ⟨pre, e1, fun r' => by show (p (pre ++ r')).map _ = _; rw [k1]; show some (F _) = _; rw [hf]⟩

theorem Loc.ite {α : Type} {c : Prop} [Decidable c] {p q : P α} (hp : Loc p) (hq : Loc q) : Loc (fun l => if c then p l else q l : P α) := fun l x r h => by
  by_cases hc : c
  · simp only [if_pos hc] at h ⊢
    exact hp l x r h
  · simp only [if_neg hc] at h ⊢
    exact hq l x r h

theorem loc_num (n : Nat) : Loc (pNum n) := fun l x r h => by
  unfold pNum at h
  split at h
  · rename_i hn
    injection h with h
    injection h with h1 h2
    subst h1 h2
    refine ⟨l.take n, by rw [List.take_append_drop], fun r' => ?_⟩
    have hl : (l.take n).length = n := by rw [List.length_take]; omega
    unfold pNum
    rw [if_pos (by rw [List.length_append]; omega), List.take_append_of_le_length (by omega), List.take_of_length_le (by omega), List.drop_append_of_le_length (by omega), List.drop_of_length_le (by omega)]
    rfl
  · cases h

theorem loc_signed (n : Nat) : Loc (pSigned n) := Loc.map (sign n) (fun _ _ => rfl) (loc_num n)

theorem loc_must (n v : Nat) : Loc (pMust n v) := by
  unfold pMust
  apply Loc.bind (loc_num n)
  intro x
  apply Loc.ite
  · exact Loc.pure ()
  · exact Loc.fail

theorem loc_noughts : Loc pNoughts := by
  intro l
  induction l with
  | nil => intro x r h; cases h
  | cons b l ih =>
    intro x r h
    cases b with
    | true =>
      injection h with h
      injection h with h1 h2
      subst h1 h2
      exact ⟨[true], rfl, fun r' => rfl⟩
    | false =>
      have h' : (pNoughts l).map (fun (q, r) => (q + 1, r)) = some (x, r) := h
      cases hl : pNoughts l with
      | none => rw [hl] at h'; cases h'
      | some a =>
        obtain ⟨y, m⟩ := a
        rw [hl] at h'
        injection h' with h'
        injection h' with h1 h2
        subst h1 h2
        obtain ⟨pre, e1, k1⟩ := ih y m hl
        exact ⟨false :: pre, by rw [e1]; rfl, fun r' => by show (pNoughts (pre ++ r')).map _ = _; rw [k1]; rfl⟩

theorem loc_list {f : P Int} (hf : Loc f) : ∀ n, Loc (pList f n)
  | 0 => Loc.pure []
  | n + 1 => Loc.bind hf fun x => Loc.map (fun xs => x :: xs) (fun _ _ => rfl) (loc_list hf n)

theorem loc_rice (k : Nat) : Loc (pRice k) := by
  unfold pRice
  apply Loc.bind loc_noughts
  intro q
  apply Loc.bind (loc_num k)
  intro v
  apply Loc.ite
  · exact Loc.pure _
  · exact Loc.fail

theorem loc_part (method many : Nat) : Loc (pPart method many) := by
  unfold pPart
  apply Loc.bind (loc_num _)
  intro k
  apply Loc.ite
  · apply Loc.bind (loc_num 5)
    intro m
    exact loc_list (loc_signed m) many
  · exact loc_list (loc_rice k) many

theorem loc_parts (method many : Nat) : ∀ (c less : Nat), Loc (pParts method many less c)
  | 0, _ => Loc.pure []
  | c + 1, _ => Loc.bind (loc_part _ _) fun xs => Loc.map (fun ys => xs ++ ys) (fun _ _ => rfl) (loc_parts method many c 0)

theorem loc_residue (n order : Nat) : Loc (pResidue n order) := by
  unfold pResidue
  apply Loc.bind (loc_num 2)
  intro method
  apply Loc.bind (loc_num 4)
  intro p
  apply Loc.ite
  · exact loc_parts _ _ _ _
  · exact Loc.fail

theorem Loc.some {α β : Type} {p : P α} {F : α × List Bool → Option (β × List Bool)} (f : α → Option β) (hF : ∀ x r, F (x, r) = (f x).map fun y => (y, r)) (hp : Loc p) : Loc (fun l => (p l).bind F : P β) := fun l x r h => by
  cases hl : p l with
  | none => simp only [hl] at h; cases h
  | some a =>
    obtain ⟨y, m⟩ := a
    simp only [hl] at h
    have h' : (f y).map (fun z => (z, m)) = Option.some (x, r) := by rw [← hF]; exact h
    cases hf : f y with
    | none => rw [hf] at h'; cases h'
    | some z =>
      rw [hf] at h'
      injection h' with h'
      injection h' with h1 h2
      subst h1 h2
      obtain ⟨pre, e1, k1⟩ := hp l y m hl
      refine ⟨pre, e1, fun r' => ?_⟩
      show (p (pre ++ r')).bind _ = _
      rw [k1]
      show F (y, r') = _
      rw [hF, hf]
      rfl

theorem loc_foretold (n wide : Nat) (first factors : List Int) (shift : Nat) : Loc (pForetold n wide first factors shift) :=
  Loc.some (fun res => predict wide factors shift first.reverse res) (fun _ _ => rfl) (loc_residue _ _)

theorem loc_fixed (n wide order : Nat) : Loc (pFixed n wide order) := by
  unfold pFixed
  apply Loc.ite
  · apply Loc.bind (loc_list (loc_signed wide) order)
    intro first
    exact loc_foretold _ _ _ _ _
  · exact Loc.fail

theorem loc_linear (n wide order : Nat) : Loc (pLinear n wide order) := by
  unfold pLinear
  apply Loc.ite
  · apply Loc.bind (loc_list (loc_signed wide) order)
    intro first
    apply Loc.bind (loc_num 4)
    intro fb
    apply Loc.bind (loc_signed 5)
    intro shift
    apply Loc.ite
    · exact Loc.fail
    · apply Loc.bind (loc_list (loc_signed (fb + 1)) order)
      intro factors
      exact loc_foretold _ _ _ _ _
  · exact Loc.fail

theorem loc_kind (kind n wide : Nat) : Loc (pKind kind n wide) := by
  unfold pKind
  refine Loc.ite (Loc.map (fun x => List.replicate n x) (fun _ _ => rfl) (loc_signed wide)) ?_
  refine Loc.ite (loc_list (loc_signed wide) n) ?_
  refine Loc.ite (loc_fixed _ _ _) ?_
  exact Loc.ite (loc_linear _ _ _) Loc.fail

theorem loc_less : Loc pLess := by
  unfold pLess
  apply Loc.bind (loc_num 1)
  intro c
  apply Loc.ite
  · apply Loc.map (fun q => q + 1) _ loc_noughts
    intro x r
    rfl
  · exact Loc.pure 0

theorem loc_subframe (n wide : Nat) : Loc (pSubframe n wide) := by
  unfold pSubframe
  apply Loc.bind (loc_must 1 0)
  intro _
  apply Loc.bind (loc_num 6)
  intro kind
  apply Loc.bind loc_less
  intro less
  apply Loc.ite
  · apply Loc.map (fun xs => xs.map (· * 2 ^ less)) _ (loc_kind _ _ _)
    intro x r
    rfl
  · exact Loc.fail

theorem loc_channels (n bits mode : Nat) : ∀ (c i : Nat), Loc (pChannels n bits mode c i)
  | 0, _ => Loc.pure []
  | c + 1, i => Loc.bind (loc_subframe _ _) fun x => Loc.map (fun xs => x :: xs) (fun _ _ => rfl) (loc_channels n bits mode c (i + 1))

theorem loc_head (h : Head) (number : Nat) (bytes : List UInt8) : Loc (pHead h number bytes) := by
  unfold pHead
  apply Loc.bind (loc_must _ _)
  intro _
  apply Loc.bind (loc_must _ _)
  intro _
  apply Loc.bind (loc_num _)
  intro mode
  apply Loc.bind (loc_must _ _)
  intro _
  apply Loc.bind (loc_must _ _)
  intro _
  apply Loc.bind (loc_num _)
  intro n1
  apply Loc.bind (loc_must _ _)
  intro _
  apply Loc.ite
  · exact Loc.pure _
  · exact Loc.fail

theorem loc_info : Loc pInfo := by
  unfold pInfo
  apply Loc.bind (loc_num _)
  intro block
  apply Loc.bind (loc_must _ _)
  intro _
  apply Loc.bind (loc_num _)
  intro _
  apply Loc.bind (loc_num _)
  intro rate
  apply Loc.bind (loc_num _)
  intro ch
  apply Loc.bind (loc_num _)
  intro bt
  apply Loc.bind (loc_num _)
  intro total
  apply Loc.bind (loc_num _)
  intro _
  apply Loc.ite
  · exact Loc.pure _
  · exact Loc.fail

theorem loc_block : Loc pBlock := by
  unfold pBlock
  apply Loc.bind (loc_num _)
  intro last
  apply Loc.bind (loc_num _)
  intro kind
  apply Loc.bind (loc_num _)
  intro size
  exact Loc.pure _
end Go.Proofs.Ytncmgnmcggkhnaa

namespace Go.Proofs.Ytncmgnmcggkhnaa
open Go.RowKit

theorem pHead_bytes (h : Head) (number : Nat) (b1 b2 : List UInt8) (e : b1.take 7 = b2.take 7) : pHead h number b1 = pHead h number b2 := by
  unfold pHead
  rw [e]

theorem must_fits {n v : Nat} {l r : List Bool} {u : Unit} (e : pMust n v l = some (u, r)) : r = l.drop n ∧ n ≤ l.length := by
  unfold pMust pNum at e
  split at e
  · rename_i hn
    simp only [Option.bind_some] at e
    split at e
    · injection e with e
      injection e with _ e
      exact ⟨e.symm, hn⟩
    · cases e
  · simp at e

/-- what a frame is does not hang on what stands behind it -/
theorem pFrame_local {h : Head} {number : Nat} {bytes rest : List UInt8} {chs : List (List Int)} (e : pFrame h number bytes = some (chs, rest)) :
    ∃ part, bytes = part ++ rest ∧ part ≠ [] ∧ ∀ rest', pFrame h number (part ++ rest') = some (chs, rest') := by
  have e0 := e
  unfold pFrame at e
  obtain ⟨⟨⟨mode, n⟩, r⟩, e1, e⟩ := Option.bind_eq_some_iff.mp e
  obtain ⟨⟨subs, r1⟩, e2, e⟩ := Option.bind_eq_some_iff.mp e
  obtain ⟨⟨u, r2⟩, e3, e⟩ := Option.bind_eq_some_iff.mp e
  obtain ⟨⟨u', r3⟩, e4, e⟩ := Option.bind_eq_some_iff.mp e
  simp only at e1 e2 e3 e4 e
  have hh := pHead_left e1
  split at e
  rotate_left
  · cases e
  rename_i hall
  injection e with e
  injection e with ec er
  obtain ⟨q0, a0, k0⟩ := loc_head h number bytes _ _ _ e1
  obtain ⟨q1, a1, k1⟩ := loc_channels n h.bits mode h.channels 0 _ _ _ e2
  obtain ⟨q2, a2, k2⟩ := loc_must _ _ _ _ _ e3
  obtain ⟨q3, a3, k3⟩ := loc_must _ _ _ _ _ e4
  obtain ⟨m2, n2⟩ := must_fits e3
  obtain ⟨m3, n3⟩ := must_fits e4
  have hB := bitsOf_length bytes
  have l2 : r2.length = r1.length - r1.length % 8 := by rw [m2, List.length_drop]
  have l3 : r3.length = r2.length - 16 := by rw [m3, List.length_drop]
  have lr : r.length ≤ (bitsOf bytes).length := by rw [a0, List.length_append]; omega
  have l1 : r1.length ≤ r.length := by rw [a1, List.length_append]; omega
  obtain ⟨t, ht⟩ : ∃ t, r3.length = 8 * t := ⟨r3.length / 8, by omega⟩
  have htb : t + 10 ≤ bytes.length := by omega
  have hr3 : r3.length / 8 = t := by omega
  have hr2 : r2.length / 8 = t + 2 := by omega
  rw [hr3] at er
  obtain ⟨k, hk⟩ : ∃ k, bytes.length - t = k := ⟨_, rfl⟩
  rw [hk] at er
  have hkl : k ≤ bytes.length := by omega
  have hcons : bitsOf (bytes.take k) = q0 ++ (q1 ++ (q2 ++ q3)) := by
    have hall2 : bitsOf (bytes.take k) ++ bitsOf (bytes.drop k) = (q0 ++ (q1 ++ (q2 ++ q3))) ++ r3 := by
      rw [← bitsOf_append, List.take_append_drop, a0, a1, a2, a3]
      simp only [List.append_assoc]
    have hlen : (bitsOf (bytes.take k)).length = (q0 ++ (q1 ++ (q2 ++ q3))).length := by
      have := congrArg List.length hall2
      rw [List.length_append, List.length_append, bitsOf_length, bitsOf_length, List.length_take, List.length_drop, ht] at this
      rw [bitsOf_length, List.length_take]
      omega
    exact (List.append_inj hall2 hlen).1
  refine ⟨bytes.take k, by rw [← er, List.take_append_drop], ?_, fun rest' => ?_⟩
  · intro e9
    have := congrArg List.length e9
    rw [List.length_take, List.length_nil] at this
    omega
  · have hpl : (bytes.take k).length = k := by rw [List.length_take]; omega
    have hbits : bitsOf (bytes.take k ++ rest') = q0 ++ (q1 ++ (q2 ++ (q3 ++ bitsOf rest'))) := by
      rw [bitsOf_append, hcons]
      simp only [List.append_assoc]
    unfold pFrame
    have e7 : (bytes.take k ++ rest').take 7 = bytes.take 7 := by
      rw [List.take_append_of_le_length (by omega), List.take_take, Nat.min_eq_left (by omega)]
    rw [pHead_bytes h number _ bytes e7, hbits, k0]
    simp only [Option.bind_some]
    rw [k1]
    simp only [Option.bind_some]
    have hB' := bitsOf_length rest'
    have hq : (q2 ++ (q3 ++ bitsOf rest')).length % 8 = r1.length % 8 := by
      rw [List.length_append, List.length_append, hB', a2, a3, List.length_append, List.length_append, ht]
      omega
    rw [hq, k2]
    simp only [Option.bind_some]
    have hq3 : q3.length = 16 := by
      have := congrArg List.length a3
      rw [List.length_append] at this
      omega
    have hm1 : (bytes.take k ++ rest').length - (q3 ++ bitsOf rest').length / 8 = k - 2 := by
      rw [List.length_append, List.length_append, hB', hpl, hq3]
      omega
    have hm2 : (bytes.take k ++ rest').take (k - 2) = bytes.take (bytes.length - r2.length / 8) := by
      rw [List.take_append_of_le_length (by omega), List.take_take, hr2, Nat.min_eq_left (by omega)]
      congr 1
      omega
    rw [hm1, hm2, k3]
    simp only [Option.bind_some]
    rw [if_pos hall, ec]
    have hm4 : (bytes.take k ++ rest').length - (bitsOf rest').length / 8 = (bytes.take k).length := by
      rw [List.length_append, hB']
      omega
    rw [hm4, List.drop_left]

/-- a stream's frames, cut off: none, or too few samples -/
def NoGood (h : Head) (res : Except Nat (List (List Int))) : Prop := (∃ n, res = .error n) ∨ ∃ cs, res = .ok cs ∧ (cs.headD []).length ≠ h.total

theorem right_frames_cut {h : Head} {chs : List (List Int)} (hr : RightS h chs) : ∀ (m i fuel : Nat) (ended : Bool) (P Q : List UInt8), i + m = nFrames h → (ended = true → m = 0) → P ++ Q = (List.range' i m).flatMap (encFr h chs) → Q ≠ [] → P.length < fuel →
    NoGood h (frames h fuel i (min (i * h.block) h.total) ended (chs.map (fun c => c.take (i * h.block))) P)
  | _, _, 0, _, _, _, _, _, _, _, hf => by omega
  | 0, i, fuel + 1, ended, P, Q, hi, _, hpq, hq, _ => by
    have e : P ++ Q = [] := hpq
    exact absurd (List.append_eq_nil_iff.1 e).2 hq
  | m + 1, i, fuel + 1, ended, P, Q, hi, he, hpq, hq, hf => by
    obtain ⟨b1, b2, b3, b4, b5, b6, b7, b8⟩ := headOk_parts hr.ok
    have hi' : i < nFrames h := by omega
    have hlt := (hr.nframes i).1 hi'
    have hl := encFr_length h chs i
    have hen : ended = false := by
      cases ended
      · rfl
      · have := he rfl; omega
    subst hen
    rw [List.range'_succ, List.flatMap_cons] at hpq
    unfold Go.Proofs.Ytncmgnmcggkhnaa.frames
    by_cases hP : P = []
    · rw [if_pos hP]
      refine .inr ⟨_, rfl, ?_⟩
      have hc := hr.ch
      have hc1 := hr.ch1
      cases chs with
      | nil => simp at hc; omega
      | cons c l =>
        show (c.take (i * h.block)).length ≠ h.total
        rw [List.length_take, hr.len c (by simp)]
        omega
    · rw [if_neg hP]
      by_cases hs : P.length < (encFr h chs i).length
      · cases hp : pFrame h i P with
        | none => exact .inl ⟨i, rfl⟩
        | some x =>
          obtain ⟨cs, rest⟩ := x
          obtain ⟨part, hp1, _, hp2⟩ := pFrame_local hp
          have h1 := hp2 (rest ++ Q)
          rw [← List.append_assoc, ← hp1, hpq, hr.frame i hi'] at h1
          injection h1 with h1
          injection h1 with _ h1
          have h2 := congrArg List.length h1
          have h3 := congrArg List.length hpq
          have h4 := congrArg List.length hp1
          simp only [List.length_append] at h2 h3 h4
          omega
      · obtain ⟨P', hP'⟩ : ∃ P', P = encFr h chs i ++ P' := by
          have h1 : P = (encFr h chs i ++ (List.range' (i + 1) m).flatMap (encFr h chs)).take P.length := by rw [← hpq, List.take_left]
          rw [List.take_append, List.take_of_length_le (by omega)] at h1
          exact ⟨_, h1⟩
        have hpq' : P' ++ Q = (List.range' (i + 1) m).flatMap (encFr h chs) := by
          rw [hP', List.append_assoc] at hpq
          exact List.append_cancel_left hpq
        rw [hP', hr.frame i hi']
        have hcl := hr.chunk_len i
        show NoGood h (if _ then _ else _)
        rw [hcl, if_neg (by simp; omega), zip_chunk]
        have e2 : min (i * h.block) h.total + min h.block (h.total - i * h.block) = min ((i + 1) * h.block) h.total := by rw [Nat.succ_mul]; omega
        rw [e2]
        have hPl : P.length = (encFr h chs i).length + P'.length := by rw [hP', List.length_append]
        refine right_frames_cut hr m (i + 1) fuel _ P' Q (by omega) (fun hd => ?_) hpq' hq (by omega)
        have hd' := of_decide_eq_true hd
        have h3 : ¬ (i + 1) * h.block < h.total := by rw [Nat.succ_mul]; omega
        have h4 : ¬ i + 1 < nFrames h := fun e => h3 ((hr.nframes (i + 1)).1 e)
        omega

theorem right_frames_more {h : Head} {chs : List (List Int)} (hr : RightS h chs) (T : List UInt8) (hT : T ≠ []) (hno : ∀ n, pFrame h n T = none) : ∀ (m i fuel : Nat) (ended : Bool), i + m = nFrames h → (ended = true → m = 0) → ((List.range' i m).flatMap (encFr h chs) ++ T).length < fuel →
    ∃ n, frames h fuel i (min (i * h.block) h.total) ended (chs.map (fun c => c.take (i * h.block))) ((List.range' i m).flatMap (encFr h chs) ++ T) = .error n
  | _, _, 0, _, _, _, hf => by omega
  | 0, i, fuel + 1, ended, hi, _, _ => by
    refine ⟨i, ?_⟩
    show frames h (fuel + 1) i _ ended _ T = _
    unfold Go.Proofs.Ytncmgnmcggkhnaa.frames
    rw [if_neg hT, hno]
  | m + 1, i, fuel + 1, ended, hi, he, hf => by
    obtain ⟨b1, b2, b3, b4, b5, b6, b7, b8⟩ := headOk_parts hr.ok
    have hi' : i < nFrames h := by omega
    have hlt := (hr.nframes i).1 hi'
    have hl := encFr_length h chs i
    have hen : ended = false := by
      cases ended
      · rfl
      · have := he rfl; omega
    subst hen
    rw [List.range'_succ, List.flatMap_cons, List.append_assoc] at hf ⊢
    rw [List.length_append] at hf
    unfold Go.Proofs.Ytncmgnmcggkhnaa.frames
    rw [if_neg (fun e => by have := congrArg List.length e; rw [List.length_append] at this; simp at this; rw [this.1] at hl; simp at hl), hr.frame i hi']
    have hcl := hr.chunk_len i
    dsimp only
    rw [hcl, if_neg (by simp; omega), zip_chunk]
    have e2 : min (i * h.block) h.total + min h.block (h.total - i * h.block) = min ((i + 1) * h.block) h.total := by rw [Nat.succ_mul]; omega
    rw [e2]
    refine right_frames_more hr T hT hno m (i + 1) fuel _ (by omega) (fun hd => ?_) (by omega)
    have hd' := of_decide_eq_true hd
    have h3 : ¬ (i + 1) * h.block < h.total := by rw [Nat.succ_mul]; omega
    have h4 : ¬ i + 1 < nFrames h := fun e => h3 ((hr.nframes (i + 1)).1 e)
    omega

/-- blocks have 42 bytes at least -/
theorem pBlocks_least {l r : List Bool} {h : Head} (e : pBlocks l = some (h, r)) : 336 ≤ l.length := by
  unfold pBlocks at e
  obtain ⟨⟨a1, r1⟩, e1, e⟩ := Option.bind_eq_some_iff.mp e
  obtain ⟨⟨a2, r2⟩, e2, e⟩ := Option.bind_eq_some_iff.mp e
  obtain ⟨⟨a3, r3⟩, e3, e⟩ := Option.bind_eq_some_iff.mp e
  obtain ⟨⟨a4, r4⟩, e4, e⟩ := Option.bind_eq_some_iff.mp e
  obtain ⟨⟨⟨last, kind, size⟩, r5⟩, e5, e⟩ := Option.bind_eq_some_iff.mp e
  have f1 := pmust_left e1
  have f2 := pmust_left e2
  have f3 := pmust_left e3
  have f4 := pmust_left e4
  unfold pBlock at e5
  obtain ⟨⟨c1, s1⟩, g1, e5⟩ := Option.bind_eq_some_iff.mp e5
  obtain ⟨⟨c2, s2⟩, g2, e5⟩ := Option.bind_eq_some_iff.mp e5
  obtain ⟨⟨c3, s3⟩, g3, e5⟩ := Option.bind_eq_some_iff.mp e5
  have f5 := pnum_left g1
  have f6 := pnum_left g2
  have f7 := pnum_left g3
  injection e5 with e5
  injection e5 with _ e5
  subst e5
  simp only at e
  split at e
  · obtain ⟨⟨hh, r6⟩, e6, e⟩ := Option.bind_eq_some_iff.mp e
    unfold pInfo at e6
    obtain ⟨⟨d1, t1⟩, q1, e6⟩ := Option.bind_eq_some_iff.mp e6
    obtain ⟨⟨d2, t2⟩, q2, e6⟩ := Option.bind_eq_some_iff.mp e6
    obtain ⟨⟨d3, t3⟩, q3, e6⟩ := Option.bind_eq_some_iff.mp e6
    obtain ⟨⟨d4, t4⟩, q4, e6⟩ := Option.bind_eq_some_iff.mp e6
    obtain ⟨⟨d5, t5⟩, q5, e6⟩ := Option.bind_eq_some_iff.mp e6
    obtain ⟨⟨d6, t6⟩, q6, e6⟩ := Option.bind_eq_some_iff.mp e6
    obtain ⟨⟨d7, t7⟩, q7, e6⟩ := Option.bind_eq_some_iff.mp e6
    obtain ⟨⟨d8, t8⟩, q8, e6⟩ := Option.bind_eq_some_iff.mp e6
    have p1 := pnum_left q1
    have p2 := pmust_left q2
    have p3 := pnum_left q3
    have p4 := pnum_left q4
    have p5 := pnum_left q5
    have p6 := pnum_left q6
    have p7 := pnum_left q7
    have p8 := pnum_left q8
    omega
  · cases e

theorem replicate_takes {h : Head} {chs : List (List Int)} (hr : RightS h chs) : chs.map (fun c => c.take (0 * h.block)) = List.replicate h.channels [] := by
  rw [List.eq_replicate_iff]
  exact ⟨by rw [List.length_map]; exact hr.ch, fun b hb => by obtain ⟨c, _, rfl⟩ := List.mem_map.1 hb; simp⟩

/-- a stream with something else behind its head -/
theorem decode_head {h : Head} {chs : List (List Int)} (hr : RightS h chs) (R : List UInt8) (hl : 42 + R.length ≤ 6000) :
    decode (headBytes h ++ R) = match frames h (42 + R.length + 1) 0 0 false (List.replicate h.channels []) R with
      | .error number => .err 4 number
      | .ok chs => if (chs.headD []).length = h.total then .sound h.rate h.bits chs else .err 5 0 := by
  have hL : (headBytes h ++ R).length = 42 + R.length := by rw [List.length_append, headBytes_length]
  unfold decode
  rw [if_neg (by omega), pBlocks_head h R hr.ok hr.ch1]
  simp only
  rw [hL, bitsOf_length, Nat.mul_div_cancel_left _ (by decide), Nat.add_sub_cancel, show (42 : Nat) = (headBytes h).length by rw [headBytes_length], List.drop_left, headBytes_length]
  cases frames h (42 + R.length + 1) 0 0 false (List.replicate h.channels []) R <;> rfl

/-- a stream that is cut off is none -/
theorem right_cut {h : Head} {chs : List (List Int)} (hr : RightS h chs) (k : Nat) (hk : k < (encode h chs).length) :
    ∃ e p, decode ((encode h chs).take k) = .err e p ∧ 3 ≤ e ∧ e ≤ 5 ∧ (k < 42 → e = 3) := by
  have hlen := hr.encode_len
  have hl : ((encode h chs).take k).length = k := by rw [List.length_take]; omega
  by_cases h42 : k < 42
  · refine ⟨3, 0, ?_, by omega, by omega, fun _ => rfl⟩
    unfold decode
    rw [if_neg (by omega)]
    cases hp : pBlocks (bitsOf ((encode h chs).take k)) with
    | none => rfl
    | some x =>
      obtain ⟨hh, r⟩ := x
      have := pBlocks_least hp
      rw [bitsOf_length, hl] at this
      omega
  · obtain ⟨F, hF⟩ : ∃ F, (List.range (nFrames h)).flatMap (encFr h chs) = F := ⟨_, rfl⟩
    have he : (encode h chs).take k = headBytes h ++ F.take (k - 42) := by
      unfold encode
      rw [hF, List.take_append, headBytes_length, List.take_of_length_le (by rw [headBytes_length]; omega)]
    have hel : (encode h chs).length = 42 + F.length := by unfold encode; rw [hF, List.length_append, headBytes_length]
    have hFl : (F.take (k - 42)).length = k - 42 := by rw [List.length_take]; omega
    have hn := right_frames_cut hr (nFrames h) 0 (42 + (F.take (k - 42)).length + 1) false (F.take (k - 42)) (F.drop (k - 42)) (by omega) (by simp) (by rw [List.take_append_drop, ← hF, List.range_eq_range'])
      (fun e => by have := congrArg List.length e; rw [List.length_drop, List.length_nil] at this; omega) (by omega)
    rw [Nat.zero_mul, Nat.zero_min] at hn
    have h0 := replicate_takes hr
    rw [Nat.zero_mul] at h0
    rw [h0] at hn
    rw [he, decode_head hr _ (by omega)]
    rcases hn with ⟨n, hn⟩ | ⟨cs, hn, hne⟩
    · rw [hn]
      exact ⟨4, n, rfl, by omega, by omega, fun e => by omega⟩
    · rw [hn]
      simp only
      rw [if_neg hne]
      exact ⟨5, 0, rfl, by omega, by omega, fun e => by omega⟩

theorem no_sync (more : List UInt8) : pMust 16 65528 (bitsOf (0 :: more)) = none := by
  unfold pMust pNum
  cases more with
  | nil => rfl
  | cons b l =>
    rw [if_pos (by rw [bitsOf_length]; simp; omega), bitsOf_cons, bitsOf_cons, ← List.append_assoc, List.take_append_of_le_length (by simp [byteBits_length]), List.take_of_length_le (by simp [byteBits_length])]
    simp only [Option.bind_some]
    have h1 : val (byteBits 0 ++ byteBits b) = val (byteBits b) := by
      unfold val
      rw [List.foldl_append]
      rfl
    have h2 := val_lt (byteBits b)
    rw [byteBits_length] at h2
    rw [h1, if_neg (by omega)]

theorem no_frame (h : Head) (n : Nat) (more : List UInt8) : pFrame h n (0 :: more) = none := by
  unfold pFrame pHead
  rw [no_sync]
  rfl

/-- a stream with more behind it is none -/
theorem right_more {h : Head} {chs : List (List Int)} (hr : RightS h chs) (more : List UInt8) :
    ((encode h chs).length + 1 + more.length > 6000 ∧ decode (encode h chs ++ 0 :: more) = .err 2 0) ∨ ∃ n, decode (encode h chs ++ 0 :: more) = .err 4 n := by
  by_cases hl : 6000 < (encode h chs ++ 0 :: more).length
  · refine .inl ⟨by rw [List.length_append, List.length_cons] at hl; omega, ?_⟩
    unfold decode
    rw [if_pos hl]
  · refine .inr ?_
    obtain ⟨F, hF⟩ : ∃ F, (List.range (nFrames h)).flatMap (encFr h chs) = F := ⟨_, rfl⟩
    have he : encode h chs ++ 0 :: more = headBytes h ++ (F ++ 0 :: more) := by unfold encode; rw [hF, List.append_assoc]
    have hL : (encode h chs ++ 0 :: more).length = 42 + (F ++ 0 :: more).length := by rw [he, List.length_append, headBytes_length]
    obtain ⟨n, hn⟩ := right_frames_more hr (0 :: more) (by simp) (fun n => no_frame h n more) (nFrames h) 0 (42 + (F ++ 0 :: more).length + 1) false (by omega) (by simp) (by rw [← List.range_eq_range', hF]; omega)
    rw [Nat.zero_mul, Nat.zero_min, ← List.range_eq_range', hF] at hn
    have h0 := replicate_takes hr
    rw [Nat.zero_mul] at h0
    rw [h0] at hn
    refine ⟨n, ?_⟩
    rw [he, decode_head hr _ (by omega), hn]
end Go.Proofs.Ytncmgnmcggkhnaa

namespace Go.Proofs.Ytncmgnmcggkhnaa
open Go.RowKit

set_option maxHeartbeats 2000000 in
set_option maxRecDepth 100000 in
/-- a copy of a text -/
theorem qslclone (w : World) (s : ByteArray) (hs : s.size ≤ 6000) :
    Calls Try.prog 79 #[.string s] w fun e w' => e = .returned (.string s) ∧ w.grownBy w' none := by
  by_cases h0 : s.size = 0
  · have hs : s = ⟨#[]⟩ := by
      apply ByteArray.ext
      exact Array.eq_empty_of_size_eq_zero h0
    subst hs
    go_enter Try.func79, Try.ntmps79
    go_wp2
    go_ret
    exact ⟨rfl, grown_refl _ _⟩
  · obtain ⟨i0, hi, hz0, hz1, hz2⟩ := info_parts infoU8
    have hsz1 : (Try.prog.info? 5).map (·.size) = some 1 := by rw [hi]; simp [hz1]
    obtain ⟨Z, hZ⟩ : ∃ Z, Z = madeCells (Value.int .u8 0).cells (((s.size : Nat) : Int).toNat * i0.size) := ⟨_, rfl⟩
    have hZs : Z.size = s.size := by rw [hZ, size_madeCells, hz1]; simp
    obtain ⟨w1, hw1⟩ : ∃ w1, w.alloc (.cells Z 5) = w1 := ⟨_, rfl⟩
    obtain ⟨g, hg⟩ : ∃ g, w.heap.size = g := ⟨_, rfl⟩
    have hmake : (Instr.makeSlice 59 (.int .i64 (s.size : Int)) (.int .i64 (s.size : Int))).run Try.prog w = .ok (.slice (some ⟨g, 0, none⟩) s.size s.size) w1 := by
      have h := run_make (P := Try.prog) w 59 5 i0 (.int .u8 0) Try.underlying59 hi hz0 .i64 .i64 (s.size : Int) (s.size : Int) (by omega) (by omega) (by rw [hz2]; omega) (by omega)
      rw [← hZ, hw1, hg] at h
      simpa using h
    have hb1 : Box w1 g Z 5 := by rw [← hg, ← hw1]; exact Box.new _ _ _
    have hbl1 : Below g w w1 := by rw [← hw1, ← hg]; exact (Below.refl _ w).alloc (Nat.le_refl _) _
    have hcopy := Lib.run_copy_row_string (P := Try.prog) w1 59 9 3 5 g 0 s.size s.size s Z 5 Try.underlying59 hsz1 hb1 (Nat.le_refl _) (by omega)
    obtain ⟨C, hC⟩ : ∃ C, (Z.toList.take 0 ++ Lib.byteCells s.data.toList ++ Z.toList.drop (0 + s.size)).toArray = C := ⟨_, rfl⟩
    rw [hC] at hcopy
    have hCl : C.toList = Lib.byteCells s.data.toList := by
      rw [← hC, List.toList_toArray, List.take_zero, List.nil_append, List.drop_of_length_le (by rw [Array.length_toList]; omega), List.append_nil]
    have hCs : C.size = s.size := by rw [← Array.length_toList, hCl, Lib.byteCells_length, ← Lib.size_eq]
    obtain ⟨w2, hw2⟩ : ∃ w2, w1.setRow g C = w2 := ⟨_, rfl⟩
    rw [hw2] at hcopy
    have hb2 : w2.heap[g]? = some (.cells C 5 (0, 0)) := by rw [← hw2]; exact setRow_heap _ _ Z _ 5 (0, 0) hb1
    have hbl2 : Below g w1 w2 := by rw [← hw2]; exact ⟨rfl, rfl, rfl, by simp, fun k hk => setRow_other _ _ _ _ (by omega)⟩
    have hne : s.data.toList ≠ [] := fun e => h0 (by rw [Lib.size_eq, e]; rfl)
    have hstr := Lib.run_unsafeString_row (P := Try.prog) w2 133 3 9 5 bldByteP bldCells g C.size (by unfold World.shape?; rw [hb2]) s.data.toList hne (by rw [← Lib.size_eq]; omega) (by rw [← Lib.size_eq]; omega)
      (fun j x hx => Lib.cells_of_row hb2 C.size j _ (by rw [List.take_of_length_le (by rw [Array.length_toList]; exact Nat.le_refl _), hCl]; simp [Lib.byteCells, hx]))
    rw [← Lib.size_eq] at hstr
    have hfin : Below g w (w2.freeze ⟨g, 0, none⟩ s.size) := Lib.below_freeze (hbl1.trans hbl2) (p := ⟨g, 0, none⟩) (Nat.le_refl _) _
    have HFIN : Hid (w.grownBy (w2.freeze ⟨g, 0, none⟩ s.size) none) := ⟨hfin.os, hfin.tape, hfin.output, hfin.size, fun k hk _ => hfin.block k (by rw [← hg]; exact hk)⟩
    have hpos : (0 : Int) < (s.size : Int) := by omega
    clear hfin hbl1 hbl2 hb1 hb2 hC hCl hCs hw1 hw2 hZ hZs hg hi hz0 hz1 hz2 hsz1
    go_enter Try.func79, Try.ntmps79
    go_wp2
    go_ret
    exact ⟨rfl, HFIN.out⟩

theorem qsclone (w : World) (s : ByteArray) (hs : s.size ≤ 6000) :
    Calls Try.prog 56 #[.string s] w fun e w' => e = .returned (.string s) ∧ w.grownBy w' none := by
  have HC := qslclone w s hs
  go_enter Try.func56, Try.ntmps56
  go_wp2_with (go_at_call 79; refine HC.mono ?_; rintro e w1 ⟨rfl, hg1⟩)
  go_ret
  exact ⟨rfl, hg1⟩
end Go.Proofs.Ytncmgnmcggkhnaa

namespace Go.Proofs.Ytncmgnmcggkhnaa
open Go.RowKit

theorem infoStr : (Try.prog.info? 9).map (fun i => (i.zero, i.size, i.bytes)) = some (some (.string ⟨#[]⟩), 1, 16) := by kernel_rfl

def strV (l : List UInt8) : Value := .string ⟨l.toArray⟩

theorem strV_data (s : ByteArray) : strV s.data.toList = .string s := by
  unfold strV
  rfl

/-- a reader in memory: its head, the bytes of its frames, where it is, the block of what it keeps -/
def readerC (h : Head) (pv : Value) (pos gM : Nat) : Array Value :=
  #[.int .i64 h.block, .int .i64 h.rate, .int .i64 h.channels, .int .i64 h.bits, .int .i64 h.total, pv, .int .i64 pos, .map (some gM)]

/-- what Open's function has made of the frames ahead: a list of their bytes -/
def JOpen (gV gB gM base : Nat) (h : Head) (w : World) (l : List Fr) (S : Nat → Prop) : Prop :=
  Box w gV #[.pointer (some ⟨gB, 0, none⟩)] 46 ∧ gM < gB ∧ gB < gV ∧ gV < base ∧ base ≤ w.heap.size ∧ w.heap[gM]? = some (.map #[] 0) ∧
    ∃ pv, Box w gB (readerC h pv 0 gM) 108 ∧ w.ownsRow base 9 1 pv l.length (l.map fun p => strV p.1) ∧ ∀ b, S b ↔ (b = gB ∨ pv.ownBlock = some b)

set_option maxHeartbeats 4000000 in
set_option maxRecDepth 20000 in
theorem take_open (gV gB gM base : Nat) (h : Head) : TakeOk 55 #[.pointer (some ⟨gV, 0, none⟩)] h (JOpen gV gB gM base h) := by
  refine ⟨?_, ?_, ?_⟩
  · intro w l S hJ b hb
    obtain ⟨_, _, _, _, h5, _, pv, hB, hrow, hS⟩ := hJ
    rcases (hS b).1 hb with rfl | e
    · exact hB.lt
    · exact (World.ownsRow.lt hrow b e).2
  · intro w w' l S hJ hg
    obtain ⟨h1, h2, h3, h4, h5, h6, pv, hB, hrow, hS⟩ := hJ
    refine ⟨h1.kept hg (by simp), h2, h3, h4, Nat.le_trans h5 hg.size, ?_, pv, hB.kept hg (by simp), ownsRow_kp hrow (Kp.ofNone (S := fun _ => False) hg) (fun _ _ e => e), hS⟩
    have hlt : gM < w.heap.size := by
      rcases Nat.lt_or_ge gM w.heap.size with h1 | h1
      · exact h1
      · rw [Array.getElem?_eq_none h1] at h6; cases h6
    rw [hg.block gM hlt (by simp), h6]
  · intro W l S D part chs v n total hJ _ _ _ _ _ _ _ _ hll hps
    obtain ⟨h1, h2, h3, h4, h5, h6, pv, hB, hrow, hS⟩ := hJ
    obtain ⟨i0, hi, hz0, hz1, hz2⟩ := info_parts infoStr
    have HI : Hid _ := hi
    have HZ0 : Hid _ := hz0
    have HZ1 : Hid _ := hz1
    have HZ2 : Hid _ := hz2
    clear hi hz0 hz1 hz2
    have HCL := fun w => qsclone w part hps
    obtain ⟨ap, cp, rfl⟩ := row_slice hrow
    obtain ⟨m, hm⟩ : ∃ m, l.length = m := ⟨_, rfl⟩
    obtain ⟨vs, hvs⟩ : ∃ vs, l.map (fun p => strV p.1) = vs := ⟨_, rfl⟩
    rw [hm] at hll
    rw [hm, hvs] at hrow
    rw [hm] at hB hS
    have hlt := World.ownsRow.lt hrow
    have HOWN : Hid (∀ w4 o, W.grownBy w4 none → (w4.alloc o).ownsRow base 9 1 (.slice ap m cp) m vs) := by
      intro w4 o hg4
      exact World.ownsRow.alloc (ownsRow_kp hrow (Kp.ofNone (S := fun _ => False) hg4) (fun _ _ e => e)) o
    have HBASE : Hid (∀ (w4 : World) o, W.grownBy w4 none → base ≤ (w4.alloc o).heap.size) := by
      intro w4 o hg4
      exact Nat.le_trans (Nat.le_trans h5 hg4.size) (by simp)
    have cV : W.cell? ⟨gV, 0, none⟩ = some (.pointer (some ⟨gB, 0, none⟩)) := h1.cell 0
    have cB : W.cell? ⟨gB, 5, none⟩ = some (.slice ap m cp) := hB.cell 5
    have fB := hB.fz 5
    have HV : Hid (∀ (w5 : World) o (w4 : World), W.grownBy w4 none → (w4.alloc o).grownBy w5 (Value.slice ap m cp).ownBlock → Box w5 gV #[.pointer (some ⟨gB, 0, none⟩)] 46 ∧ Box w5 gB (readerC h (.slice ap m cp) 0 gM) 108) := by
      intro w5 o w4 hg4 hg5
      have hga : W.grownBy (w4.alloc o) none := grown_alloc hg4 _
      refine ⟨(h1.kept hga (by simp)).kept hg5 (fun e => ?_), (hB.kept hga (by simp)).kept hg5 (fun e => ?_)⟩
      · have := (hlt gV e.symm).1; omega
      · have := (hlt gB e.symm).1; omega
    have hgM : gM < W.heap.size := by omega
    have hfin : ∀ (w4 : World) o (g cap' : Nat) (w5 : World), W.grownBy w4 none → (w4.alloc o).grownBy w5 (Value.slice ap m cp).ownBlock → w5.ownsRow base 9 1 (.slice (some ⟨g, 0, none⟩) (m + 1) cap') (m + 1) (vs ++ [.string part]) →
        ((Value.slice ap m cp).ownBlock = some g ∨ g = (w4.alloc o).heap.size) → TakePost (JOpen gV gB gM base h) W l S (part.data.toList, chs) (.returned (.tuple #[])) (w5.setCell ⟨gB, 5, none⟩ (.slice (some ⟨g, 0, none⟩) (m + 1) cap')) := by
      intro w4 o g cap' w5 hg4 hg5 hrow5 hat
      have hga : W.grownBy (w4.alloc o) none := grown_alloc hg4 _
      have hk5 : Kp W w5 S := (Kp.ofNone (S := S) hga).trans (Kp.of hg5) (fun b hb => .inl ((hS b).2 (.inr hb.symm)))
      have hgs := grown_set w5 gB 5 (.slice (some ⟨g, 0, none⟩) (m + 1) cap')
      have hk6 : Kp W (w5.setCell ⟨gB, 5, none⟩ (.slice (some ⟨g, 0, none⟩) (m + 1) cap')) S := hk5.trans (Kp.of hgs) (fun b hb => .inl ((hS b).2 (.inl (by injection hb))))
      have hgb := (World.ownsRow.lt hrow5 g rfl).1
      obtain ⟨bV, bB⟩ := HV.out w5 o w4 hg4 hg5
      refine ⟨rfl, hk6, fun b => b = gB ∨ b = g, ⟨bV.kept hgs (by simp; omega), h2, h3, h4, Nat.le_trans h5 hk6.size, ?_, _, bB.set 5 (.slice (some ⟨g, 0, none⟩) (m + 1) cap'), ?_, fun b => ?_⟩, fun b hb => ?_⟩
      · rw [hk6.block gM hgM (fun e => ?_), h6]
        rcases (hS gM).1 e with e | e
        · omega
        · have := (hlt gM e).1; omega
      · have := ownsRow_kp hrow5 (Kp.of hgs) (fun q hq e => by have hq' : g = q := (by simpa [Value.ownBlock] using hq); injection e with e; omega)
        rw [List.length_append, List.length_singleton, hm, List.map_append, hvs, List.map_singleton, strV_data]
        exact this
      · show (b = gB ∨ b = g) ↔ (b = gB ∨ some g = some b)
        constructor
        · rintro (e | e)
          · exact .inl e
          · exact .inr (by rw [e])
        · rintro (e | e)
          · exact .inl e
          · injection e with e
            exact .inr e.symm
      · rcases hb with e | e
        · exact .inl ((hS b).2 (.inl e))
        · rcases hat with h9 | h9
          · exact .inl ((hS b).2 (.inr (by rw [e]; exact h9)))
          · refine .inr ?_
            have := hga.size
            omega
    have HFIN : Hid _ := hfin
    show Calls Try.prog 55 #[.string part, v, .pointer (some ⟨gV, 0, none⟩)] W _
    have HD : Hid (∀ d, W.grownBy (W.drewN d) none) := fun d => grown_drewN (grown_refl _ _) d
    clear hfin hrow hS hB h1 h6 hm hvs hlt hgM
    go_enter Try.func55, Try.ntmps55
    go_upto_region 0 with fail
    go_region_law ((first
      | (refine step_append_lies _ (by rfl) (.tmp 9) (.tmp 12) 50 (by rfl) base 9 i0 (.string ⟨#[]⟩) 1 16 Try.underlying50 HI.out HZ0.out HZ1.out HZ2.out rfl (by decide) (.slice ap m cp) m vs (by simp [Act.eval]) (HOWN.out w4 _ hg4) ⟨w4.heap.size, 0, none⟩ 1 1 [.string part] (by simp [Act.eval]) rfl (one_elem w4 _ _) (by intro u hu; rw [List.mem_singleton.1 hu]; rfl) (by omega) (by unfold maxLen; omega) (by omega) (HBASE.out w4 _ hg4) _ rfl ?_; intro g cap' w5 hrow' hgrow hat hglt; have cV5 : w5.cell? ⟨gV, 0, none⟩ = some (.pointer (some ⟨gB, 0, none⟩)) := (HV.out w5 _ w4 hg4 hgrow).1.cell 0; have cB5 : w5.cell? ⟨gB, 5, none⟩ = some (.slice ap m cp) := (HV.out w5 _ w4 hg4 hgrow).2.cell 5; have fB5 := (HV.out w5 _ w4 hg4 hgrow).2.fz 5; have HROW' : Hid _ := hrow'; have HGROW : Hid _ := hgrow; have HAT : Hid _ := hat; clear hrow' hgrow hat)
      | (go_simp; go_at_call 56; refine (HCL _).mono ?_; rintro e w4 ⟨rfl, hg4d⟩; have hg4 : W.grownBy w4 none := grown_trans (grown_drew (grown_refl W none)) hg4d; have cV4 := hg4.cell cV (by simp); have cB4 := hg4.cell cB (by simp); have cV4a := (grown_alloc hg4 (.cells #[.string part] 9)).cell cV (by simp); have cB4a := (grown_alloc hg4 (.cells #[.string part] 9)).cell cB (by simp))))
    all_goals
      exact bodyPost_end (v := .tuple #[]) (by simp [results, Try.results55, go_sem]) rfl (HFIN.out w4 _ g cap' w5 hg4 HGROW.out HROW'.out HAT.out)
end Go.Proofs.Ytncmgnmcggkhnaa

namespace Go.Proofs.Ytncmgnmcggkhnaa
open Go.RowKit

/-- a reader in memory, as Open leaves it: the bytes of the frames of a stream that is right -/
def RdrNew (w : World) (base gB : Nat) (rate bits : Nat) (chs : List (List Int)) : Prop :=
  ∃ (h : Head) (l : List Fr) (pv : Value) (gM : Nat) (D : List UInt8) (ended : Bool), h.rate = rate ∧ h.bits = bits ∧ joined h.channels l = chs ∧ Fls h D l D.length ended ∧ headOk h = true ∧ 1 ≤ h.channels ∧ (chs.headD []).length = h.total ∧ D.length ≤ 6000 ∧
    base ≤ gM ∧ gM < gB ∧ Box w gB (readerC h pv 0 gM) 108 ∧ w.heap[gM]? = some (.map #[] 0) ∧ ∃ b2, gB < b2 ∧ w.ownsRow b2 9 1 pv l.length (l.map fun p => strV p.1)

def OpenPost (w : World) (s : ByteArray) (e : Ending) (w' : World) : Prop :=
  w.grownBy w' none ∧ match decode s.data.toList with
    | .err er p => e = .returned (.tuple #[.pointer none, .int .i64 er, .int .i64 p])
    | .sound r b chs => ∃ gB, e = .returned (.tuple #[.pointer (some ⟨gB, 0, none⟩), .int .i64 0, .int .i64 0]) ∧ RdrNew w' w.heap.size gB r b chs

set_option maxHeartbeats 4000000 in
set_option maxRecDepth 20000 in
theorem qopen (w : World) (s : ByteArray) (hsz : s.size ≤ maxLen) :
    Calls Try.prog 27 #[.string s] w (OpenPost w s) := by
  have HPH := fun w => qphead w s hsz
  clear hsz
  go_enter Try.func27, Try.ntmps27
  go_wp2_with fail
  refine (HPH w).mono ?_
  rintro e w1 ⟨hg1, hv, d, er, rfl, hcase⟩
  clear HPH
  have hvf : ∃ b1 b2 b3 b4 b5 : Int, hv = .agg #[.int .i64 b1, .int .i64 b2, .int .i64 b3, .int .i64 b4, .int .i64 b5] := by
    rcases hcase with ⟨_, rfl, _⟩ | ⟨_, rfl, _⟩ | ⟨_, _, h, _, _, rfl, _⟩
    · exact ⟨_, _, _, _, _, rfl⟩
    · exact ⟨_, _, _, _, _, rfl⟩
    · exact ⟨_, _, _, _, _, rfl⟩
  obtain ⟨b1, b2, b3, b4, b5, rfl⟩ := hvf
  obtain ⟨w2, hw2⟩ : ∃ w2, w1.alloc (.cells #[Value.int .i64 b1, .int .i64 b2, .int .i64 b3, .int .i64 b4, .int .i64 b5] 77) = w2 := ⟨_, rfl⟩
  have hg2 : w1.grownBy w2 none := by rw [← hw2]; exact grown_alloc (grown_refl _ _) _
  have hgg2 := grown_trans hg1 hg2
  obtain ⟨gH, hgH⟩ : ∃ gH, w1.heap.size = gH := ⟨_, rfl⟩
  have hbh2 : Box w2 gH #[Value.int .i64 b1, .int .i64 b2, .int .i64 b3, .int .i64 b4, .int .i64 b5] 77 := by rw [← hgH, ← hw2]; exact Box.new _ _ _
  have hs2 : w2.heap.size = gH + 1 := by rw [← hw2, ← hgH]; simp
  have HW2 : Hid (w1.alloc (.cells #[Value.int .i64 b1, .int .i64 b2, .int .i64 b3, .int .i64 b4, .int .i64 b5] 77) = w2) := hw2
  have HGH : Hid (w1.heap.size = gH) := hgH
  have HS2 : Hid (w2.heap.size = gH + 1) := hs2
  have hwH : w.heap.size ≤ gH := by rw [← hgH]; exact hg1.size
  clear hg1 hw2 hgH hg2 hs2
  go_upto_region 2 with fail
  rw [HW2.out, HGH.out]
  clear HW2 HGH
  by_cases her : er ≠ 0
  · have hd : decode s.data.toList = .err er 0 := by
      rcases hcase with ⟨rfl, _, hlong⟩ | ⟨rfl, _, hs, hnone⟩ | ⟨h1, _⟩
      · exact decode_long s hlong
      · exact decode_meta s hs hnone
      · exact absurd h1 her
    have hpost : OpenPost w s (.returned (.tuple #[.pointer none, .int .i64 er, .int .i64 0])) w2 := ⟨hgg2, by rw [hd]; rfl⟩
    have te : ((er : Int) != 0) = true := by simp; omega
    clear hd hcase her
    go_wp2
    exact bodyPost_ret (v := .tuple #[.pointer none, .int .i64 er, .int .i64 0]) (by simp [results, Try.results27, go_sem]) rfl hpost
  have her0 : er = 0 := by omega
  subst her0
  obtain ⟨hs, h, at', hat, hhv, rfl, hpb⟩ : s.size ≤ 6000 ∧ ∃ (h : Head) (at' : Nat), at' ≤ s.size ∧ Value.agg #[.int .i64 b1, .int .i64 b2, .int .i64 b3, .int .i64 b4, .int .i64 b5] = .agg (headC h) ∧ d = s.extract at' s.size ∧ pBlocks (bitsOf s.data.toList) = some (h, bitsOf (s.data.toList.drop at')) := by
    rcases hcase with ⟨h1, _⟩ | ⟨h1, _⟩ | ⟨_, h2, h3⟩
    · omega
    · omega
    · exact ⟨h2, h3⟩
  clear hcase her
  have hb5 : b1 = h.block ∧ b2 = h.rate ∧ b3 = h.channels ∧ b4 = h.bits ∧ b5 = h.total := by
    unfold headC at hhv
    injection hhv with e
    injection e with e
    injection e with e1 e
    injection e with e2 e
    injection e with e3 e
    injection e with e4 e
    injection e with e5 e
    injection e1 with _ e1
    injection e2 with _ e2
    injection e3 with _ e3
    injection e4 with _ e4
    injection e5 with _ e5
    exact ⟨e1, e2, e3, e4, e5⟩
  obtain ⟨rfl, rfl, rfl, rfl, rfl⟩ := hb5
  clear hhv
  have hspec := pBlocks_spec hpb (by rw [total_bits]; omega)
  have hc1 := hspec.2.2.2
  have hhok := hspec.2.2.1
  have hb1 : 16 ≤ h.block ∧ h.block ≤ 256 ∧ 4 ≤ h.bits ∧ h.bits ≤ 16 ∧ h.rate ≤ 655350 ∧ h.total ≤ 1200 ∧ h.channels ≤ 2 := by unfold headOk at hhok; simp at hhok; omega
  have HHOK : Hid (headOk h = true) := hhok
  have hdf := decode_frames s hs hpb
  have hrl : s.size - (bitsOf (s.data.toList.drop at')).length / 8 = at' := by rw [bitsOf_length, List.length_drop, dlen]; omega
  rw [hrl] at hdf
  have hex : (s.extract at' s.size).data.toList = s.data.toList.drop at' := by rw [extract_list, List.take_of_length_le (by rw [List.length_drop, dlen]; omega)]
  have hexs : (s.extract at' s.size).size = s.size - at' := by rw [← dlen, hex, List.length_drop, dlen]
  rw [frames_fuel h (s.size + 1) ((s.extract at' s.size).size + 1) 0 0 false _ _ (by rw [List.length_drop, dlen]; omega) (by rw [List.length_drop, dlen]; omega), ← hex] at hdf
  obtain ⟨d, hd⟩ : ∃ d, s.extract at' s.size = d := ⟨_, rfl⟩
  rw [hd] at hdf hexs ⊢
  obtain ⟨res, hres⟩ : ∃ res, frames h (d.size + 1) 0 0 false (List.replicate h.channels []) d.data.toList = res := ⟨_, rfl⟩
  have HRES : Hid (frames h (d.size + 1) 0 0 false (List.replicate h.channels []) d.data.toList = res) := hres
  rw [hres] at hdf
  have HDF : Hid (decode s.data.toList = ansOf h res) := hdf
  have hdsz : d.size ≤ 6000 := by omega
  clear hdf hres hex hexs hrl hhok hspec hpb hd hat
  have e0 : w2.cell? ⟨gH, 0, none⟩ = some (.int .i64 h.block) := hbh2.cell 0
  have e1 : w2.cell? ⟨gH, 1, none⟩ = some (.int .i64 h.rate) := hbh2.cell 1
  have e2 : w2.cell? ⟨gH, 2, none⟩ = some (.int .i64 h.channels) := hbh2.cell 2
  have e3 : w2.cell? ⟨gH, 3, none⟩ = some (.int .i64 h.bits) := hbh2.cell 3
  have e4 : w2.cell? ⟨gH, 4, none⟩ = some (.int .i64 h.total) := hbh2.cell 4
  have hmm := @run_makeMap Try.prog
  go_upto_region 5 with fail
  obtain ⟨gM, hgM⟩ : ∃ gM, w2.heap.size = gM := ⟨_, rfl⟩
  rw [hgM]
  obtain ⟨w5, hw5⟩ : ∃ w5, (((w2.alloc (.map #[] 0)).alloc (.cells #[.int .i64 h.block, .int .i64 h.rate, .int .i64 h.channels, .int .i64 h.bits, .int .i64 h.total, .slice none 0 0, .int .i64 0, .map (some gM)] 108)).alloc (.cells #[.pointer (some ⟨gM + 1, 0, none⟩)] 46)) = w5 := ⟨_, rfl⟩
  rw [hw5]
  have hg5 : w2.grownBy w5 none := by rw [← hw5]; exact grown_alloc (grown_alloc (grown_alloc (grown_refl _ _) _) _) _
  have hs5 : w5.heap.size = gM + 3 := by rw [← hw5, ← hgM]; simp
  have hm5 : w5.heap[gM]? = some (.map #[] 0) := by
    rw [← hw5, ← hgM]
    rw [Below.heap_alloc _ _ _ (by simp; omega), Below.heap_alloc _ _ _ (by simp)]
    show (w2.heap.push _)[w2.heap.size]? = _
    simp
  have hbB5 : Box w5 (gM + 1) (readerC h (.slice none 0 0) 0 gM) 108 := by
    have e : (w2.alloc (.map #[] 0)).heap.size = gM + 1 := by rw [← hgM]; simp
    rw [← hw5, ← e]
    exact (Box.new _ _ _).kept (grown_alloc (grown_refl _ none) _) (by simp)
  have hbV5 : Box w5 (gM + 2) #[.pointer (some ⟨gM + 1, 0, none⟩)] 46 := by
    have e : ((w2.alloc (.map #[] 0)).alloc (.cells #[.int .i64 h.block, .int .i64 h.rate, .int .i64 h.channels, .int .i64 h.bits, .int .i64 h.total, .slice none 0 0, .int .i64 0, .map (some gM)] 108)).heap.size = gM + 2 := by rw [← hgM]; simp
    rw [← hw5, ← e]
    exact Box.new _ _ _
  have hgg5 := grown_trans hgg2 hg5
  have hbh5 := hbh2.kept hg5 (by simp)
  have hwM : w.heap.size ≤ gM := by rw [← hgM]; exact hgg2.size
  have hJ0 : JOpen (gM + 2) (gM + 1) gM (gM + 3) h w5 [] (fun b => b = gM + 1 ∨ (Value.slice none 0 0).ownBlock = some b) :=
    ⟨hbV5, by omega, by omega, by omega, by omega, hm5, _, hbB5, World.ownsRow_nil _ _ _ _, fun b => Iff.rfl⟩
  have HEA := qeachframe w5 d h res 55 #[.pointer (some ⟨gM + 2, 0, none⟩)] _ _ (enters_of Try.func55 (by kernel_rfl) rfl) (take_open (gM + 2) (gM + 1) gM (gM + 3) h) hJ0 hdsz hc1 (by omega) (by omega) (by omega) (by omega) HRES.out
  clear e0 e1 e2 e3 e4 hw5 hgM hg5 hs5 hm5 hbB5 hmm
  have e0 : w5.cell? ⟨gH, 0, none⟩ = some (.int .i64 h.block) := hbh5.cell 0
  have e1 : w5.cell? ⟨gH, 1, none⟩ = some (.int .i64 h.rate) := hbh5.cell 1
  have e2 : w5.cell? ⟨gH, 2, none⟩ = some (.int .i64 h.channels) := hbh5.cell 2
  have e3 : w5.cell? ⟨gH, 3, none⟩ = some (.int .i64 h.bits) := hbh5.cell 3
  have e4 : w5.cell? ⟨gH, 4, none⟩ = some (.int .i64 h.total) := hbh5.cell 4
  unfold headC at HEA
  go_wp2_with fail
  refine HEA.mono ?_
  intro e w6 hpost
  obtain ⟨er, k, rfl⟩ := each_shape hpost
  clear HEA e0 e1 e2 e3 e4 hbh5 hbh2
  have hk6 : Kp w5 w6 (fun b => b = gM + 1 ∨ (Value.slice none 0 0).ownBlock = some b) := by obtain ⟨_, _, _, hk, _⟩ := hpost; exact hk
  have hgg6 : w.grownBy w6 none := by
    refine ⟨hk6.os.trans hgg5.os, hk6.tape.trans hgg5.tape, hk6.output.trans hgg5.output, Nat.le_trans hgg5.size hk6.size, fun b hb hn => ?_⟩
    rw [hk6.block b (Nat.lt_of_lt_of_le hb hgg5.size) (fun e => by rcases e with e | e; omega; cases e), hgg5.block b hb hn]
  by_cases her : er ≠ 0
  · have hd : decode s.data.toList = .err er k := by rw [HDF.out]; exact each_err hpost her
    have hpo : OpenPost w s (.returned (.tuple #[.pointer none, .int .i64 er, .int .i64 k])) w6 := ⟨hgg6, by rw [hd]⟩
    have te : ((er : Int) != 0) = true := by simp; omega
    clear hd her hpost hJ0 hk6
    go_wp2
    exact bodyPost_ret (v := .tuple #[.pointer none, .int .i64 er, .int .i64 k]) (by simp [results, Try.results27, go_sem]) rfl hpo
  have her0 : er = 0 := by omega
  subst her0
  obtain ⟨rfl, l, S', hJ, _, hS', hres, hans, ended, hfls⟩ := each_ok hpost
  have hd : decode s.data.toList = .sound h.rate h.bits (joined h.channels l) := by rw [HDF.out]; exact hans
  obtain ⟨bV6, j1, j2, j3, j4, j5, pv, bB6, hrow6, _⟩ := hJ
  have htot : ((joined h.channels l).headD []).length = h.total := by
    rw [hres] at hans
    unfold ansOf at hans
    by_cases hc : ((joined h.channels l).headD []).length = h.total
    · exact hc
    · simp only at hans
      rw [if_neg hc] at hans
      cases hans
  have hpo : OpenPost w s (.returned (.tuple #[.pointer (some ⟨gM + 1, 0, none⟩), .int .i64 0, .int .i64 0])) w6 := by
    refine ⟨hgg6, ?_⟩
    rw [hd]
    exact ⟨gM + 1, rfl, h, l, pv, gM, d.data.toList, ended, rfl, rfl, rfl, hfls, HHOK.out, hc1, htot, by rw [dlen]; exact hdsz, hwM, j1, bB6, j5, gM + 3, by omega, hrow6⟩
  have eV : w6.cell? ⟨gM + 2, 0, none⟩ = some (.pointer (some ⟨gM + 1, 0, none⟩)) := bV6.cell 0
  clear hd her hpost hJ0 hk6 hres hans hS' hfls bV6 bB6 hrow6 j5 htot
  go_wp2
  exact bodyPost_ret (v := .tuple #[.pointer (some ⟨gM + 1, 0, none⟩), .int .i64 0, .int .i64 0]) (by simp [results, Try.results27, go_sem]) rfl hpo
end Go.Proofs.Ytncmgnmcggkhnaa

namespace Go.Proofs.Ytncmgnmcggkhnaa
open Go.RowKit

theorem dec_of_err {w w' : World} {s : ByteArray} {e : Ending} {er p : Nat} (hA : decode s.data.toList = .err er p) (h : DecPost w s e w') : e = .returned (.tuple #[.agg #[.int .i64 0, .int .i64 0, .slice none 0 0], .int .i64 er, .int .i64 p]) ∧ w.grownBy w' none := by
  obtain ⟨hg, h⟩ := h
  rw [hA] at h
  exact ⟨h, hg⟩

theorem open_of_err {w w' : World} {s : ByteArray} {e : Ending} {er p : Nat} (hA : decode s.data.toList = .err er p) (h : OpenPost w s e w') : e = .returned (.tuple #[.pointer none, .int .i64 er, .int .i64 p]) ∧ w.grownBy w' none := by
  obtain ⟨hg, h⟩ := h
  rw [hA] at h
  exact ⟨h, hg⟩

set_option maxHeartbeats 4000000 in
set_option maxRecDepth 20000 in
theorem cutoff_walk (w : World) (vr : Value) (raw : List Int) (wide channels size at_ : Int) (more : ByteArray) (h : Rin w vr raw) (hrl : raw.length ≤ 9223372036854775807) (hr64 : ∀ x ∈ raw, -9223372036854775808 ≤ x ∧ x ≤ 9223372036854775807)
    (hw64 : -9223372036854775808 ≤ wide ∧ wide ≤ 9223372036854775807) (hc64 : -9223372036854775808 ≤ channels ∧ channels ≤ 9223372036854775807) (hb64 : -9223372036854775808 ≤ size ∧ size ≤ 9223372036854775807) (ha64 : -9223372036854775808 ≤ at_ ∧ at_ ≤ 9223372036854775807) (hmo : more.size ≤ 140737488351232) :
    Calls Try.prog 11 #[vr, .int .i64 wide, .int .i64 channels, .int .i64 size, .int .i64 at_, .string more] w fun e w' => e = .returned (.bool true) ∧ w.grownBy w' none := by
  have HSO := ksound w vr raw wide channels 7 h hrl hr64 hw64 hc64 (by omega)
  obtain ⟨a, c, rfl, _⟩ := h
  obtain ⟨n, hn⟩ : ∃ n, raw.length = n := ⟨_, rfl⟩
  rw [hn] at HSO ⊢
  clear hn hr64 hw64 hc64 hrl
  go_enter Try.func11, Try.ntmps11
  go_wp2_with fail
  refine HSO.mono ?_
  rintro e w1 ⟨rt, bits, lv, vs, chs, rfl, hg1, hsubs, hM⟩
  clear HSO
  have hch1 : 1 ≤ chs.length := by obtain ⟨_, _, _, _, h5, _⟩ := hM; omega
  have hvl := hsubs.len
  obtain ⟨lg, lcap, hlv, _, _, hcells⟩ := hsubs.cell (by omega)
  subst hlv
  obtain ⟨a0, c0, hv0⟩ := own_slice (hsubs.own 0 (by omega))
  have hl0 := hcells 0 (by omega)
  rw [hv0] at hl0
  obtain ⟨n0, hn0⟩ : ∃ n0, (chs.getD 0 []).length = n0 := ⟨_, rfl⟩
  rw [hn0] at hl0
  obtain ⟨k, hk⟩ : ∃ k, vs.length = k := ⟨_, rfl⟩
  rw [hk] at hsubs ⊢
  have hk1 : 1 ≤ k := by omega
  have hins := hsubs.ins
  clear hk hcells hv0 hn0 hvl
  obtain ⟨w2, hw2⟩ : ∃ w2, w1.alloc (.cells #[.int .i64 rt, .int .i64 bits, .slice (some ⟨lg, 0, none⟩) k lcap] 26) = w2 := ⟨_, rfl⟩
  have hg2 : w1.grownBy w2 none := by rw [← hw2]; exact grown_alloc (grown_refl _ _) _
  obtain ⟨gT, hgT⟩ : ∃ gT, w1.heap.size = gT := ⟨_, rfl⟩
  have hbT : Box w2 gT #[.int .i64 rt, .int .i64 bits, .slice (some ⟨lg, 0, none⟩) k lcap] 26 := by rw [← hgT, ← hw2]; exact Box.new _ _ _
  have hins2 := (hins.kept hg2).mono (D' := fun q => q < w2.heap.size) (fun b _ hb => hb)
  have HEN := kencoded w2 _ rt bits (min n 600) size chs hins2 hM (by omega) hb64
  have HW2 : Hid (w1.alloc (.cells #[.int .i64 rt, .int .i64 bits, .slice (some ⟨lg, 0, none⟩) k lcap] 26) = w2) := hw2
  have HGT : Hid (w1.heap.size = gT) := hgT
  have y0 : w2.cell? ⟨gT, 0, none⟩ = some (.int .i64 rt) := hbT.cell 0
  have y1 : w2.cell? ⟨gT, 1, none⟩ = some (.int .i64 bits) := hbT.cell 1
  have y2 : w2.cell? ⟨gT, 2, none⟩ = some (.slice (some ⟨lg, 0, none⟩) k lcap) := hbT.cell 2
  have HM : Hid (Made rt bits (min n 600) chs) := hM
  clear hw2 hgT hM hsubs hins
  go_upto_region 2 with fail
  rw [HW2.out, HGT.out]
  clear HW2 HGT
  go_wp2_with fail
  refine HEN.mono ?_
  rintro e w3 ⟨hg3, hh, hRS, hhr, hhb, rfl⟩
  have hgr3 := grown_trans hg2 hg3
  have hgg3 := grown_trans hg1 hgr3
  have hel := hRS.encode_len
  have hdec := hRS.decode
  rw [hhr, hhb] at hdec
  have hsz := size_of (encode hh chs)
  have hdt := data_of (encode hh chs)
  have hsnd3 := (hins2.kept hg3).snd
  have hbT3 := hbT.kept hg3 (by simp)
  have hl3 := hgr3.cell hl0 (by simp)
  have HCUT : Hid (∀ k, k < (encode hh chs).length → ∃ e p, decode ((encode hh chs).take k) = .err e p ∧ 3 ≤ e ∧ e ≤ 5 ∧ (k < 42 → e = 3)) := right_cut hRS
  have HMORE : Hid (((encode hh chs).length + 1 + more.data.toList.length > 6000 ∧ decode (encode hh chs ++ 0 :: more.data.toList) = .err 2 0) ∨ ∃ n, decode (encode hh chs ++ 0 :: more.data.toList) = .err 4 n) := right_more hRS more.data.toList
  obtain ⟨st, hst⟩ : ∃ st, (⟨(encode hh chs).toArray⟩ : ByteArray) = st := ⟨_, rfl⟩
  rw [hst] at hsz hdt ⊢
  rw [← hdt] at HCUT HMORE
  have hst60 : 42 ≤ st.size ∧ st.size ≤ 6000 := by omega
  have HCO := kcomes w3 _ rt bits chs st (by unfold maxLen; omega) (by rw [hdt]; exact hdec) hsnd3 (by obtain ⟨_, _, _, _, h5, _⟩ := HM.out; omega) (fun d hd => by have := (HM.out.2.2.2.2.2 d hd).1; omega)
  have z0 : w3.cell? ⟨gT, 0, none⟩ = some (.int .i64 rt) := hbT3.cell 0
  have z1 : w3.cell? ⟨gT, 1, none⟩ = some (.int .i64 bits) := hbT3.cell 1
  have z2 : w3.cell? ⟨gT, 2, none⟩ = some (.slice (some ⟨lg, 0, none⟩) k lcap) := hbT3.cell 2
  have hdl : st.data.toList.length = st.size := dlen st
  clear HEN hst hsz hdt hdec hel hRS hhr hhb hsnd3 hins2 hg3 hg2 hg1 y0 y1 y2 hbT hgr3 hl0
  go_wp2_with fail
  refine HCO.mono ?_
  rintro e w4 ⟨rfl, hg4⟩
  have hgg4 := grown_trans hgg3 hg4
  have hbT4 := hbT3.kept hg4 (by simp)
  have hl4 := hg4.cell hl3 (by simp)
  clear HCO z0 z1 z2 hbT3 hgg3 hg4 hl3
  have HPI : Calls _ _ #[_, .int .i64 st.size] _ _ := pick_any at_ st.size w4 ha64.1 ha64.2 (by omega) (by omega)
  go_wp2_with fail
  refine HPI.mono ?_
  rintro e w9 ⟨q, hq, rfl, rfl⟩
  clear HPI
  obtain ⟨er, pl, hcut, her3, her5, her42⟩ := HCUT.out q (by rw [hdl]; exact hq)
  have hexl : (st.extract 0 q).data.toList = st.data.toList.take q := by rw [extract_list]; simp
  have hexs : (st.extract 0 q).size ≤ 6000 := by rw [← dlen, hexl, List.length_take, hdl]; omega
  rw [← hexl] at hcut
  have HCUTE : Hid (decode (st.extract 0 q).data.toList = .err er pl) := hcut
  have HD1 := qdecode w9 (st.extract 0 q) (by unfold maxLen; omega)
  have HO1 := fun w => qopen w (st.extract 0 q) (by unfold maxLen; omega)
  have hqz : (q : Int) ≤ (st.size : Int) := by omega
  clear hcut hexl hexs HCUT
  go_wp2_with fail
  refine HD1.mono ?_
  intro e w10 hdp
  obtain ⟨rfl, hg10⟩ := dec_of_err HCUTE.out hdp
  clear hdp HD1
  obtain ⟨gX, hgX⟩ : ∃ gX, w10.heap.size = gX := ⟨_, rfl⟩
  obtain ⟨w11, hw11⟩ : ∃ w11, w10.alloc (.cells #[.int .i64 0, .int .i64 0, .slice none 0 0] 26) = w11 := ⟨_, rfl⟩
  have hg11 : w10.grownBy w11 none := by rw [← hw11]; exact grown_alloc (grown_refl _ _) _
  have hbX11 : Box w11 gX #[.int .i64 0, .int .i64 0, .slice none 0 0] 26 := by rw [← hgX, ← hw11]; exact Box.new _ _ _
  have hgr11 := grown_trans hg10 hg11
  have hgg11 := grown_trans hgg4 hgr11
  have hbT11 := hbT4.kept hgr11 (by simp)
  have hl11 := hgr11.cell hl4 (by simp)
  have HO2 := HO1 w11
  have HW11 : Hid (w10.alloc (.cells #[.int .i64 0, .int .i64 0, .slice none 0 0] 26) = w11) := hw11
  have HGX : Hid (w10.heap.size = gX) := hgX
  clear HO1 hw11 hgX hg10 hg11 hgr11 hgg4 hbT4 hl4
  go_upto_region 8 with fail
  rw [HW11.out, HGX.out]
  clear HW11 HGX
  go_wp2_with fail
  refine HO2.mono ?_
  intro e w12 hdp
  obtain ⟨rfl, hg12⟩ := open_of_err HCUTE.out hdp
  clear hdp HO2 HCUTE
  have hgg12 := grown_trans hgg11 hg12
  have hbT12 := hbT11.kept hg12 (by simp)
  have hbX12 := hbX11.kept hg12 (by simp)
  have hl12 := hg12.cell hl11 (by simp)
  have x0 : w12.cell? ⟨gX, 0, none⟩ = some (.int .i64 0) := hbX12.cell 0
  have x2 : w12.cell? ⟨gX, 2, none⟩ = some (.slice none 0 0) := hbX12.cell 2
  have z2 : w12.cell? ⟨gT, 2, none⟩ = some (.slice (some ⟨lg, 0, none⟩) k lcap) := hbT12.cell 2
  have te : ((er : Int) == 0) = false := by simp; omega
  have tn : ((er : Int) != (er : Int)) = false := by simp
  have hkz : (0 : Int) < (k : Int) := by omega
  clear hg12 hgg11 hbT11 hbX11 hl11
  go_upto_region 11 with fail
  go_cut [101] (fun s101 wx => s101 = .bool false ∧ wx = w12)
  case first =>
    by_cases hn0 : n0 = 0
    · have t0 : ((n0 : Int) == 0) = true := by simp; omega
      by_cases h42 : q < 42
      · have t1 : decide ((q : Int) < 42) = true := decide_eq_true (by omega)
        have t2 : ((er : Int) != 3) = false := by rw [her42 h42]; rfl
        clear hn0 her42
        go_wp2
        go_meet
        case rel => exact ⟨rfl, rfl⟩
      · have t1 : decide ((q : Int) < 42) = false := decide_eq_false (by omega)
        clear hn0 her42
        go_wp2
        go_meet
        case rel => exact ⟨rfl, rfl⟩
    · have t0 : ((n0 : Int) == 0) = false := by simp; omega
      clear her42
      go_wp2
      go_meet
      case rel => exact ⟨rfl, rfl⟩
  case rest =>
  obtain ⟨rfl, rfl⟩ := hcut
  clear x0 x2 z2 te tn her42 hl12 hbX12 hbT12
  have hcl : (st ++ ⟨#[0]⟩ ++ more).data.toList = st.data.toList ++ 0 :: more.data.toList := by
    rw [ByteArray.data_append, ByteArray.data_append, Array.toList_append, Array.toList_append, List.append_assoc]
    rfl
  have hcs : (st ++ ⟨#[0]⟩ ++ more).size ≤ maxLen := by
    rw [← dlen, hcl, List.length_append, List.length_cons, dlen, dlen]
    unfold maxLen
    omega
  have HD2 := qdecode wc _ hcs
  have hmore : ∃ g p, decode (st ++ ⟨#[0]⟩ ++ more).data.toList = .err g p ∧ (g = 4 ∨ (g = 2 ∧ 6000 < st.size + 1 + more.size)) := by
    rw [hcl]
    rcases HMORE.out with ⟨h1, h2⟩ | ⟨n, h2⟩
    · rw [hdl, dlen] at h1
      exact ⟨2, 0, h2, .inr ⟨rfl, h1⟩⟩
    · exact ⟨4, n, h2, .inl rfl⟩
  obtain ⟨g, p, hdg, hg4⟩ := hmore
  have HDG : Hid (decode (st ++ ⟨#[0]⟩ ++ more).data.toList = .err g p) := hdg
  clear HMORE hcl hcs hdg
  go_wp2_with fail
  refine HD2.mono ?_
  intro e w13 hdp
  obtain ⟨rfl, hg13⟩ := dec_of_err HDG.out hdp
  have hgf : w.grownBy (w13.alloc (.cells #[.int .i64 0, .int .i64 0, .slice none 0 0] 26)) none := grown_alloc (grown_trans hgg12 hg13) _
  have HGF : Hid _ := hgf
  clear hdp HD2 HDG hgf hgg12 hg13
  rcases hg4 with rfl | ⟨rfl, hlong⟩
  · go_wp2
    exact bodyPost_ret (v := .bool true) (by simp [results, Try.results11, go_sem]) rfl ⟨rfl, HGF.out⟩
  · have tl : decide ((6000 : Int) < (st.size : Int) + 1 + (more.size : Int)) = true := decide_eq_true (by omega)
    go_wp2
    exact bodyPost_ret (v := .bool true) (by simp [results, Try.results11, go_sem]) rfl ⟨rfl, HGF.out⟩
end Go.Proofs.Ytncmgnmcggkhnaa
