import Derived.Test.YtncmgnmcggkhnaaG00
import Derived.Test.YtncmgnmcggkhnaaG09
import Derived.Test.YtncmgnmcggkhnaaG10
import Derived.Test.YtncmgnmcggkhnaaG25
import Derived.Test.YtncmgnmcggkhnaaG29
import Derived.Lib.BufferWrite
import Derived.Laws.MakeOwn
/-
  What a field is does not hang on what stands behind it.
-/
namespace Go.Proofs.Ytncmgnmcggkhnaa

def Loc {α : Type} (p : P α) : Prop := ∀ l x r, p l = some (x, r) → ∃ pre, l = pre ++ r ∧ ∀ r', p (pre ++ r') = some (x, r')

theorem Loc.fail {α : Type} : Loc (fun _ => none : P α) := fun l x r h => by cases h

theorem Loc.pure {α : Type} (y : α) : Loc (fun l => some (y, l) : P α) := fun l x r h => by
  injection h with h
  injection h with h1 h2
  subst h1 h2
  exact ⟨[], rfl, fun r' => rfl⟩

theorem Loc.bind {α β : Type} {p : P α} {F : α × List Bool → Option (β × List Bool)} (hp : Loc p) (hq : ∀ x, Loc (fun r => F (x, r) : P β)) : Loc (fun l => (p l).bind F : P β) := fun l x r h => by
  cases hl : p l with
  | none => simp only [hl] at h; cases h
  | some a =>
    obtain ⟨y, m⟩ := a
    simp only [hl] at h
    have h' : F (y, m) = some (x, r) := h
    obtain ⟨pre, e1, k1⟩ := hp l y m hl
    obtain ⟨pre2, e2, k2⟩ := hq y m x r h'
    refine ⟨pre ++ pre2, by rw [List.append_assoc, ← e2, ← e1], fun r' => ?_⟩
    show (p (pre ++ pre2 ++ r')).bind _ = _
    rw [List.append_assoc, k1]
    exact k2 r'

theorem Loc.map {α β : Type} {p : P α} {F : α × List Bool → β × List Bool} (f : α → β) (hf : ∀ x r, F (x, r) = (f x, r)) (hp : Loc p) : Loc (fun l => (p l).map F : P β) := fun l x r h => by
  cases hl : p l with
  | none => simp only [hl] at h; cases h
  | some a =>
    obtain ⟨y, m⟩ := a
    simp only [hl] at h
    injection h with h
    rw [hf] at h
    injection h with h1 h2
    subst h1 h2
    obtain ⟨pre, e1, k1⟩ := hp l y m hl
    exact ⟨pre, e1, fun r' => by show (p (pre ++ r')).map _ = _; rw [k1]; show some (F _) = _; rw [hf]⟩

theorem Loc.ite {α : Type} {c : Prop} [Decidable c] {p q : P α} (hp : Loc p) (hq : Loc q) : Loc (fun l => if c then p l else q l : P α) := fun l x r h => by
  by_cases hc : c
  · simp only [if_pos hc] at h ⊢
    exact hp l x r h
  · simp only [if_neg hc] at h ⊢
    exact hq l x r h

theorem loc_num (n : Nat) : Loc (pNum n) := fun l x r h => by
  unfold pNum at h
  split at h
  · rename_i hn
    injection h with h
    injection h with h1 h2
    subst h1 h2
    refine ⟨l.take n, by rw [List.take_append_drop], fun r' => ?_⟩
    have hl : (l.take n).length = n := by rw [List.length_take]; omega
    unfold pNum
    rw [if_pos (by rw [List.length_append]; omega), List.take_append_of_le_length (by omega), List.take_of_length_le (by omega), List.drop_append_of_le_length (by omega), List.drop_of_length_le (by omega)]
    rfl
  · cases h

theorem loc_signed (n : Nat) : Loc (pSigned n) := Loc.map (sign n) (fun _ _ => rfl) (loc_num n)

theorem loc_must (n v : Nat) : Loc (pMust n v) := by
  unfold pMust
  apply Loc.bind (loc_num n)
  intro x
  apply Loc.ite
  · exact Loc.pure ()
  · exact Loc.fail

theorem loc_noughts : Loc pNoughts := by
  intro l
  induction l with
  | nil => intro x r h; cases h
  | cons b l ih =>
    intro x r h
    cases b with
    | true =>
      injection h with h
      injection h with h1 h2
      subst h1 h2
      exact ⟨[true], rfl, fun r' => rfl⟩
    | false =>
      have h' : (pNoughts l).map (fun (q, r) => (q + 1, r)) = some (x, r) := h
      cases hl : pNoughts l with
      | none => rw [hl] at h'; cases h'
      | some a =>
        obtain ⟨y, m⟩ := a
        rw [hl] at h'
        injection h' with h'
        injection h' with h1 h2
        subst h1 h2
        obtain ⟨pre, e1, k1⟩ := ih y m hl
        exact ⟨false :: pre, by rw [e1]; rfl, fun r' => by show (pNoughts (pre ++ r')).map _ = _; rw [k1]; rfl⟩

theorem loc_list {f : P Int} (hf : Loc f) : ∀ n, Loc (pList f n)
  | 0 => Loc.pure []
  | n + 1 => Loc.bind hf fun x => Loc.map (fun xs => x :: xs) (fun _ _ => rfl) (loc_list hf n)

theorem loc_rice (k : Nat) : Loc (pRice k) := by
  unfold pRice
  apply Loc.bind loc_noughts
  intro q
  apply Loc.bind (loc_num k)
  intro v
  apply Loc.ite
  · exact Loc.pure _
  · exact Loc.fail

theorem loc_part (method many : Nat) : Loc (pPart method many) := by
  unfold pPart
  apply Loc.bind (loc_num _)
  intro k
  apply Loc.ite
  · apply Loc.bind (loc_num 5)
    intro m
    exact loc_list (loc_signed m) many
  · exact loc_list (loc_rice k) many

theorem loc_parts (method many : Nat) : ∀ (c less : Nat), Loc (pParts method many less c)
  | 0, _ => Loc.pure []
  | c + 1, _ => Loc.bind (loc_part _ _) fun xs => Loc.map (fun ys => xs ++ ys) (fun _ _ => rfl) (loc_parts method many c 0)

theorem loc_residue (n order : Nat) : Loc (pResidue n order) := by
  unfold pResidue
  apply Loc.bind (loc_num 2)
  intro method
  apply Loc.bind (loc_num 4)
  intro p
  apply Loc.ite
  · exact loc_parts _ _ _ _
  · exact Loc.fail

theorem Loc.some {α β : Type} {p : P α} {F : α × List Bool → Option (β × List Bool)} (f : α → Option β) (hF : ∀ x r, F (x, r) = (f x).map fun y => (y, r)) (hp : Loc p) : Loc (fun l => (p l).bind F : P β) := fun l x r h => by
  cases hl : p l with
  | none => simp only [hl] at h; cases h
  | some a =>
    obtain ⟨y, m⟩ := a
    simp only [hl] at h
    have h' : (f y).map (fun z => (z, m)) = Option.some (x, r) := by rw [← hF]; exact h
    cases hf : f y with
    | none => rw [hf] at h'; cases h'
    | some z =>
      rw [hf] at h'
      injection h' with h'
      injection h' with h1 h2
      subst h1 h2
      obtain ⟨pre, e1, k1⟩ := hp l y m hl
      refine ⟨pre, e1, fun r' => ?_⟩
      show (p (pre ++ r')).bind _ = _
      rw [k1]
      show F (y, r') = _
      rw [hF, hf]
      rfl

theorem loc_foretold (n wide : Nat) (first factors : List Int) (shift : Nat) : Loc (pForetold n wide first factors shift) :=
  Loc.some (fun res => predict wide factors shift first.reverse res) (fun _ _ => rfl) (loc_residue _ _)

theorem loc_fixed (n wide order : Nat) : Loc (pFixed n wide order) := by
  unfold pFixed
  apply Loc.ite
  · apply Loc.bind (loc_list (loc_signed wide) order)
    intro first
    exact loc_foretold _ _ _ _ _
  · exact Loc.fail

theorem loc_linear (n wide order : Nat) : Loc (pLinear n wide order) := by
  unfold pLinear
  apply Loc.ite
  · apply Loc.bind (loc_list (loc_signed wide) order)
    intro first
    apply Loc.bind (loc_num 4)
    intro fb
    apply Loc.bind (loc_signed 5)
    intro shift
    apply Loc.ite
    · exact Loc.fail
    · apply Loc.bind (loc_list (loc_signed (fb + 1)) order)
      intro factors
      exact loc_foretold _ _ _ _ _
  · exact Loc.fail

theorem loc_kind (kind n wide : Nat) : Loc (pKind kind n wide) := by
  unfold pKind
  refine Loc.ite (Loc.map (fun x => List.replicate n x) (fun _ _ => rfl) (loc_signed wide)) ?_
  refine Loc.ite (loc_list (loc_signed wide) n) ?_
  refine Loc.ite (loc_fixed _ _ _) ?_
  exact Loc.ite (loc_linear _ _ _) Loc.fail

theorem loc_less : Loc pLess := by
  unfold pLess
  apply Loc.bind (loc_num 1)
  intro c
  apply Loc.ite
  · apply Loc.map (fun q => q + 1) _ loc_noughts
    intro x r
    rfl
  · exact Loc.pure 0

theorem loc_subframe (n wide : Nat) : Loc (pSubframe n wide) := by
  unfold pSubframe
  apply Loc.bind (loc_must 1 0)
  intro _
  apply Loc.bind (loc_num 6)
  intro kind
  apply Loc.bind loc_less
  intro less
  apply Loc.ite
  · apply Loc.map (fun xs => xs.map (· * 2 ^ less)) _ (loc_kind _ _ _)
    intro x r
    rfl
  · exact Loc.fail

theorem loc_channels (n bits mode : Nat) : ∀ (c i : Nat), Loc (pChannels n bits mode c i)
  | 0, _ => Loc.pure []
  | c + 1, i => Loc.bind (loc_subframe _ _) fun x => Loc.map (fun xs => x :: xs) (fun _ _ => rfl) (loc_channels n bits mode c (i + 1))

theorem loc_head (h : Head) (number : Nat) (bytes : List UInt8) : Loc (pHead h number bytes) := by
  unfold pHead
  apply Loc.bind (loc_must _ _)
  intro _
  apply Loc.bind (loc_must _ _)
  intro _
  apply Loc.bind (loc_num _)
  intro mode
  apply Loc.bind (loc_must _ _)
  intro _
  apply Loc.bind (loc_must _ _)
  intro _
  apply Loc.bind (loc_num _)
  intro n1
  apply Loc.bind (loc_must _ _)
  intro _
  apply Loc.ite
  · exact Loc.pure _
  · exact Loc.fail

theorem loc_info : Loc pInfo := by
  unfold pInfo
  apply Loc.bind (loc_num _)
  intro block
  apply Loc.bind (loc_must _ _)
  intro _
  apply Loc.bind (loc_num _)
  intro _
  apply Loc.bind (loc_num _)
  intro rate
  apply Loc.bind (loc_num _)
  intro ch
  apply Loc.bind (loc_num _)
  intro bt
  apply Loc.bind (loc_num _)
  intro total
  apply Loc.bind (loc_num _)
  intro _
  apply Loc.ite
  · exact Loc.pure _
  · exact Loc.fail

theorem loc_block : Loc pBlock := by
  unfold pBlock
  apply Loc.bind (loc_num _)
  intro last
  apply Loc.bind (loc_num _)
  intro kind
  apply Loc.bind (loc_num _)
  intro size
  exact Loc.pure _
end Go.Proofs.Ytncmgnmcggkhnaa

namespace Go.Proofs.Ytncmgnmcggkhnaa
open Go.RowKit

theorem pHead_bytes (h : Head) (number : Nat) (b1 b2 : List UInt8) (e : b1.take 7 = b2.take 7) : pHead h number b1 = pHead h number b2 := by
  unfold pHead
  rw [e]

theorem must_fits {n v : Nat} {l r : List Bool} {u : Unit} (e : pMust n v l = some (u, r)) : r = l.drop n ∧ n ≤ l.length := by
  unfold pMust pNum at e
  split at e
  · rename_i hn
    simp only [Option.bind_some] at e
    split at e
    · injection e with e
      injection e with _ e
      exact ⟨e.symm, hn⟩
    · cases e
  · simp at e

/-- what a frame is does not hang on what stands behind it -/
theorem pFrame_local {h : Head} {number : Nat} {bytes rest : List UInt8} {chs : List (List Int)} (e : pFrame h number bytes = some (chs, rest)) :
    ∃ part, bytes = part ++ rest ∧ part ≠ [] ∧ ∀ rest', pFrame h number (part ++ rest') = some (chs, rest') := by
  have e0 := e
  unfold pFrame at e
  obtain ⟨⟨⟨mode, n⟩, r⟩, e1, e⟩ := Option.bind_eq_some_iff.mp e
  obtain ⟨⟨subs, r1⟩, e2, e⟩ := Option.bind_eq_some_iff.mp e
  obtain ⟨⟨u, r2⟩, e3, e⟩ := Option.bind_eq_some_iff.mp e
  obtain ⟨⟨u', r3⟩, e4, e⟩ := Option.bind_eq_some_iff.mp e
  simp only at e1 e2 e3 e4 e
  have hh := pHead_left e1
  split at e
  rotate_left
  · cases e
  rename_i hall
  injection e with e
  injection e with ec er
  obtain ⟨q0, a0, k0⟩ := loc_head h number bytes _ _ _ e1
  obtain ⟨q1, a1, k1⟩ := loc_channels n h.bits mode h.channels 0 _ _ _ e2
  obtain ⟨q2, a2, k2⟩ := loc_must _ _ _ _ _ e3
  obtain ⟨q3, a3, k3⟩ := loc_must _ _ _ _ _ e4
  obtain ⟨m2, n2⟩ := must_fits e3
  obtain ⟨m3, n3⟩ := must_fits e4
  have hB := bitsOf_length bytes
  have l2 : r2.length = r1.length - r1.length % 8 := by rw [m2, List.length_drop]
  have l3 : r3.length = r2.length - 16 := by rw [m3, List.length_drop]
  have lr : r.length ≤ (bitsOf bytes).length := by rw [a0, List.length_append]; omega
  have l1 : r1.length ≤ r.length := by rw [a1, List.length_append]; omega
  obtain ⟨t, ht⟩ : ∃ t, r3.length = 8 * t := ⟨r3.length / 8, by omega⟩
  have htb : t + 10 ≤ bytes.length := by omega
  have hr3 : r3.length / 8 = t := by omega
  have hr2 : r2.length / 8 = t + 2 := by omega
  rw [hr3] at er
  obtain ⟨k, hk⟩ : ∃ k, bytes.length - t = k := ⟨_, rfl⟩
  rw [hk] at er
  have hkl : k ≤ bytes.length := by omega
  have hcons : bitsOf (bytes.take k) = q0 ++ (q1 ++ (q2 ++ q3)) := by
    have hall2 : bitsOf (bytes.take k) ++ bitsOf (bytes.drop k) = (q0 ++ (q1 ++ (q2 ++ q3))) ++ r3 := by
      rw [← bitsOf_append, List.take_append_drop, a0, a1, a2, a3]
      simp only [List.append_assoc]
    have hlen : (bitsOf (bytes.take k)).length = (q0 ++ (q1 ++ (q2 ++ q3))).length := by
      have := congrArg List.length hall2
      rw [List.length_append, List.length_append, bitsOf_length, bitsOf_length, List.length_take, List.length_drop, ht] at this
      rw [bitsOf_length, List.length_take]
      omega
    exact (List.append_inj hall2 hlen).1
  refine ⟨bytes.take k, by rw [← er, List.take_append_drop], ?_, fun rest' => ?_⟩
  · intro e9
    have := congrArg List.length e9
    rw [List.length_take, List.length_nil] at this
    omega
  · have hpl : (bytes.take k).length = k := by rw [List.length_take]; omega
    have hbits : bitsOf (bytes.take k ++ rest') = q0 ++ (q1 ++ (q2 ++ (q3 ++ bitsOf rest'))) := by
      rw [bitsOf_append, hcons]
      simp only [List.append_assoc]
    unfold pFrame
    have e7 : (bytes.take k ++ rest').take 7 = bytes.take 7 := by
      rw [List.take_append_of_le_length (by omega), List.take_take, Nat.min_eq_left (by omega)]
    rw [pHead_bytes h number _ bytes e7, hbits, k0]
    simp only [Option.bind_some]
    rw [k1]
    simp only [Option.bind_some]
    have hB' := bitsOf_length rest'
    have hq : (q2 ++ (q3 ++ bitsOf rest')).length % 8 = r1.length % 8 := by
      rw [List.length_append, List.length_append, hB', a2, a3, List.length_append, List.length_append, ht]
      omega
    rw [hq, k2]
    simp only [Option.bind_some]
    have hq3 : q3.length = 16 := by
      have := congrArg List.length a3
      rw [List.length_append] at this
      omega
    have hm1 : (bytes.take k ++ rest').length - (q3 ++ bitsOf rest').length / 8 = k - 2 := by
      rw [List.length_append, List.length_append, hB', hpl, hq3]
      omega
    have hm2 : (bytes.take k ++ rest').take (k - 2) = bytes.take (bytes.length - r2.length / 8) := by
      rw [List.take_append_of_le_length (by omega), List.take_take, hr2, Nat.min_eq_left (by omega)]
      congr 1
      omega
    rw [hm1, hm2, k3]
    simp only [Option.bind_some]
    rw [if_pos hall, ec]
    have hm4 : (bytes.take k ++ rest').length - (bitsOf rest').length / 8 = (bytes.take k).length := by
      rw [List.length_append, hB']
      omega
    rw [hm4, List.drop_left]

/-- a stream's frames, cut off: none, or too few samples -/
def NoGood (h : Head) (res : Except Nat (List (List Int))) : Prop := (∃ n, res = .error n) ∨ ∃ cs, res = .ok cs ∧ (cs.headD []).length ≠ h.total

theorem right_frames_cut {h : Head} {chs : List (List Int)} (hr : RightS h chs) : ∀ (m i fuel : Nat) (ended : Bool) (P Q : List UInt8), i + m = nFrames h → (ended = true → m = 0) → P ++ Q = (List.range' i m).flatMap (encFr h chs) → Q ≠ [] → P.length < fuel →
    NoGood h (frames h fuel i (min (i * h.block) h.total) ended (chs.map (fun c => c.take (i * h.block))) P)
  | _, _, 0, _, _, _, _, _, _, _, hf => by omega
  | 0, i, fuel + 1, ended, P, Q, hi, _, hpq, hq, _ => by
    have e : P ++ Q = [] := hpq
    exact absurd (List.append_eq_nil_iff.1 e).2 hq
  | m + 1, i, fuel + 1, ended, P, Q, hi, he, hpq, hq, hf => by
    obtain ⟨b1, b2, b3, b4, b5, b6, b7, b8⟩ := headOk_parts hr.ok
    have hi' : i < nFrames h := by omega
    have hlt := (hr.nframes i).1 hi'
    have hl := encFr_length h chs i
    have hen : ended = false := by
      cases ended
      · rfl
      · have := he rfl; omega
    subst hen
    rw [List.range'_succ, List.flatMap_cons] at hpq
    unfold Go.Proofs.Ytncmgnmcggkhnaa.frames
    by_cases hP : P = []
    · rw [if_pos hP]
      refine .inr ⟨_, rfl, ?_⟩
      have hc := hr.ch
      have hc1 := hr.ch1
      cases chs with
      | nil => simp at hc; omega
      | cons c l =>
        show (c.take (i * h.block)).length ≠ h.total
        rw [List.length_take, hr.len c (by simp)]
        omega
    · rw [if_neg hP]
      by_cases hs : P.length < (encFr h chs i).length
      · cases hp : pFrame h i P with
        | none => exact .inl ⟨i, rfl⟩
        | some x =>
          obtain ⟨cs, rest⟩ := x
          obtain ⟨part, hp1, _, hp2⟩ := pFrame_local hp
          have h1 := hp2 (rest ++ Q)
          rw [← List.append_assoc, ← hp1, hpq, hr.frame i hi'] at h1
          injection h1 with h1
          injection h1 with _ h1
          have h2 := congrArg List.length h1
          have h3 := congrArg List.length hpq
          have h4 := congrArg List.length hp1
          simp only [List.length_append] at h2 h3 h4
          omega
      · obtain ⟨P', hP'⟩ : ∃ P', P = encFr h chs i ++ P' := by
          have h1 : P = (encFr h chs i ++ (List.range' (i + 1) m).flatMap (encFr h chs)).take P.length := by rw [← hpq, List.take_left]
          rw [List.take_append, List.take_of_length_le (by omega)] at h1
          exact ⟨_, h1⟩
        have hpq' : P' ++ Q = (List.range' (i + 1) m).flatMap (encFr h chs) := by
          rw [hP', List.append_assoc] at hpq
          exact List.append_cancel_left hpq
        rw [hP', hr.frame i hi']
        have hcl := hr.chunk_len i
        show NoGood h (if _ then _ else _)
        rw [hcl, if_neg (by simp; omega), zip_chunk]
        have e2 : min (i * h.block) h.total + min h.block (h.total - i * h.block) = min ((i + 1) * h.block) h.total := by rw [Nat.succ_mul]; omega
        rw [e2]
        have hPl : P.length = (encFr h chs i).length + P'.length := by rw [hP', List.length_append]
        refine right_frames_cut hr m (i + 1) fuel _ P' Q (by omega) (fun hd => ?_) hpq' hq (by omega)
        have hd' := of_decide_eq_true hd
        have h3 : ¬ (i + 1) * h.block < h.total := by rw [Nat.succ_mul]; omega
        have h4 : ¬ i + 1 < nFrames h := fun e => h3 ((hr.nframes (i + 1)).1 e)
        omega

theorem right_frames_more {h : Head} {chs : List (List Int)} (hr : RightS h chs) (T : List UInt8) (hT : T ≠ []) (hno : ∀ n, pFrame h n T = none) : ∀ (m i fuel : Nat) (ended : Bool), i + m = nFrames h → (ended = true → m = 0) → ((List.range' i m).flatMap (encFr h chs) ++ T).length < fuel →
    ∃ n, frames h fuel i (min (i * h.block) h.total) ended (chs.map (fun c => c.take (i * h.block))) ((List.range' i m).flatMap (encFr h chs) ++ T) = .error n
  | _, _, 0, _, _, _, hf => by omega
  | 0, i, fuel + 1, ended, hi, _, _ => by
    refine ⟨i, ?_⟩
    show frames h (fuel + 1) i _ ended _ T = _
    unfold Go.Proofs.Ytncmgnmcggkhnaa.frames
    rw [if_neg hT, hno]
  | m + 1, i, fuel + 1, ended, hi, he, hf => by
    obtain ⟨b1, b2, b3, b4, b5, b6, b7, b8⟩ := headOk_parts hr.ok
    have hi' : i < nFrames h := by omega
    have hlt := (hr.nframes i).1 hi'
    have hl := encFr_length h chs i
    have hen : ended = false := by
      cases ended
      · rfl
      · have := he rfl; omega
    subst hen
    rw [List.range'_succ, List.flatMap_cons, List.append_assoc] at hf ⊢
    rw [List.length_append] at hf
    unfold Go.Proofs.Ytncmgnmcggkhnaa.frames
    rw [if_neg (fun e => by have := congrArg List.length e; rw [List.length_append] at this; simp at this; rw [this.1] at hl; simp at hl), hr.frame i hi']
    have hcl := hr.chunk_len i
    dsimp only
    rw [hcl, if_neg (by simp; omega), zip_chunk]
    have e2 : min (i * h.block) h.total + min h.block (h.total - i * h.block) = min ((i + 1) * h.block) h.total := by rw [Nat.succ_mul]; omega
    rw [e2]
    refine right_frames_more hr T hT hno m (i + 1) fuel _ (by omega) (fun hd => ?_) (by omega)
    have hd' := of_decide_eq_true hd
    have h3 : ¬ (i + 1) * h.block < h.total := by rw [Nat.succ_mul]; omega
    have h4 : ¬ i + 1 < nFrames h := fun e => h3 ((hr.nframes (i + 1)).1 e)
    omega

/-- blocks have 42 bytes at least -/
theorem pBlocks_least {l r : List Bool} {h : Head} (e : pBlocks l = some (h, r)) : 336 ≤ l.length := by
  unfold pBlocks at e
  obtain ⟨⟨a1, r1⟩, e1, e⟩ := Option.bind_eq_some_iff.mp e
  obtain ⟨⟨a2, r2⟩, e2, e⟩ := Option.bind_eq_some_iff.mp e
  obtain ⟨⟨a3, r3⟩, e3, e⟩ := Option.bind_eq_some_iff.mp e
  obtain ⟨⟨a4, r4⟩, e4, e⟩ := Option.bind_eq_some_iff.mp e
  obtain ⟨⟨⟨last, kind, size⟩, r5⟩, e5, e⟩ := Option.bind_eq_some_iff.mp e
  have f1 := pmust_left e1
  have f2 := pmust_left e2
  have f3 := pmust_left e3
  have f4 := pmust_left e4
  unfold pBlock at e5
  obtain ⟨⟨c1, s1⟩, g1, e5⟩ := Option.bind_eq_some_iff.mp e5
  obtain ⟨⟨c2, s2⟩, g2, e5⟩ := Option.bind_eq_some_iff.mp e5
  obtain ⟨⟨c3, s3⟩, g3, e5⟩ := Option.bind_eq_some_iff.mp e5
  have f5 := pnum_left g1
  have f6 := pnum_left g2
  have f7 := pnum_left g3
  injection e5 with e5
  injection e5 with _ e5
  subst e5
  simp only at e
  split at e
  · obtain ⟨⟨hh, r6⟩, e6, e⟩ := Option.bind_eq_some_iff.mp e
    unfold pInfo at e6
    obtain ⟨⟨d1, t1⟩, q1, e6⟩ := Option.bind_eq_some_iff.mp e6
    obtain ⟨⟨d2, t2⟩, q2, e6⟩ := Option.bind_eq_some_iff.mp e6
    obtain ⟨⟨d3, t3⟩, q3, e6⟩ := Option.bind_eq_some_iff.mp e6
    obtain ⟨⟨d4, t4⟩, q4, e6⟩ := Option.bind_eq_some_iff.mp e6
    obtain ⟨⟨d5, t5⟩, q5, e6⟩ := Option.bind_eq_some_iff.mp e6
    obtain ⟨⟨d6, t6⟩, q6, e6⟩ := Option.bind_eq_some_iff.mp e6
    obtain ⟨⟨d7, t7⟩, q7, e6⟩ := Option.bind_eq_some_iff.mp e6
    obtain ⟨⟨d8, t8⟩, q8, e6⟩ := Option.bind_eq_some_iff.mp e6
    have p1 := pnum_left q1
    have p2 := pmust_left q2
    have p3 := pnum_left q3
    have p4 := pnum_left q4
    have p5 := pnum_left q5
    have p6 := pnum_left q6
    have p7 := pnum_left q7
    have p8 := pnum_left q8
    omega
  · cases e

theorem replicate_takes {h : Head} {chs : List (List Int)} (hr : RightS h chs) : chs.map (fun c => c.take (0 * h.block)) = List.replicate h.channels [] := by
  rw [List.eq_replicate_iff]
  exact ⟨by rw [List.length_map]; exact hr.ch, fun b hb => by obtain ⟨c, _, rfl⟩ := List.mem_map.1 hb; simp⟩

/-- a stream with something else behind its head -/
theorem decode_head {h : Head} {chs : List (List Int)} (hr : RightS h chs) (R : List UInt8) (hl : 42 + R.length ≤ 6000) :
    decode (headBytes h ++ R) = match frames h (42 + R.length + 1) 0 0 false (List.replicate h.channels []) R with
      | .error number => .err 4 number
      | .ok chs => if (chs.headD []).length = h.total then .sound h.rate h.bits chs else .err 5 0 := by
  have hL : (headBytes h ++ R).length = 42 + R.length := by rw [List.length_append, headBytes_length]
  unfold decode
  rw [if_neg (by omega), pBlocks_head h R hr.ok hr.ch1]
  simp only
  rw [hL, bitsOf_length, Nat.mul_div_cancel_left _ (by decide), Nat.add_sub_cancel, show (42 : Nat) = (headBytes h).length by rw [headBytes_length], List.drop_left, headBytes_length]
  cases frames h (42 + R.length + 1) 0 0 false (List.replicate h.channels []) R <;> rfl

/-- a stream that is cut off is none -/
theorem right_cut {h : Head} {chs : List (List Int)} (hr : RightS h chs) (k : Nat) (hk : k < (encode h chs).length) :
    ∃ e p, decode ((encode h chs).take k) = .err e p ∧ 3 ≤ e ∧ e ≤ 5 ∧ (k < 42 → e = 3) := by
  have hlen := hr.encode_len
  have hl : ((encode h chs).take k).length = k := by rw [List.length_take]; omega
  by_cases h42 : k < 42
  · refine ⟨3, 0, ?_, by omega, by omega, fun _ => rfl⟩
    unfold decode
    rw [if_neg (by omega)]
    cases hp : pBlocks (bitsOf ((encode h chs).take k)) with
    | none => rfl
    | some x =>
      obtain ⟨hh, r⟩ := x
      have := pBlocks_least hp
      rw [bitsOf_length, hl] at this
      omega
  · obtain ⟨F, hF⟩ : ∃ F, (List.range (nFrames h)).flatMap (encFr h chs) = F := ⟨_, rfl⟩
    have he : (encode h chs).take k = headBytes h ++ F.take (k - 42) := by
      unfold encode
      rw [hF, List.take_append, headBytes_length, List.take_of_length_le (by rw [headBytes_length]; omega)]
    have hel : (encode h chs).length = 42 + F.length := by unfold encode; rw [hF, List.length_append, headBytes_length]
    have hFl : (F.take (k - 42)).length = k - 42 := by rw [List.length_take]; omega
    have hn := right_frames_cut hr (nFrames h) 0 (42 + (F.take (k - 42)).length + 1) false (F.take (k - 42)) (F.drop (k - 42)) (by omega) (by simp) (by rw [List.take_append_drop, ← hF, List.range_eq_range'])
      (fun e => by have := congrArg List.length e; rw [List.length_drop, List.length_nil] at this; omega) (by omega)
    rw [Nat.zero_mul, Nat.zero_min] at hn
    have h0 := replicate_takes hr
    rw [Nat.zero_mul] at h0
    rw [h0] at hn
    rw [he, decode_head hr _ (by omega)]
    rcases hn with ⟨n, hn⟩ | ⟨cs, hn, hne⟩
    · rw [hn]
      exact ⟨4, n, rfl, by omega, by omega, fun e => by omega⟩
    · rw [hn]
      simp only
      rw [if_neg hne]
      exact ⟨5, 0, rfl, by omega, by omega, fun e => by omega⟩

theorem no_sync (more : List UInt8) : pMust 16 65528 (bitsOf (0 :: more)) = none := by
  unfold pMust pNum
  cases more with
  | nil => rfl
  | cons b l =>
    rw [if_pos (by rw [bitsOf_length]; simp; omega), bitsOf_cons, bitsOf_cons, ← List.append_assoc, List.take_append_of_le_length (by simp [byteBits_length]), List.take_of_length_le (by simp [byteBits_length])]
    simp only [Option.bind_some]
    have h1 : val (byteBits 0 ++ byteBits b) = val (byteBits b) := by
      unfold val
      rw [List.foldl_append]
      rfl
    have h2 := val_lt (byteBits b)
    rw [byteBits_length] at h2
    rw [h1, if_neg (by omega)]

theorem no_frame (h : Head) (n : Nat) (more : List UInt8) : pFrame h n (0 :: more) = none := by
  unfold pFrame pHead
  rw [no_sync]
  rfl

/-- a stream with more behind it is none -/
theorem right_more {h : Head} {chs : List (List Int)} (hr : RightS h chs) (more : List UInt8) :
    ((encode h chs).length + 1 + more.length > 6000 ∧ decode (encode h chs ++ 0 :: more) = .err 2 0) ∨ ∃ n, decode (encode h chs ++ 0 :: more) = .err 4 n := by
  by_cases hl : 6000 < (encode h chs ++ 0 :: more).length
  · refine .inl ⟨by rw [List.length_append, List.length_cons] at hl; omega, ?_⟩
    unfold decode
    rw [if_pos hl]
  · refine .inr ?_
    obtain ⟨F, hF⟩ : ∃ F, (List.range (nFrames h)).flatMap (encFr h chs) = F := ⟨_, rfl⟩
    have he : encode h chs ++ 0 :: more = headBytes h ++ (F ++ 0 :: more) := by unfold encode; rw [hF, List.append_assoc]
    have hL : (encode h chs ++ 0 :: more).length = 42 + (F ++ 0 :: more).length := by rw [he, List.length_append, headBytes_length]
    obtain ⟨n, hn⟩ := right_frames_more hr (0 :: more) (by simp) (fun n => no_frame h n more) (nFrames h) 0 (42 + (F ++ 0 :: more).length + 1) false (by omega) (by simp) (by rw [← List.range_eq_range', hF]; omega)
    rw [Nat.zero_mul, Nat.zero_min, ← List.range_eq_range', hF] at hn
    have h0 := replicate_takes hr
    rw [Nat.zero_mul] at h0
    rw [h0] at hn
    refine ⟨n, ?_⟩
    rw [he, decode_head hr _ (by omega), hn]
end Go.Proofs.Ytncmgnmcggkhnaa

namespace Go.Proofs.Ytncmgnmcggkhnaa
open Go.RowKit

set_option maxHeartbeats 2000000 in
set_option maxRecDepth 100000 in
/-- a copy of a text -/
theorem qslclone (w : World) (s : ByteArray) (hs : s.size ≤ 6000) :
    Calls Try.prog 79 #[.string s] w fun e w' => e = .returned (.string s) ∧ w.grownBy w' none := by
  by_cases h0 : s.size = 0
  · have hs : s = ⟨#[]⟩ := by
      apply ByteArray.ext
      exact Array.eq_empty_of_size_eq_zero h0
    subst hs
    go_enter Try.func79, Try.ntmps79
    go_wp2
    go_ret
    exact ⟨rfl, grown_refl _ _⟩
  · obtain ⟨i0, hi, hz0, hz1, hz2⟩ := info_parts infoU8
    have hsz1 : (Try.prog.info? 5).map (·.size) = some 1 := by rw [hi]; simp [hz1]
    obtain ⟨Z, hZ⟩ : ∃ Z, Z = madeCells (Value.int .u8 0).cells (((s.size : Nat) : Int).toNat * i0.size) := ⟨_, rfl⟩
    have hZs : Z.size = s.size := by rw [hZ, size_madeCells, hz1]; simp
    obtain ⟨w1, hw1⟩ : ∃ w1, w.alloc (.cells Z 5) = w1 := ⟨_, rfl⟩
    obtain ⟨g, hg⟩ : ∃ g, w.heap.size = g := ⟨_, rfl⟩
    have hmake : (Instr.makeSlice 59 (.int .i64 (s.size : Int)) (.int .i64 (s.size : Int))).run Try.prog w = .ok (.slice (some ⟨g, 0, none⟩) s.size s.size) w1 := by
      have h := run_make (P := Try.prog) w 59 5 i0 (.int .u8 0) Try.underlying59 hi hz0 .i64 .i64 (s.size : Int) (s.size : Int) (by omega) (by omega) (by rw [hz2]; omega) (by omega)
      rw [← hZ, hw1, hg] at h
      simpa using h
    have hb1 : Box w1 g Z 5 := by rw [← hg, ← hw1]; exact Box.new _ _ _
    have hbl1 : Below g w w1 := by rw [← hw1, ← hg]; exact (Below.refl _ w).alloc (Nat.le_refl _) _
    have hcopy := Lib.run_copy_row_string (P := Try.prog) w1 59 9 3 5 g 0 s.size s.size s Z 5 Try.underlying59 hsz1 hb1 (Nat.le_refl _) (by omega)
    obtain ⟨C, hC⟩ : ∃ C, (Z.toList.take 0 ++ Lib.byteCells s.data.toList ++ Z.toList.drop (0 + s.size)).toArray = C := ⟨_, rfl⟩
    rw [hC] at hcopy
    have hCl : C.toList = Lib.byteCells s.data.toList := by
      rw [← hC, List.toList_toArray, List.take_zero, List.nil_append, List.drop_of_length_le (by rw [Array.length_toList]; omega), List.append_nil]
    have hCs : C.size = s.size := by rw [← Array.length_toList, hCl, Lib.byteCells_length, ← Lib.size_eq]
    obtain ⟨w2, hw2⟩ : ∃ w2, w1.setRow g C = w2 := ⟨_, rfl⟩
    rw [hw2] at hcopy
    have hb2 : w2.heap[g]? = some (.cells C 5 (0, 0)) := by rw [← hw2]; exact setRow_heap _ _ Z _ 5 (0, 0) hb1
    have hbl2 : Below g w1 w2 := by rw [← hw2]; exact ⟨rfl, rfl, rfl, by simp, fun k hk => setRow_other _ _ _ _ (by omega)⟩
    have hne : s.data.toList ≠ [] := fun e => h0 (by rw [Lib.size_eq, e]; rfl)
    have hstr := Lib.run_unsafeString_row (P := Try.prog) w2 133 3 9 5 bldByteP bldCells g C.size (by unfold World.shape?; rw [hb2]) s.data.toList hne (by rw [← Lib.size_eq]; omega) (by rw [← Lib.size_eq]; omega)
      (fun j x hx => Lib.cells_of_row hb2 C.size j _ (by rw [List.take_of_length_le (by rw [Array.length_toList]; exact Nat.le_refl _), hCl]; simp [Lib.byteCells, hx]))
    rw [← Lib.size_eq] at hstr
    have hfin : Below g w (w2.freeze ⟨g, 0, none⟩ s.size) := Lib.below_freeze (hbl1.trans hbl2) (p := ⟨g, 0, none⟩) (Nat.le_refl _) _
    have HFIN : Hid (w.grownBy (w2.freeze ⟨g, 0, none⟩ s.size) none) := ⟨hfin.os, hfin.tape, hfin.output, hfin.size, fun k hk _ => hfin.block k (by rw [← hg]; exact hk)⟩
    have hpos : (0 : Int) < (s.size : Int) := by omega
    clear hfin hbl1 hbl2 hb1 hb2 hC hCl hCs hw1 hw2 hZ hZs hg hi hz0 hz1 hz2 hsz1
    go_enter Try.func79, Try.ntmps79
    go_wp2
    go_ret
    exact ⟨rfl, HFIN.out⟩

theorem qsclone (w : World) (s : ByteArray) (hs : s.size ≤ 6000) :
    Calls Try.prog 56 #[.string s] w fun e w' => e = .returned (.string s) ∧ w.grownBy w' none := by
  have HC := qslclone w s hs
  go_enter Try.func56, Try.ntmps56
  go_wp2_with (go_at_call 79; refine HC.mono ?_; rintro e w1 ⟨rfl, hg1⟩)
  go_ret
  exact ⟨rfl, hg1⟩
end Go.Proofs.Ytncmgnmcggkhnaa
