import Derived.Test.YtncmgnmcggkhnaaReadsProofJ23
import Derived.Test.YtncmgnmcggkhnaaReadsProofJ9
import Derived.Test.YtncmgnmcggkhnaaReadsProofJ18
import Derived.Test.YtncmgnmcggkhnaaReadsProofJ6
namespace Go.Proofs.Ytncmgnmcggkhnaa
open Go.RowKit

theorem pHead_bytes (h : Head) (number : Nat) (b1 b2 : List UInt8) (e : b1.take 7 = b2.take 7) : pHead h number b1 = pHead h number b2 := by
  unfold pHead
  rw [e]

theorem must_fits {n v : Nat} {l r : List Bool} {u : Unit} (e : pMust n v l = some (u, r)) : r = l.drop n ∧ n ≤ l.length := by
  unfold pMust pNum at e
  split at e
  · rename_i hn
    simp only [Option.bind_some] at e
    split at e
    · injection e with e
      injection e with _ e
      exact ⟨e.symm, hn⟩
    · cases e
  · simp at e

/-- what a frame is does not hang on what stands behind it -/
theorem pFrame_local {h : Head} {number : Nat} {bytes rest : List UInt8} {chs : List (List Int)} (e : pFrame h number bytes = some (chs, rest)) :
    ∃ part, bytes = part ++ rest ∧ part ≠ [] ∧ ∀ rest', pFrame h number (part ++ rest') = some (chs, rest') := by
  have e0 := e
  unfold pFrame at e
  obtain ⟨⟨⟨mode, n⟩, r⟩, e1, e⟩ := Option.bind_eq_some_iff.mp e
  obtain ⟨⟨subs, r1⟩, e2, e⟩ := Option.bind_eq_some_iff.mp e
  obtain ⟨⟨u, r2⟩, e3, e⟩ := Option.bind_eq_some_iff.mp e
  obtain ⟨⟨u', r3⟩, e4, e⟩ := Option.bind_eq_some_iff.mp e
  simp only at e1 e2 e3 e4 e
  have hh := pHead_left e1
  split at e
  rotate_left
  · cases e
  rename_i hall
  injection e with e
  injection e with ec er
  obtain ⟨q0, a0, k0⟩ := loc_head h number bytes _ _ _ e1
  obtain ⟨q1, a1, k1⟩ := loc_channels n h.bits mode h.channels 0 _ _ _ e2
  obtain ⟨q2, a2, k2⟩ := loc_must _ _ _ _ _ e3
  obtain ⟨q3, a3, k3⟩ := loc_must _ _ _ _ _ e4
  obtain ⟨m2, n2⟩ := must_fits e3
  obtain ⟨m3, n3⟩ := must_fits e4
  have hB := bitsOf_length bytes
  have l2 : r2.length = r1.length - r1.length % 8 := by rw [m2, List.length_drop]
  have l3 : r3.length = r2.length - 16 := by rw [m3, List.length_drop]
  have lr : r.length ≤ (bitsOf bytes).length := by rw [a0, List.length_append]; omega
  have l1 : r1.length ≤ r.length := by rw [a1, List.length_append]; omega
  obtain ⟨t, ht⟩ : ∃ t, r3.length = 8 * t := ⟨r3.length / 8, by omega⟩
  have htb : t + 10 ≤ bytes.length := by omega
  have hr3 : r3.length / 8 = t := by omega
  have hr2 : r2.length / 8 = t + 2 := by omega
  rw [hr3] at er
  obtain ⟨k, hk⟩ : ∃ k, bytes.length - t = k := ⟨_, rfl⟩
  rw [hk] at er
  have hkl : k ≤ bytes.length := by omega
  have hcons : bitsOf (bytes.take k) = q0 ++ (q1 ++ (q2 ++ q3)) := by
    have hall2 : bitsOf (bytes.take k) ++ bitsOf (bytes.drop k) = (q0 ++ (q1 ++ (q2 ++ q3))) ++ r3 := by
      rw [← bitsOf_append, List.take_append_drop, a0, a1, a2, a3]
      simp only [List.append_assoc]
    have hlen : (bitsOf (bytes.take k)).length = (q0 ++ (q1 ++ (q2 ++ q3))).length := by
      have := congrArg List.length hall2
      rw [List.length_append, List.length_append, bitsOf_length, bitsOf_length, List.length_take, List.length_drop, ht] at this
      rw [bitsOf_length, List.length_take]
      omega
    exact (List.append_inj hall2 hlen).1
  refine ⟨bytes.take k, by rw [← er, List.take_append_drop], ?_, fun rest' => ?_⟩
  · intro e9
    have := congrArg List.length e9
    rw [List.length_take, List.length_nil] at this
    omega
  · have hpl : (bytes.take k).length = k := by rw [List.length_take]; omega
    have hbits : bitsOf (bytes.take k ++ rest') = q0 ++ (q1 ++ (q2 ++ (q3 ++ bitsOf rest'))) := by
      rw [bitsOf_append, hcons]
      simp only [List.append_assoc]
    unfold pFrame
    have e7 : (bytes.take k ++ rest').take 7 = bytes.take 7 := by
      rw [List.take_append_of_le_length (by omega), List.take_take, Nat.min_eq_left (by omega)]
    rw [pHead_bytes h number _ bytes e7, hbits, k0]
    simp only [Option.bind_some]
    rw [k1]
    simp only [Option.bind_some]
    have hB' := bitsOf_length rest'
    have hq : (q2 ++ (q3 ++ bitsOf rest')).length % 8 = r1.length % 8 := by
      rw [List.length_append, List.length_append, hB', a2, a3, List.length_append, List.length_append, ht]
      omega
    rw [hq, k2]
    simp only [Option.bind_some]
    have hq3 : q3.length = 16 := by
      have := congrArg List.length a3
      rw [List.length_append] at this
      omega
    have hm1 : (bytes.take k ++ rest').length - (q3 ++ bitsOf rest').length / 8 = k - 2 := by
      rw [List.length_append, List.length_append, hB', hpl, hq3]
      omega
    have hm2 : (bytes.take k ++ rest').take (k - 2) = bytes.take (bytes.length - r2.length / 8) := by
      rw [List.take_append_of_le_length (by omega), List.take_take, hr2, Nat.min_eq_left (by omega)]
      congr 1
      omega
    rw [hm1, hm2, k3]
    simp only [Option.bind_some]
    rw [if_pos hall, ec]
    have hm4 : (bytes.take k ++ rest').length - (bitsOf rest').length / 8 = (bytes.take k).length := by
      rw [List.length_append, hB']
      omega
    rw [hm4, List.drop_left]

/-- a stream's frames, cut off: none, or too few samples -/
def NoGood (h : Head) (res : Except Nat (List (List Int))) : Prop := (∃ n, res = .error n) ∨ ∃ cs, res = .ok cs ∧ (cs.headD []).length ≠ h.total

theorem right_frames_cut {h : Head} {chs : List (List Int)} (hr : RightS h chs) : ∀ (m i fuel : Nat) (ended : Bool) (P Q : List UInt8), i + m = nFrames h → (ended = true → m = 0) → P ++ Q = (List.range' i m).flatMap (encFr h chs) → Q ≠ [] → P.length < fuel →
    NoGood h (frames h fuel i (min (i * h.block) h.total) ended (chs.map (fun c => c.take (i * h.block))) P)
  | _, _, 0, _, _, _, _, _, _, _, hf => by omega
  | 0, i, fuel + 1, ended, P, Q, hi, _, hpq, hq, _ => by
    have e : P ++ Q = [] := hpq
    exact absurd (List.append_eq_nil_iff.1 e).2 hq
  | m + 1, i, fuel + 1, ended, P, Q, hi, he, hpq, hq, hf => by
    obtain ⟨b1, b2, b3, b4, b5, b6, b7, b8⟩ := headOk_parts hr.ok
    have hi' : i < nFrames h := by omega
    have hlt := (hr.nframes i).1 hi'
    have hl := encFr_length h chs i
    have hen : ended = false := by
      cases ended
      · rfl
      · have := he rfl; omega
    subst hen
    rw [List.range'_succ, List.flatMap_cons] at hpq
    unfold Go.Proofs.Ytncmgnmcggkhnaa.frames
    by_cases hP : P = []
    · rw [if_pos hP]
      refine .inr ⟨_, rfl, ?_⟩
      have hc := hr.ch
      have hc1 := hr.ch1
      cases chs with
      | nil => simp at hc; omega
      | cons c l =>
        show (c.take (i * h.block)).length ≠ h.total
        rw [List.length_take, hr.len c (by simp)]
        omega
    · rw [if_neg hP]
      by_cases hs : P.length < (encFr h chs i).length
      · cases hp : pFrame h i P with
        | none => exact .inl ⟨i, rfl⟩
        | some x =>
          obtain ⟨cs, rest⟩ := x
          obtain ⟨part, hp1, _, hp2⟩ := pFrame_local hp
          have h1 := hp2 (rest ++ Q)
          rw [← List.append_assoc, ← hp1, hpq, hr.frame i hi'] at h1
          injection h1 with h1
          injection h1 with _ h1
          have h2 := congrArg List.length h1
          have h3 := congrArg List.length hpq
          have h4 := congrArg List.length hp1
          simp only [List.length_append] at h2 h3 h4
          omega
      · obtain ⟨P', hP'⟩ : ∃ P', P = encFr h chs i ++ P' := by
          have h1 : P = (encFr h chs i ++ (List.range' (i + 1) m).flatMap (encFr h chs)).take P.length := by rw [← hpq, List.take_left]
          rw [List.take_append, List.take_of_length_le (by omega)] at h1
          exact ⟨_, h1⟩
        have hpq' : P' ++ Q = (List.range' (i + 1) m).flatMap (encFr h chs) := by
          rw [hP', List.append_assoc] at hpq
          exact List.append_cancel_left hpq
        rw [hP', hr.frame i hi']
        have hcl := hr.chunk_len i
        show NoGood h (if _ then _ else _)
        rw [hcl, if_neg (by simp; omega), zip_chunk]
        have e2 : min (i * h.block) h.total + min h.block (h.total - i * h.block) = min ((i + 1) * h.block) h.total := by rw [Nat.succ_mul]; omega
        rw [e2]
        have hPl : P.length = (encFr h chs i).length + P'.length := by rw [hP', List.length_append]
        refine right_frames_cut hr m (i + 1) fuel _ P' Q (by omega) (fun hd => ?_) hpq' hq (by omega)
        have hd' := of_decide_eq_true hd
        have h3 : ¬ (i + 1) * h.block < h.total := by rw [Nat.succ_mul]; omega
        have h4 : ¬ i + 1 < nFrames h := fun e => h3 ((hr.nframes (i + 1)).1 e)
        omega

theorem right_frames_more {h : Head} {chs : List (List Int)} (hr : RightS h chs) (T : List UInt8) (hT : T ≠ []) (hno : ∀ n, pFrame h n T = none) : ∀ (m i fuel : Nat) (ended : Bool), i + m = nFrames h → (ended = true → m = 0) → ((List.range' i m).flatMap (encFr h chs) ++ T).length < fuel →
    ∃ n, frames h fuel i (min (i * h.block) h.total) ended (chs.map (fun c => c.take (i * h.block))) ((List.range' i m).flatMap (encFr h chs) ++ T) = .error n
  | _, _, 0, _, _, _, hf => by omega
  | 0, i, fuel + 1, ended, hi, _, _ => by
    refine ⟨i, ?_⟩
    show frames h (fuel + 1) i _ ended _ T = _
    unfold Go.Proofs.Ytncmgnmcggkhnaa.frames
    rw [if_neg hT, hno]
  | m + 1, i, fuel + 1, ended, hi, he, hf => by
    obtain ⟨b1, b2, b3, b4, b5, b6, b7, b8⟩ := headOk_parts hr.ok
    have hi' : i < nFrames h := by omega
    have hlt := (hr.nframes i).1 hi'
    have hl := encFr_length h chs i
    have hen : ended = false := by
      cases ended
      · rfl
      · have := he rfl; omega
    subst hen
    rw [List.range'_succ, List.flatMap_cons, List.append_assoc] at hf ⊢
    rw [List.length_append] at hf
    unfold Go.Proofs.Ytncmgnmcggkhnaa.frames
    rw [if_neg (fun e => by have := congrArg List.length e; rw [List.length_append] at this; simp at this; rw [this.1] at hl; simp at hl), hr.frame i hi']
    have hcl := hr.chunk_len i
    dsimp only
    rw [hcl, if_neg (by simp; omega), zip_chunk]
    have e2 : min (i * h.block) h.total + min h.block (h.total - i * h.block) = min ((i + 1) * h.block) h.total := by rw [Nat.succ_mul]; omega
    rw [e2]
    refine right_frames_more hr T hT hno m (i + 1) fuel _ (by omega) (fun hd => ?_) (by omega)
    have hd' := of_decide_eq_true hd
    have h3 : ¬ (i + 1) * h.block < h.total := by rw [Nat.succ_mul]; omega
    have h4 : ¬ i + 1 < nFrames h := fun e => h3 ((hr.nframes (i + 1)).1 e)
    omega

/-- blocks have 42 bytes at least -/
theorem pBlocks_least {l r : List Bool} {h : Head} (e : pBlocks l = some (h, r)) : 336 ≤ l.length := by
  unfold pBlocks at e
  obtain ⟨⟨a1, r1⟩, e1, e⟩ := Option.bind_eq_some_iff.mp e
  obtain ⟨⟨a2, r2⟩, e2, e⟩ := Option.bind_eq_some_iff.mp e
  obtain ⟨⟨a3, r3⟩, e3, e⟩ := Option.bind_eq_some_iff.mp e
  obtain ⟨⟨a4, r4⟩, e4, e⟩ := Option.bind_eq_some_iff.mp e
  obtain ⟨⟨⟨last, kind, size⟩, r5⟩, e5, e⟩ := Option.bind_eq_some_iff.mp e
  have f1 := pmust_left e1
  have f2 := pmust_left e2
  have f3 := pmust_left e3
  have f4 := pmust_left e4
  unfold pBlock at e5
  obtain ⟨⟨c1, s1⟩, g1, e5⟩ := Option.bind_eq_some_iff.mp e5
  obtain ⟨⟨c2, s2⟩, g2, e5⟩ := Option.bind_eq_some_iff.mp e5
  obtain ⟨⟨c3, s3⟩, g3, e5⟩ := Option.bind_eq_some_iff.mp e5
  have f5 := pnum_left g1
  have f6 := pnum_left g2
  have f7 := pnum_left g3
  injection e5 with e5
  injection e5 with _ e5
  subst e5
  simp only at e
  split at e
  · obtain ⟨⟨hh, r6⟩, e6, e⟩ := Option.bind_eq_some_iff.mp e
    unfold pInfo at e6
    obtain ⟨⟨d1, t1⟩, q1, e6⟩ := Option.bind_eq_some_iff.mp e6
    obtain ⟨⟨d2, t2⟩, q2, e6⟩ := Option.bind_eq_some_iff.mp e6
    obtain ⟨⟨d3, t3⟩, q3, e6⟩ := Option.bind_eq_some_iff.mp e6
    obtain ⟨⟨d4, t4⟩, q4, e6⟩ := Option.bind_eq_some_iff.mp e6
    obtain ⟨⟨d5, t5⟩, q5, e6⟩ := Option.bind_eq_some_iff.mp e6
    obtain ⟨⟨d6, t6⟩, q6, e6⟩ := Option.bind_eq_some_iff.mp e6
    obtain ⟨⟨d7, t7⟩, q7, e6⟩ := Option.bind_eq_some_iff.mp e6
    obtain ⟨⟨d8, t8⟩, q8, e6⟩ := Option.bind_eq_some_iff.mp e6
    have p1 := pnum_left q1
    have p2 := pmust_left q2
    have p3 := pnum_left q3
    have p4 := pnum_left q4
    have p5 := pnum_left q5
    have p6 := pnum_left q6
    have p7 := pnum_left q7
    have p8 := pnum_left q8
    omega
  · cases e

theorem replicate_takes {h : Head} {chs : List (List Int)} (hr : RightS h chs) : chs.map (fun c => c.take (0 * h.block)) = List.replicate h.channels [] := by
  rw [List.eq_replicate_iff]
  exact ⟨by rw [List.length_map]; exact hr.ch, fun b hb => by obtain ⟨c, _, rfl⟩ := List.mem_map.1 hb; simp⟩

/-- a stream with something else behind its head -/
theorem decode_head {h : Head} {chs : List (List Int)} (hr : RightS h chs) (R : List UInt8) (hl : 42 + R.length ≤ 6000) :
    decode (headBytes h ++ R) = match frames h (42 + R.length + 1) 0 0 false (List.replicate h.channels []) R with
      | .error number => .err 4 number
      | .ok chs => if (chs.headD []).length = h.total then .sound h.rate h.bits chs else .err 5 0 := by
  have hL : (headBytes h ++ R).length = 42 + R.length := by rw [List.length_append, headBytes_length]
  unfold decode
  rw [if_neg (by omega), pBlocks_head h R hr.ok hr.ch1]
  simp only
  rw [hL, bitsOf_length, Nat.mul_div_cancel_left _ (by decide), Nat.add_sub_cancel, show (42 : Nat) = (headBytes h).length by rw [headBytes_length], List.drop_left, headBytes_length]
  cases frames h (42 + R.length + 1) 0 0 false (List.replicate h.channels []) R <;> rfl

/-- a stream that is cut off is none -/
theorem right_cut {h : Head} {chs : List (List Int)} (hr : RightS h chs) (k : Nat) (hk : k < (encode h chs).length) :
    ∃ e p, decode ((encode h chs).take k) = .err e p ∧ 3 ≤ e ∧ e ≤ 5 ∧ (k < 42 → e = 3) := by
  have hlen := hr.encode_len
  have hl : ((encode h chs).take k).length = k := by rw [List.length_take]; omega
  by_cases h42 : k < 42
  · refine ⟨3, 0, ?_, by omega, by omega, fun _ => rfl⟩
    unfold decode
    rw [if_neg (by omega)]
    cases hp : pBlocks (bitsOf ((encode h chs).take k)) with
    | none => rfl
    | some x =>
      obtain ⟨hh, r⟩ := x
      have := pBlocks_least hp
      rw [bitsOf_length, hl] at this
      omega
  · obtain ⟨F, hF⟩ : ∃ F, (List.range (nFrames h)).flatMap (encFr h chs) = F := ⟨_, rfl⟩
    have he : (encode h chs).take k = headBytes h ++ F.take (k - 42) := by
      unfold encode
      rw [hF, List.take_append, headBytes_length, List.take_of_length_le (by rw [headBytes_length]; omega)]
    have hel : (encode h chs).length = 42 + F.length := by unfold encode; rw [hF, List.length_append, headBytes_length]
    have hFl : (F.take (k - 42)).length = k - 42 := by rw [List.length_take]; omega
    have hn := right_frames_cut hr (nFrames h) 0 (42 + (F.take (k - 42)).length + 1) false (F.take (k - 42)) (F.drop (k - 42)) (by omega) (by simp) (by rw [List.take_append_drop, ← hF, List.range_eq_range'])
      (fun e => by have := congrArg List.length e; rw [List.length_drop, List.length_nil] at this; omega) (by omega)
    rw [Nat.zero_mul, Nat.zero_min] at hn
    have h0 := replicate_takes hr
    rw [Nat.zero_mul] at h0
    rw [h0] at hn
    rw [he, decode_head hr _ (by omega)]
    rcases hn with ⟨n, hn⟩ | ⟨cs, hn, hne⟩
    · rw [hn]
      exact ⟨4, n, rfl, by omega, by omega, fun e => by omega⟩
    · rw [hn]
      simp only
      rw [if_neg hne]
      exact ⟨5, 0, rfl, by omega, by omega, fun e => by omega⟩

theorem no_sync (more : List UInt8) : pMust 16 65528 (bitsOf (0 :: more)) = none := by
  unfold pMust pNum
  cases more with
  | nil => rfl
  | cons b l =>
    rw [if_pos (by rw [bitsOf_length]; simp; omega), bitsOf_cons, bitsOf_cons, ← List.append_assoc, List.take_append_of_le_length (by simp [byteBits_length]), List.take_of_length_le (by simp [byteBits_length])]
    simp only [Option.bind_some]
    have h1 : val (byteBits 0 ++ byteBits b) = val (byteBits b) := by
      unfold val
      rw [List.foldl_append]
      rfl
    have h2 := val_lt (byteBits b)
    rw [byteBits_length] at h2
    rw [h1, if_neg (by omega)]

theorem no_frame (h : Head) (n : Nat) (more : List UInt8) : pFrame h n (0 :: more) = none := by
  unfold pFrame pHead
  rw [no_sync]
  rfl

/-- a stream with more behind it is none -/
theorem right_more {h : Head} {chs : List (List Int)} (hr : RightS h chs) (more : List UInt8) :
    ((encode h chs).length + 1 + more.length > 6000 ∧ decode (encode h chs ++ 0 :: more) = .err 2 0) ∨ ∃ n, decode (encode h chs ++ 0 :: more) = .err 4 n := by
  by_cases hl : 6000 < (encode h chs ++ 0 :: more).length
  · refine .inl ⟨by rw [List.length_append, List.length_cons] at hl; omega, ?_⟩
    unfold decode
    rw [if_pos hl]
  · refine .inr ?_
    obtain ⟨F, hF⟩ : ∃ F, (List.range (nFrames h)).flatMap (encFr h chs) = F := ⟨_, rfl⟩
    have he : encode h chs ++ 0 :: more = headBytes h ++ (F ++ 0 :: more) := by unfold encode; rw [hF, List.append_assoc]
    have hL : (encode h chs ++ 0 :: more).length = 42 + (F ++ 0 :: more).length := by rw [he, List.length_append, headBytes_length]
    obtain ⟨n, hn⟩ := right_frames_more hr (0 :: more) (by simp) (fun n => no_frame h n more) (nFrames h) 0 (42 + (F ++ 0 :: more).length + 1) false (by omega) (by simp) (by rw [← List.range_eq_range', hF]; omega)
    rw [Nat.zero_mul, Nat.zero_min, ← List.range_eq_range', hF] at hn
    have h0 := replicate_takes hr
    rw [Nat.zero_mul] at h0
    rw [h0] at hn
    refine ⟨n, ?_⟩
    rw [he, decode_head hr _ (by omega), hn]
end Go.Proofs.Ytncmgnmcggkhnaa

namespace Go.Proofs.Ytncmgnmcggkhnaa
open Go.RowKit

/-- what is known of the frames of a stream that a reader was made of -/
structure FrOk (h : Head) (chs : List (List Int)) (l : List Fr) : Prop where
  ok : headOk h = true
  ch1 : 1 ≤ h.channels
  ch : chs.length = h.channels
  total : ∀ j, j < h.channels → (chs.getD j []).length = h.total
  num : ∀ i, i < l.length ↔ i * h.block < h.total
  frame : ∀ i, i < l.length → pFrame h i (l.getD i ([], [])).1 = some ((l.getD i ([], [])).2, [])
  small : ∀ i, i < l.length → (l.getD i ([], [])).1.length ≤ 6000
  part : ∀ i, i < l.length → ∀ j, j < h.channels → (l.getD i ([], [])).2.getD j [] = ((chs.getD j []).drop (i * h.block)).take h.block

/-- lists of one length, the last of them maybe shorter -/
theorem flat_parts (B : Nat) (hB : 1 ≤ B) : ∀ (L : List (List Int)), (∀ i, i + 1 < L.length → (L.getD i []).length = B) → (∀ i, i < L.length → 1 ≤ (L.getD i []).length ∧ (L.getD i []).length ≤ B) →
    (∀ i, i < L.length → (L.flatten.drop (i * B)).take B = L.getD i []) ∧ ∀ i, i < L.length ↔ i * B < L.flatten.length
  | [], _, _ => ⟨fun i hi => by simp at hi, fun i => by simp⟩
  | x :: L, h1, h2 => by
    have hx := h2 0 (by simp)
    have hx0 : 1 ≤ x.length ∧ x.length ≤ B := hx
    obtain ⟨ih1, ih2⟩ := flat_parts B hB L (fun i hi => h1 (i + 1) (by simpa using hi)) (fun i hi => h2 (i + 1) (by simpa using hi))
    by_cases hL : L = []
    · subst hL
      refine ⟨fun i hi => ?_, fun i => ?_⟩
      · obtain rfl : i = 0 := by simpa using hi
        simp only [Nat.zero_mul, List.drop_zero, List.flatten_cons, List.flatten_nil, List.append_nil, List.getD_cons_zero]
        exact List.take_of_length_le hx0.2
      · simp only [List.length_singleton, List.flatten_cons, List.flatten_nil, List.append_nil]
        cases i with
        | zero => simp; omega
        | succ i => rw [Nat.succ_mul]; have := Nat.zero_le (i * B); omega
    · have hpos : 0 < L.length := List.length_pos_iff.mpr hL
      have hxB : x.length = B := h1 0 (by simp; omega)
      refine ⟨fun i hi => ?_, fun i => ?_⟩
      · cases i with
        | zero =>
          simp only [Nat.zero_mul, List.drop_zero, List.flatten_cons, List.getD_cons_zero]
          rw [List.take_append_of_le_length (by omega), List.take_of_length_le (by omega)]
        | succ i =>
          rw [List.getD_cons_succ, ← ih1 i (by simpa using hi), List.flatten_cons, Nat.succ_mul, Nat.add_comm, ← hxB, List.drop_append, List.drop_of_length_le (by omega), Nat.add_sub_cancel_left, List.nil_append]
      · rw [List.flatten_cons, List.length_append, List.length_cons]
        cases i with
        | zero => simp; omega
        | succ i => rw [Nat.succ_mul]; have := ih2 i; omega

theorem snoc_ind {α : Type} {P : List α → Prop} (h0 : P []) (h1 : ∀ l a, P l → P (l ++ [a])) (l : List α) : P l := by
  have h2 : ∀ m : List α, P m.reverse := by
    intro m
    induction m with
    | nil => exact h0
    | cons a m ih => rw [List.reverse_cons]; exact h1 _ _ ih
  have h3 := h2 l.reverse
  rwa [List.reverse_reverse] at h3

theorem joined_len (c : Nat) : ∀ (l : List Fr), (∀ p ∈ l, p.2.length = c) → (joined c l).length = c := by
  refine snoc_ind ?_ ?_
  · intro _; simp [joined]
  · intro l p ih h
    rw [joined_snoc, List.length_zipWith, ih (fun q hq => h q (List.mem_append_left _ hq)), h p (by simp)]
    omega

theorem joined_get (c : Nat) : ∀ (l : List Fr), (∀ p ∈ l, p.2.length = c) → ∀ j, j < c → (joined c l).getD j [] = (l.map (fun p => p.2.getD j [])).flatten := by
  refine snoc_ind ?_ ?_
  · intro _ j hj; simp [joined, List.getD, hj]
  · intro l p ih h j hj
    have hl := joined_len c l (fun q hq => h q (List.mem_append_left _ hq))
    rw [joined_snoc, zip_append_get _ _ c hl (h p (by simp)) j hj, ih (fun q hq => h q (List.mem_append_left _ hq)) j hj]
    simp

theorem getD_of_get {α : Type} (l : List α) (i : Nat) (d : α) (hi : i < l.length) : l[i]? = some (l.getD i d) := by
  simp [List.getD, hi]

theorem fr_ok {h : Head} {l : List Fr} {D : List UInt8} {ended : Bool} (hok : headOk h = true) (hc1 : 1 ≤ h.channels) (hf : Fls h D l D.length ended) (ht : ((joined h.channels l).headD []).length = h.total) (hD : D.length ≤ 6000) : FrOk h (joined h.channels l) l := by
  obtain ⟨b1, b2, b3, b4, b5, b6, b7, b8⟩ := headOk_parts hok
  have hfr : ∀ i, i < l.length → ∃ rest, pFrame h i ((l.getD i ([], [])).1 ++ rest) = some ((l.getD i ([], [])).2, rest) := fun i hi => hf.each i _ (getD_of_get l i _ hi)
  have hcl : ∀ p ∈ l, p.2.length = h.channels := by
    intro p hp
    obtain ⟨i, hi, rfl⟩ := List.getElem_of_mem hp
    obtain ⟨rest, e⟩ := hf.each i _ (List.getElem?_eq_getElem hi)
    exact (pFrame_spec e).1
  have hpl : ∀ i, i < l.length → ∀ j, j < h.channels → 1 ≤ ((l.getD i ([], [])).2.getD j []).length ∧ ((l.getD i ([], [])).2.getD j []).length ≤ h.block := by
    intro i hi j hj
    obtain ⟨rest, e⟩ := hfr i hi
    obtain ⟨_, n, k, h1, h2, h3, _⟩ := pFrame_spec e
    rw [h3 j hj]
    exact ⟨h1, h2⟩
  have hsame : ∀ i, i < l.length → ∀ j, j < h.channels → ((l.getD i ([], [])).2.getD j []).length = ((l.getD i ([], [])).2.getD 0 []).length := by
    intro i hi j hj
    obtain ⟨rest, e⟩ := hfr i hi
    obtain ⟨_, n, k, h1, h2, h3, _⟩ := pFrame_spec e
    rw [h3 j hj, h3 0 (by omega)]
  have hmap : ∀ j i, i < l.length → (l.map (fun p => p.2.getD j [])).getD i [] = (l.getD i ([], [])).2.getD j [] := by
    intro j i hi
    simp [List.getD, hi]
  have hparts := fun j (hj : j < h.channels) => flat_parts h.block (by omega) (l.map (fun p => p.2.getD j [])) (fun i hi => by
      rw [List.length_map] at hi
      rw [hmap j i (by omega)]
      exact hf.full i _ (getD_of_get l i _ (by omega)) (.inl hi) j hj) (fun i hi => by
      rw [List.length_map] at hi
      rw [hmap j i hi]
      exact hpl i hi j hj)
  have htot : ∀ j, j < h.channels → ((joined h.channels l).getD j []).length = h.total := by
    intro j hj
    rw [headD_getD] at ht
    rw [← ht, joined_get _ l hcl j hj, joined_get _ l hcl 0 (by omega), List.length_flatten, List.length_flatten, List.map_map, List.map_map]
    congr 1
    refine List.map_congr_left (fun p hp => ?_)
    obtain ⟨i, hi, rfl⟩ := List.getElem_of_mem hp
    have := hsame i hi j hj
    simp only [List.getD, List.getElem?_eq_getElem hi, Option.getD_some] at this
    simpa [List.getD] using this
  refine ⟨hok, hc1, joined_len _ l hcl, htot, fun i => ?_, fun i hi => ?_, fun i hi => ?_, fun i hi j hj => ?_⟩
  · have h1 := (hparts 0 (by omega)).2 i
    rw [List.length_map, ← joined_get _ l hcl 0 (by omega), htot 0 (by omega)] at h1
    exact h1
  · obtain ⟨rest, e⟩ := hfr i hi
    obtain ⟨part, hp1, _, hp2⟩ := pFrame_local e
    have : part = (l.getD i ([], [])).1 := by
      have := List.append_cancel_right hp1
      exact this.symm
    rw [this] at hp2
    have h9 := hp2 []
    rw [List.append_nil] at h9
    exact h9
  · have h1 : ((l.getD i ([], [])).1).length ≤ ((l.map (·.1)).flatten).length := by
      have hm : (l.getD i ([], [])).1 ∈ l.map (·.1) := List.mem_map.2 ⟨l.getD i ([], []), by simp [List.getD, hi], rfl⟩
      exact (List.sublist_flatten_of_mem hm).length_le
    rw [hf.bytes, List.take_length] at h1
    omega
  · rw [joined_get _ l hcl j hj, (hparts j hj).1 i (by rw [List.length_map]; exact hi), hmap j i hi]
end Go.Proofs.Ytncmgnmcggkhnaa

namespace Go.Proofs.Ytncmgnmcggkhnaa
open Go.RowKit

/-- a reader in memory: `M`: what it keeps, in blocks of `KB` -/
structure Rdr (w : World) (gB gM : Nat) (h : Head) (l : List Fr) (pv : Value) (pos nM : Nat) (M : Int → Option Value) (KB : Nat → Prop) : Prop where
  box : Box w gB (readerC h pv pos gM) 108
  row : w.ownsRow (gB + 1) 9 1 pv l.length (l.map fun p => strV p.1)
  lt : gM < gB
  map : KMap w gM nM M
  kept : ∀ a v, M a = some v → ∃ i : Nat, a = (i : Int) ∧ i < l.length ∧ Views w KB v (l.getD i ([], [])).2
  kb : ∀ b, KB b → gB < b ∧ b < w.heap.size

/-- which blocks are a reader's -/
def rdrB (gB gM : Nat) (pv : Value) (KB : Nat → Prop) (b : Nat) : Prop := b = gB ∨ b = gM ∨ pv.ownBlock = some b ∨ KB b

theorem Rdr.kp {w w' : World} {gB gM : Nat} {h : Head} {l : List Fr} {pv : Value} {pos nM : Nat} {M : Int → Option Value} {KB S : Nat → Prop} (hr : Rdr w gB gM h l pv pos nM M KB) (hk : Kp w w' S) (hn : ∀ b, rdrB gB gM pv KB b → ¬ S b) : Rdr w' gB gM h l pv pos nM M KB :=
  ⟨hr.box.kp hk (hn gB (.inl rfl)), ownsRow_kp hr.row hk (fun q hq => hn q (.inr (.inr (.inl hq)))), hr.lt, hr.map.kp hk (hn gM (.inr (.inl rfl))),
    fun a v hv => by obtain ⟨i, h1, h2, h3⟩ := hr.kept a v hv; exact ⟨i, h1, h2, h3.kp hk (fun q hq => hn q (.inr (.inr (.inr hq))))⟩,
    fun b hb => ⟨(hr.kb b hb).1, Nat.lt_of_lt_of_le (hr.kb b hb).2 hk.size⟩⟩

theorem Rdr.blt {w : World} {gB gM : Nat} {h : Head} {l : List Fr} {pv : Value} {pos nM : Nat} {M : Int → Option Value} {KB : Nat → Prop} (hr : Rdr w gB gM h l pv pos nM M KB) : ∀ b, rdrB gB gM pv KB b → b < w.heap.size := by
  intro b hb
  rcases hb with rfl | rfl | hq | hb
  · exact hr.box.lt
  · exact hr.map.lt
  · exact (World.ownsRow.lt hr.row b hq).2
  · exact (hr.kb b hb).2

/-- the part's block is no other one of the reader's -/
theorem Rdr.pvlt {w : World} {gB gM : Nat} {h : Head} {l : List Fr} {pv : Value} {pos nM : Nat} {M : Int → Option Value} {KB : Nat → Prop} (hr : Rdr w gB gM h l pv pos nM M KB) : ∀ b, pv.ownBlock = some b → gB < b := fun b hq => (World.ownsRow.lt hr.row b hq).1

theorem Views.more {w : World} {D D' : Nat → Prop} {v : Value} {ls : List (List Int)} (h : Views w D v ls) (hd : ∀ b, D b → D' b) : Views w D' v ls := by
  obtain ⟨lg, lcap, h1, h2, h3, h4, h5⟩ := h
  exact ⟨lg, lcap, h1, h2, hd _ h3, h4, fun i hi => by obtain ⟨g, off, cap, q1, q⟩ := h5 i hi; exact ⟨g, off, cap, hd _ q1, q⟩⟩

/-- what is kept has changed: what is left of it, and maybe one more -/
theorem Rdr.turn {w w' : World} {gB gM : Nat} {h : Head} {l : List Fr} {pv : Value} {pos nM nM' : Nat} {M M' : Int → Option Value} {KB : Nat → Prop} (hr : Rdr w gB gM h l pv pos nM M KB) (hg : w.grownBy w' (some gM)) (hm : KMap w' gM nM' M') (hs : ∀ a v, M' a = some v → M a = some v) : Rdr w' gB gM h l pv pos nM' M' KB := by
  have hk := Kp.of hg
  have hlt := hr.lt
  refine ⟨hr.box.kept hg (by simp; omega), ownsRow_kp hr.row hk (fun q hq e => by have := hr.pvlt q hq; injection e with e; omega), hr.lt, hm, fun a v hv => ?_, fun b hb => ⟨(hr.kb b hb).1, Nat.lt_of_lt_of_le (hr.kb b hb).2 hg.size⟩⟩
  obtain ⟨i, h1, h2, h3⟩ := hr.kept a v (hs a v hv)
  exact ⟨i, h1, h2, h3.kp hk (fun q hq e => by have := (hr.kb q hq).1; injection e with e; omega)⟩

/-- one frame more is kept -/
theorem Rdr.keep {w w1 w' : World} {gB gM : Nat} {h : Head} {l : List Fr} {pv : Value} {pos nM nM' : Nat} {M : Int → Option Value} {KB : Nat → Prop} {i : Nat} {v : Value} (hr : Rdr w gB gM h l pv pos nM M KB) (hg1 : w.grownBy w1 none) (hg : w1.grownBy w' (some gM))
    (hm : KMap w' gM nM' (fun x => if x = (i : Int) then some v else M x)) (hi : i < l.length) (hv : Views w1 (fun q => w.heap.size ≤ q ∧ q < w1.heap.size) v (l.getD i ([], [])).2) :
    Rdr w' gB gM h l pv pos nM' (fun x => if x = (i : Int) then some v else M x) (fun b => KB b ∨ (w.heap.size ≤ b ∧ b < w'.heap.size)) ∧ Views w' (fun b => KB b ∨ (w.heap.size ≤ b ∧ b < w'.heap.size)) v (l.getD i ([], [])).2 := by
  have hlt := hr.lt
  have hbl := hr.box.lt
  have h1 : Rdr w1 gB gM h l pv pos nM M KB := hr.kp (Kp.ofNone (S := fun _ => False) hg1) (fun _ _ e => e)
  have hk := Kp.of hg
  have hv2 : Views w' (fun q => w.heap.size ≤ q ∧ q < w1.heap.size) v (l.getD i ([], [])).2 := hv.kp hk (fun q hq e => by injection e with e; omega)
  have hv3 : Views w' (fun b => KB b ∨ (w.heap.size ≤ b ∧ b < w'.heap.size)) v (l.getD i ([], [])).2 := hv2.more (fun b hb => .inr ⟨hb.1, Nat.lt_of_lt_of_le hb.2 hg.size⟩)
  refine ⟨⟨h1.box.kept hg (by simp; omega), ownsRow_kp h1.row hk (fun q hq e => by have := h1.pvlt q hq; injection e with e; omega), hr.lt, hm, fun a u hu => ?_, fun b hb => ?_⟩, hv3⟩
  · by_cases ha : a = (i : Int)
    · simp only [if_pos ha] at hu
      injection hu with hu
      subst hu
      exact ⟨i, ha, hi, hv3⟩
    · simp only [if_neg ha] at hu
      obtain ⟨k, q1, q2, q3⟩ := h1.kept a u hu
      exact ⟨k, q1, q2, (q3.kp hk (fun q hq e => by have := (hr.kb q hq).1; injection e with e; omega)).more (fun b hb => .inl hb)⟩
  · rcases hb with hb | hb
    · exact ⟨(hr.kb b hb).1, Nat.lt_of_lt_of_le (Nat.lt_of_lt_of_le (hr.kb b hb).2 hg1.size) hg.size⟩
    · exact ⟨by omega, hb.2⟩

/-- the reader is elsewhere -/
theorem Rdr.move {w : World} {gB gM : Nat} {h : Head} {l : List Fr} {pv : Value} {pos nM : Nat} {M : Int → Option Value} {KB : Nat → Prop} (hr : Rdr w gB gM h l pv pos nM M KB) (pos' : Nat) : Rdr (w.setCell ⟨gB, 6, none⟩ (.int .i64 pos')) gB gM h l pv pos' nM M KB := by
  have hlt := hr.lt
  have hg := grown_set w gB 6 (.int .i64 pos')
  have hk := Kp.of hg
  refine ⟨hr.box.set 6 (.int .i64 pos'), ownsRow_kp hr.row hk (fun q hq e => by have := hr.pvlt q hq; injection e with e; omega), hr.lt, hr.map.kp hk (fun e => by injection e with e; omega), fun a v hv => ?_, fun b hb => ⟨(hr.kb b hb).1, Nat.lt_of_lt_of_le (hr.kb b hb).2 hg.size⟩⟩
  obtain ⟨i, h1, h2, h3⟩ := hr.kept a v hv
  exact ⟨i, h1, h2, h3.kp hk (fun q hq e => by have := (hr.kb q hq).1; injection e with e; omega)⟩

theorem row_down {w : World} {base base' : Nat} {e : TypeId} {size : Nat} {v : Value} {n : Nat} {xs : List Value} (h : w.ownsRow base e size v n xs) (hb : base' ≤ base) : w.ownsRow base' e size v n xs := by
  refine ⟨h.1, ?_⟩
  rcases h.2 with h2 | ⟨g, cap, cur, hv, hg, r⟩
  · exact .inl h2
  · exact .inr ⟨g, cap, cur, hv, by omega, r⟩

/-- as Open makes it -/
theorem RdrNew.rdr {w : World} {base gB rate bits : Nat} {chs : List (List Int)} (hn : RdrNew w base gB rate bits chs) :
    ∃ (h : Head) (l : List Fr) (pv : Value) (gM : Nat), h.rate = rate ∧ h.bits = bits ∧ FrOk h chs l ∧ base ≤ gM ∧ (∀ b, pv.ownBlock = some b → base ≤ b) ∧ Rdr w gB gM h l pv 0 0 (fun _ => none) (fun _ => False) := by
  obtain ⟨h, l, pv, gM, D, ended, h1, h2, h3, h4, h5, h6, h7, h8, h9, h10, h11, h12, b2, h13, h14⟩ := hn
  have hrow : w.ownsRow (gB + 1) 9 1 pv l.length (l.map fun p => strV p.1) := row_down h14 (by omega)
  refine ⟨h, l, pv, gM, h1, h2, ?_, h9, fun b hq => ?_, ⟨h11, hrow, h10, KMap.new w gM h12, (fun a v hv => by cases hv), fun b hb => hb.elim⟩⟩
  · rw [← h3]
    rw [← h3] at h7
    exact fr_ok h5 h6 h4 h7 h8
  · have := (World.ownsRow.lt hrow b hq).1
    omega
end Go.Proofs.Ytncmgnmcggkhnaa

namespace Go.Proofs.Ytncmgnmcggkhnaa
open Go.RowKit

/-- a world of the law's: the reader, its sound, where it is; the book stands behind -/
structure Wd where
  gB : Nat
  rate : Int
  bits : Int
  lv : Value
  pos : Nat

def wdC (X : Wd) (iv ov : Value) : Array Value := #[.pointer (some ⟨X.gB, 0, none⟩), .int .i64 X.rate, .int .i64 X.bits, X.lv, .int .i64 X.pos, iv, ov]

set_option maxHeartbeats 2000000 in
set_option maxRecDepth 20000 in
theorem looks_five (w : World) (b N M : Nat) (iv ov : Value) (hN : N ≤ 1099511627776) (hM : M ≤ 1099511627776) (h0 : w.cell? ⟨b, 5, none⟩ = some iv) (h1 : w.cell? ⟨b, 6, none⟩ = some ov)
    (hi : Shelf (Mk w) w iv N (-1000000)) (ho : Shelf (Mk2 w) w ov M (-2000000)) :
    Calls Try.prog 20 #[.pointer (some ⟨b, 5, none⟩)] w fun e w' => e = .returned (.bool true) ∧ w' = w := by
  obtain ⟨a0, c0, rfl, hi⟩ := hi
  obtain ⟨a1, c1, rfl, ho⟩ := ho
  have HI : Hid _ := hi
  have HO : Hid _ := ho
  clear hi ho
  go_enter Try.func20, Try.ntmps20
  go_wp2_with fail
  go_loopg [3] N (fun gk i wr => ∃ k : Nat, gk + k = N ∧ i = .int .i64 k ∧ wr = w)
  case atStart => exact ⟨0, rfl, rfl, rfl⟩
  case round =>
    obtain ⟨k, hk, rfl, rfl⟩ := hrel
    by_cases hlt : k < N
    · obtain ⟨g, u, rfl, hu, a, n, c, hn, rfl, hc⟩ := HI.out k hlt
      have HC : Hid _ := hc
      have hq : (k : Int).tdiv 4 = ((k / 4 : Nat) : Int) := rfl
      obtain ⟨q, hqq⟩ : ∃ q, k / 4 = q := ⟨_, rfl⟩
      have hqb : q ≤ 1099511627776 := by omega
      rw [hqq] at hq
      have HQ : Hid (k / 4 = q) := hqq
      clear hc hqq
      go_wp2_with fail
      obtain ⟨ko, rfl⟩ : ∃ ko : Nat, ko = gk := ⟨_, rfl⟩
      go_loopg [4] n (fun gq i wq => ∃ j : Nat, gq + j = n ∧ i = .int .i64 j ∧ wq = wr)
      case atStart => exact ⟨0, rfl, rfl, rfl⟩
      case round =>
        obtain ⟨j, hj, rfl, rfl⟩ := hrel
        by_cases hjn : j < n
        · obtain ⟨gg, rfl, hcc⟩ := HC.out j hjn
          rw [HQ.out] at hcc
          have hne : ((-1000000 - (q : Int) : Int) != (-1000000 - (q : Int))) = false := by simp
          go_wp2
          go_roundg (gk - 1)
          case measure => omega
          case rel => exact ⟨j + 1, by omega, by go_num, rfl⟩
        · have tj : decide ((j : Int) < (n : Int)) = false := decide_eq_false (by omega)
          go_wp2
          go_roundg (ko - 1)
          case measure => omega
          case rel => exact ⟨k + 1, by omega, by go_num, rfl⟩
    · have tk : decide ((k : Int) < (N : Int)) = false := decide_eq_false (by omega)
      go_wp2_with fail
      clear tk hlt hk
      go_loopg [5] M (fun gk i wq => ∃ k : Nat, gk + k = M ∧ i = .int .i64 k ∧ wq = wr)
      case atStart => exact ⟨0, rfl, rfl, rfl⟩
      case round =>
        obtain ⟨k, hk, rfl, rfl⟩ := hrel
        by_cases hlt : k < M
        · obtain ⟨g, u, rfl, hu, a, n, c, hn, rfl, hc⟩ := HO.out k hlt
          have HC : Hid _ := hc
          have hq : (k : Int).tdiv 4 = ((k / 4 : Nat) : Int) := rfl
          obtain ⟨q, hqq⟩ : ∃ q, k / 4 = q := ⟨_, rfl⟩
          have hqb : q ≤ 1099511627776 := by omega
          rw [hqq] at hq
          have HQ : Hid (k / 4 = q) := hqq
          clear hc hqq
          go_wp2_with fail
          obtain ⟨ko, rfl⟩ : ∃ ko : Nat, ko = gk := ⟨_, rfl⟩
          go_loopg [6] n (fun gq i wq => ∃ j : Nat, gq + j = n ∧ i = .int .i64 j ∧ wq = wr)
          case atStart => exact ⟨0, rfl, rfl, rfl⟩
          case round =>
            obtain ⟨j, hj, rfl, rfl⟩ := hrel
            by_cases hjn : j < n
            · obtain ⟨gg, gm, cm, rfl, hcc, hcm⟩ := HC.out j hjn
              rw [HQ.out] at hcm
              have hne : ((-2000000 - (q : Int) : Int) != (-2000000 - (q : Int))) = false := by simp
              go_wp2
              go_roundg (gk - 1)
              case measure => omega
              case rel => exact ⟨j + 1, by omega, by go_num, rfl⟩
            · have tj : decide ((j : Int) < (n : Int)) = false := decide_eq_false (by omega)
              go_wp2
              go_roundg (ko - 1)
              case measure => omega
              case rel => exact ⟨k + 1, by omega, by go_num, rfl⟩
        · have tk : decide ((k : Int) < (M : Int)) = false := decide_eq_false (by omega)
          go_wp2
          go_ret
          exact ⟨rfl, rfl⟩
/-- how many samples each channel has -/
theorem wd_total (w : World) (b : Nat) (X : Wd) (iv ov : Value) (a0 : Option Addr) (lg n k lcap c0 : Nat) (hb : Box w b (wdC X iv ov) 54) (hl : X.lv = .slice (some ⟨lg, 0, none⟩) k lcap) (hk : 1 ≤ k) (hc : w.cell? ⟨lg, 0, none⟩ = some (.slice a0 n c0)) :
    Calls Try.prog 57 #[.pointer (some ⟨b, 0, none⟩)] w fun e w' => e = .returned (.int .i64 n) ∧ w' = w := by
  have c3 : w.cell? ⟨b, 3, none⟩ = some (.slice (some ⟨lg, 0, none⟩) k lcap) := by rw [← hl]; exact hb.cell 3
  have hkz : (0 : Int) < (k : Int) := by omega
  clear hb hl
  go_enter Try.func57, Try.ntmps57
  go_wp2
  go_ret
  exact ⟨rfl, rfl⟩
end Go.Proofs.Ytncmgnmcggkhnaa
