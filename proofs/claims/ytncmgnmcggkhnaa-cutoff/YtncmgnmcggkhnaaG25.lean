import Derived.Test.YtncmgnmcggkhnaaG23
import Derived.Test.YtncmgnmcggkhnaaG24
import Derived.Test.YtncmgnmcggkhnaaG12
import Derived.Test.YtncmgnmcggkhnaaG11
namespace Go.Proofs.Ytncmgnmcggkhnaa
open Go.RowKit

/-! ### the way that needs the fewest bits -/

def fixedOf (l : List Int) (o : Nat) : ESub := .fixed (l.take o) (miss (fixedFactors o) (l.take o).reverse (l.drop o))

def allAlike (l : List Int) : Bool := l.all (fun x => x == l.headD 0)

/-- what is tried beside the plain one -/
def others (l : List Int) : List ESub := (if allAlike l then [.alike (l.headD 0)] else []) ++ (List.range (min 4 l.length + 1)).map (fixedOf l)

def subCost (wide : Nat) (s : ESub) : Nat := (subBits wide s).length

def pickBest (cost : ESub → Nat) : ESub → List ESub → ESub
  | b, [] => b
  | b, s :: ss => pickBest cost (if cost s < cost b then s else b) ss

theorem pickBest_spec (cost : ESub → Nat) : ∀ (l : List ESub) (b : ESub), (pickBest cost b l = b ∨ pickBest cost b l ∈ l) ∧ cost (pickBest cost b l) ≤ cost b ∧ ∀ s ∈ l, cost (pickBest cost b l) ≤ cost s
  | [], b => ⟨.inl rfl, Nat.le_refl _, fun s hs => by simp at hs⟩
  | s :: ss, b => by
    obtain ⟨h1, h2, h3⟩ := pickBest_spec cost ss (if cost s < cost b then s else b)
    unfold pickBest
    have h4 : cost (if cost s < cost b then s else b) ≤ cost s ∧ cost (if cost s < cost b then s else b) ≤ cost b := by
      split <;> omega
    refine ⟨?_, by omega, fun t ht => ?_⟩
    · rcases h1 with h1 | h1
      · by_cases hc : cost s < cost b
        · rw [if_pos hc] at h1 ⊢; exact .inr (by rw [h1]; simp)
        · rw [if_neg hc] at h1 ⊢; exact .inl h1
      · exact .inr (List.mem_cons_of_mem _ h1)
    · rcases List.mem_cons.1 ht with rfl | ht
      · omega
      · exact h3 t ht

def shortest (wide : Nat) (l : List Int) : ESub := pickBest (subCost wide) (.plain l) (others l)

theorem edot_bound (M : Int) (hM : 0 ≤ M) : ∀ (fs bs : List Int), (∀ a ∈ bs, -M ≤ a ∧ a ≤ M) → -((fs.map (fun f => (f.natAbs : Int))).sum * M) ≤ dot fs bs ∧ dot fs bs ≤ (fs.map (fun f => (f.natAbs : Int))).sum * M
  | [], bs, _ => by simp [dot]
  | f :: fs, [], _ => by
    have h1 : 0 ≤ ((f :: fs).map (fun f => (f.natAbs : Int))).sum := by
      generalize f :: fs = g
      induction g with
      | nil => simp
      | cons a g ih => rw [List.map_cons, List.sum_cons]; omega
    have h2 := Int.mul_nonneg h1 hM
    show -_ ≤ (0 : Int) ∧ (0 : Int) ≤ _
    omega
  | f :: fs, a :: bs, h => by
    have ih := edot_bound M hM fs bs (fun x hx => h x (by simp [hx]))
    have ha := h a (by simp)
    have hfa : -((f.natAbs : Int) * M) ≤ f * a ∧ f * a ≤ (f.natAbs : Int) * M := by
      have h1 : (f * a).natAbs ≤ f.natAbs * M.natAbs := by
        rw [Int.natAbs_mul]
        exact Nat.mul_le_mul_left _ (by omega)
      have h2 : ((f.natAbs * M.natAbs : Nat) : Int) = (f.natAbs : Int) * M := by rw [Int.natCast_mul, Int.natAbs_of_nonneg hM]
      omega
    show -_ ≤ f * a + dot fs bs ∧ f * a + dot fs bs ≤ _
    rw [List.map_cons, List.sum_cons, Int.add_mul]
    omega

theorem factors_sum (o : Nat) : ((fixedFactors o).map (fun f => (f.natAbs : Int))).sum ≤ 15 ∧ 0 ≤ ((fixedFactors o).map (fun f => (f.natAbs : Int))).sum := by
  unfold fixedFactors
  split <;> decide

theorem miss_bound (M : Int) (hM : 0 ≤ M) (o : Nat) : ∀ (xs acc : List Int), (∀ a ∈ xs, -M ≤ a ∧ a ≤ M) → (∀ a ∈ acc, -M ≤ a ∧ a ≤ M) → ∀ v ∈ miss (fixedFactors o) acc xs, -(16 * M) ≤ v ∧ v ≤ 16 * M
  | [], acc, _, _, v, hv => by simp [miss] at hv
  | x :: xs, acc, h, ha, v, hv => by
    rcases List.mem_cons.1 hv with rfl | hv
    · have h1 := edot_bound M hM (fixedFactors o) acc ha
      have h2 := factors_sum o
      have h3 := h x (by simp)
      have h4 : ((fixedFactors o).map (fun f => (f.natAbs : Int))).sum * M ≤ 15 * M := Int.mul_le_mul_of_nonneg_right h2.1 hM
      omega
    · refine miss_bound M hM o xs (x :: acc) (fun a h1 => h a (by simp [h1])) (fun a h1 => ?_) v hv
      rcases List.mem_cons.1 h1 with rfl | h1
      · exact h a (by simp)
      · exact ha a h1

theorem fits_bound (wide : Nat) (hw : wide ≤ 16) (x : Int) (h : fitsB wide x = true) : -32768 ≤ x ∧ x ≤ 32768 := by
  unfold fitsB at h
  simp only [Bool.and_eq_true, decide_eq_true_eq] at h
  have : 2 ^ (wide - 1) ≤ 2 ^ 15 := Nat.pow_le_pow_right (by decide) (by omega)
  omega

theorem fold1_lt (v : Int) (h : -524288 ≤ v ∧ v ≤ 524288) : fold1 v < 2 ^ 32 := by
  unfold fold1
  split <;> omega

theorem fixedOf_small (wide o : Nat) (l : List Int) (hw : wide ≤ 16) (hf : ∀ x ∈ l, fitsB wide x = true) : ∀ v ∈ miss (fixedFactors o) (l.take o).reverse (l.drop o), -524288 ≤ v ∧ v ≤ 524288 := by
  intro v hv
  have := miss_bound 32768 (by decide) o (l.drop o) (l.take o).reverse (fun a ha => fits_bound wide hw a (hf a (List.mem_of_mem_drop ha))) (fun a ha => fits_bound wide hw a (hf a (List.mem_of_mem_take (List.mem_reverse.1 ha)))) v hv
  omega

theorem others_hold (wide : Nat) (l : List Int) (hw : wide ≤ 16) (hne : l ≠ []) (hf : ∀ x ∈ l, fitsB wide x = true) : ∀ s ∈ others l, Holds wide l s := by
  intro s hs
  unfold others at hs
  rcases List.mem_append.1 hs with hs | hs
  · by_cases ha : allAlike l = true
    · rw [if_pos ha] at hs
      have e := List.mem_singleton.1 hs
      subst e
      unfold allAlike at ha
      rw [List.all_eq_true] at ha
      refine ⟨?_, ?_⟩
      · rw [List.eq_replicate_iff]
        exact ⟨rfl, fun b hb => by have := ha b hb; simpa using this⟩
      · cases l with
        | nil => exact absurd rfl hne
        | cons a t => exact hf a (by simp)
    · rw [if_neg ha] at hs
      simp at hs
  · obtain ⟨o, ho, rfl⟩ := List.mem_map.1 hs
    rw [List.mem_range] at ho
    exact ⟨o, by omega, by omega, rfl, rfl, fun v hv => fold1_lt v (fixedOf_small wide o l hw hf v hv)⟩

theorem shortest_holds (wide : Nat) (l : List Int) (hw : wide ≤ 16) (hne : l ≠ []) (hf : ∀ x ∈ l, fitsB wide x = true) : Holds wide l (shortest wide l) := by
  rcases (pickBest_spec (subCost wide) (others l) (.plain l)).1 with h | h
  · unfold shortest; rw [h]; exact rfl
  · exact others_hold wide l hw hne hf _ h

theorem shortest_le (wide : Nat) (l : List Int) : subCost wide (shortest wide l) ≤ 8 + l.length * wide := by
  have h := (pickBest_spec (subCost wide) (others l) (.plain l)).2.1
  have e : subCost wide (.plain l) = 8 + l.length * wide := by
    show (kindBits 1 ++ listBits wide l).length = _
    rw [List.length_append, listBits_length]
    rfl
  unfold shortest
  omega

/-! ### the whole stream -/

def modeOf (c : Nat) : Nat := if c = 1 then 0 else 1

def frameOf (h : Head) (number : Nat) (chs : List (List Int)) : List UInt8 := frameBytes (modeOf h.channels) number (chs.headD []).length h.bits (chs.map (shortest h.bits))

/-- the samples of frame `i` -/
def chunk (b i : Nat) (chs : List (List Int)) : List (List Int) := chs.map (fun c => (c.drop (i * b)).take b)

def nFrames (h : Head) : Nat := (h.total + h.block - 1) / h.block

def encFr (h : Head) (chs : List (List Int)) (i : Nat) : List UInt8 := frameOf h i (chunk h.block i chs)

def infoBits (h : Head) : List Bool :=
  numBits (1 : Nat) 1 ++ (numBits (0 : Nat) 7 ++ (numBits (34 : Nat) 24 ++ (numBits h.block 16 ++ (numBits h.block 16 ++ (numBits (0 : Nat) 24 ++ (numBits (0 : Nat) 24 ++ (numBits h.rate 20 ++ (numBits ((h.channels - 1 : Nat) : Int) 3 ++
    (numBits ((h.bits - 1 : Nat) : Int) 5 ++ (numBits h.total 36 ++ numBits (0 : Nat) 128))))))))))

theorem infoBits_length (h : Head) : (infoBits h).length = 304 := by unfold infoBits; simp [numBits_length]

def headBytes (h : Head) : List UInt8 := [102, 76, 97, 67] ++ pack (infoBits h)

theorem headBytes_length (h : Head) : (headBytes h).length = 42 := by
  unfold headBytes
  rw [List.length_append, pack_length, infoBits_length]
  rfl

def encode (h : Head) (chs : List (List Int)) : List UInt8 := headBytes h ++ (List.range (nFrames h)).flatMap (encFr h chs)

/-- a sound that is right, and what its stream tells -/
structure RightS (h : Head) (chs : List (List Int)) : Prop where
  ok : headOk h = true
  ch : chs.length = h.channels
  ch1 : 1 ≤ h.channels
  len : ∀ c ∈ chs, c.length = h.total
  fit : ∀ c ∈ chs, ∀ x ∈ c, fitsB h.bits x = true

theorem headOk_parts {h : Head} (e : headOk h = true) : 16 ≤ h.block ∧ h.block ≤ 256 ∧ 1 ≤ h.rate ∧ h.rate ≤ 655350 ∧ h.channels ≤ 2 ∧ 4 ≤ h.bits ∧ h.bits ≤ 16 ∧ h.total ≤ 1200 := by
  unfold headOk at e
  simp only [Bool.and_eq_true, decide_eq_true_eq] at e
  omega

theorem pBlocks_head (h : Head) (rest : List UInt8) (hok : headOk h = true) (hc1 : 1 ≤ h.channels) : pBlocks (bitsOf (headBytes h ++ rest)) = some (h, bitsOf rest) := by
  obtain ⟨b1, b2, b3, b4, b5, b6, b7, b8⟩ := headOk_parts hok
  have hbits : bitsOf (headBytes h ++ rest) = numBits (102 : Nat) 8 ++ (numBits (76 : Nat) 8 ++ (numBits (97 : Nat) 8 ++ (numBits (67 : Nat) 8 ++ (infoBits h ++ bitsOf rest)))) := by
    unfold headBytes
    rw [bitsOf_append, bitsOf_append, bitsOf_pack', infoBits_length]
    have : padLen 304 = 0 := rfl
    rw [this]
    have e4 : bitsOf [102, 76, 97, 67] = numBits ((102 : Nat) : Int) 8 ++ (numBits ((76 : Nat) : Int) 8 ++ (numBits ((97 : Nat) : Int) 8 ++ numBits ((67 : Nat) : Int) 8)) := by decide
    rw [e4]
    simp [List.append_assoc]
  unfold pBlocks
  rw [hbits, pMust_bits 102 8 _ (by decide)]
  simp only [Option.bind_some]
  rw [pMust_bits 76 8 _ (by decide)]
  simp only [Option.bind_some]
  rw [pMust_bits 97 8 _ (by decide)]
  simp only [Option.bind_some]
  rw [pMust_bits 67 8 _ (by decide)]
  simp only [Option.bind_some]
  unfold infoBits
  simp only [List.append_assoc]
  unfold pBlock
  rw [pNum_bits_nat 1 1 _ (by decide)]
  simp only [Option.bind_some]
  rw [pNum_bits_nat 0 7 _ (by decide)]
  simp only [Option.bind_some]
  rw [pNum_bits_nat 34 24 _ (by decide)]
  simp only [Option.bind_some]
  rw [if_pos (by simp)]
  unfold pInfo
  rw [pNum_bits_nat h.block 16 _ (by show h.block < 65536; omega)]
  simp only [Option.bind_some]
  rw [pMust_bits h.block 16 _ (by show h.block < 65536; omega)]
  simp only [Option.bind_some]
  have e48 : ∀ r, pNum 48 (numBits ((0 : Nat) : Int) 24 ++ (numBits ((0 : Nat) : Int) 24 ++ r)) = some (0, r) := fun r => by
    have h1 := pNum_append (numBits ((0 : Nat) : Int) 24 ++ numBits ((0 : Nat) : Int) 24) r
    rw [List.length_append, numBits_length, List.append_assoc] at h1
    rw [h1]
    have : val (numBits ((0 : Nat) : Int) 24 ++ numBits ((0 : Nat) : Int) 24) = 0 := by decide
    rw [this]
  rw [e48]
  simp only [Option.bind_some]
  rw [pNum_bits_nat h.rate 20 _ (by show h.rate < 1048576; omega)]
  simp only [Option.bind_some]
  rw [pNum_bits_nat (h.channels - 1) 3 _ (by show h.channels - 1 < 8; omega)]
  simp only [Option.bind_some]
  rw [pNum_bits_nat (h.bits - 1) 5 _ (by show h.bits - 1 < 32; omega)]
  simp only [Option.bind_some]
  rw [pNum_bits_nat h.total 36 _ (by show h.total < 68719476736; omega)]
  simp only [Option.bind_some]
  rw [pNum_bits_nat 0 128 _ (by decide)]
  simp only [Option.bind_some]
  have eh : (⟨h.block, h.rate, h.channels - 1 + 1, h.bits - 1 + 1, h.total⟩ : Head) = h := by
    cases h
    simp only [Head.mk.injEq, true_and, and_true] at *
    omega
  rw [eh, if_pos hok]
  simp

section
variable {h : Head} {chs : List (List Int)}

theorem RightS.chunk_hold (hr : RightS h chs) (i : Nat) (hi : i * h.block < h.total) : HoldAll h.bits (min h.block (h.total - i * h.block)) (chunk h.block i chs) ((chunk h.block i chs).map (shortest h.bits)) := by
  obtain ⟨b1, b2, b3, b4, b5, b6, b7, b8⟩ := headOk_parts hr.ok
  have key : ∀ l : List (List Int), (∀ c ∈ l, c.length = h.total ∧ ∀ x ∈ c, fitsB h.bits x = true) → HoldAll h.bits (min h.block (h.total - i * h.block)) (chunk h.block i l) ((chunk h.block i l).map (shortest h.bits)) := by
    intro l
    induction l with
    | nil => intro _; exact trivial
    | cons c l ih =>
      intro hl
      have hc := hl c (by simp)
      have hlen : ((c.drop (i * h.block)).take h.block).length = min h.block (h.total - i * h.block) := by rw [List.length_take, List.length_drop, hc.1]
      have hfit : ∀ x ∈ (c.drop (i * h.block)).take h.block, fitsB h.bits x = true := fun x hx => hc.2 x (List.mem_of_mem_drop (List.mem_of_mem_take hx))
      exact ⟨hlen, hfit, shortest_holds h.bits _ b7 (fun e => by have h9 : ((c.drop (i * h.block)).take h.block).length = 0 := congrArg List.length e; omega) hfit, ih (fun d hd => hl d (by simp [hd]))⟩
  exact key chs (fun c hc => ⟨hr.len c hc, hr.fit c hc⟩)

theorem chunk_head (b i : Nat) (chs : List (List Int)) : (chunk b i chs).headD [] = ((chs.headD []).drop (i * b)).take b := by
  cases chs <;> simp [chunk]

theorem RightS.head_len (hr : RightS h chs) : (chs.headD []).length = h.total := by
  have := hr.ch
  have := hr.ch1
  cases chs with
  | nil => simp at this; omega
  | cons c l => exact hr.len c (by simp)

theorem RightS.chunk_len (hr : RightS h chs) (i : Nat) : ((chunk h.block i chs).headD []).length = min h.block (h.total - i * h.block) := by
  rw [chunk_head, List.length_take, List.length_drop, hr.head_len]

theorem RightS.nframes (hr : RightS h chs) (i : Nat) : i < nFrames h ↔ i * h.block < h.total := by
  obtain ⟨b1, b2, b3, b4, b5, b6, b7, b8⟩ := headOk_parts hr.ok
  unfold nFrames
  rw [Nat.lt_div_iff_mul_lt (by omega)]
  omega

theorem RightS.nframes_le (hr : RightS h chs) : nFrames h ≤ 75 := by
  obtain ⟨b1, b2, b3, b4, b5, b6, b7, b8⟩ := headOk_parts hr.ok
  rcases Nat.lt_or_ge 75 (nFrames h) with h1 | h1
  · have := (hr.nframes 75).1 h1
    omega
  · exact h1

theorem RightS.frame (hr : RightS h chs) (i : Nat) (hi : i < nFrames h) (rest : List UInt8) : pFrame h i (encFr h chs i ++ rest) = some (chunk h.block i chs, rest) := by
  obtain ⟨b1, b2, b3, b4, b5, b6, b7, b8⟩ := headOk_parts hr.ok
  have hi' := (hr.nframes i).1 hi
  have hn := hr.nframes_le
  unfold encFr frameOf
  rw [hr.chunk_len i]
  have hc1 := hr.ch1
  refine pFrame_bytes h (modeOf h.channels) i _ _ _ rest ?_ ?_ (by omega) (by omega) (by unfold chunk; rw [List.length_map]; exact hr.ch) (by omega) (by omega) (by omega) (hr.chunk_hold i hi')
  · unfold modeOf modeOk
    rcases (show h.channels = 1 ∨ h.channels = 2 by omega) with e | e <;> rw [e] <;> decide
  · unfold modeOf
    split <;> omega

theorem zip_chunk (b i : Nat) (chs : List (List Int)) : List.zipWith (· ++ ·) (chs.map (fun c => c.take (i * b))) (chunk b i chs) = chs.map (fun c => c.take ((i + 1) * b)) := by
  unfold chunk
  rw [List.zipWith_map_left, List.zipWith_map_right]
  induction chs with
  | nil => rfl
  | cons c l ih =>
    rw [List.zipWith_cons_cons, List.map_cons, ih, Nat.succ_mul, List.take_add]

theorem encFr_length (h : Head) (chs : List (List Int)) (i : Nat) : 10 ≤ (encFr h chs i).length := by
  unfold encFr frameOf
  rw [frameBytes_length]
  omega

theorem RightS.frames (hr : RightS h chs) : ∀ (m i fuel : Nat) (ended : Bool), i + m = nFrames h → (ended = true → m = 0) → ((List.range' i m).flatMap (encFr h chs)).length < fuel →
    frames h fuel i (min (i * h.block) h.total) ended (chs.map (fun c => c.take (i * h.block))) ((List.range' i m).flatMap (encFr h chs)) = .ok chs
  | m, i, 0, _, _, _, hf => by omega
  | 0, i, fuel + 1, ended, hi, _, _ => by
    obtain ⟨b1, b2, b3, b4, b5, b6, b7, b8⟩ := headOk_parts hr.ok
    have h1 : ¬ i * h.block < h.total := fun e => by have := (hr.nframes i).2 e; omega
    have e : chs.map (fun c => c.take (i * h.block)) = chs := by
      conv => rhs; rw [← List.map_id chs]
      refine List.map_congr_left (fun c hc => ?_)
      rw [List.take_of_length_le (by rw [hr.len c hc]; omega)]
      rfl
    unfold Go.Proofs.Ytncmgnmcggkhnaa.frames
    rw [if_pos (by simp), e]
  | m + 1, i, fuel + 1, ended, hi, he, hf => by
    obtain ⟨b1, b2, b3, b4, b5, b6, b7, b8⟩ := headOk_parts hr.ok
    have hi' : i < nFrames h := by omega
    have hlt := (hr.nframes i).1 hi'
    have hl := encFr_length h chs i
    have hen : ended = false := by
      cases ended
      · rfl
      · have := he rfl; omega
    subst hen
    rw [List.range'_succ, List.flatMap_cons] at hf ⊢
    rw [List.length_append] at hf
    unfold Go.Proofs.Ytncmgnmcggkhnaa.frames
    rw [if_neg (fun e => by have := congrArg List.length e; rw [List.length_append] at this; simp at this; rw [this.1] at hl; simp at hl), hr.frame i hi']
    have hcl := hr.chunk_len i
    show (if _ then _ else _) = _
    rw [hcl, if_neg (by simp; omega), zip_chunk]
    have e2 : min (i * h.block) h.total + min h.block (h.total - i * h.block) = min ((i + 1) * h.block) h.total := by rw [Nat.succ_mul]; omega
    rw [e2]
    refine RightS.frames hr m (i + 1) fuel _ (by omega) (fun hd => ?_) (by omega)
    have hd' := of_decide_eq_true hd
    have h3 : ¬ (i + 1) * h.block < h.total := by rw [Nat.succ_mul]; omega
    have h4 : ¬ i + 1 < nFrames h := fun e => h3 ((hr.nframes (i + 1)).1 e)
    omega

theorem RightS.decode_frames (hr : RightS h chs) (fuel : Nat) (hf : ((List.range (nFrames h)).flatMap (encFr h chs)).length < fuel) :
    Go.Proofs.Ytncmgnmcggkhnaa.frames h fuel 0 0 false (List.replicate h.channels []) ((List.range (nFrames h)).flatMap (encFr h chs)) = .ok chs := by
  have := hr.frames (nFrames h) 0 fuel false (by omega) (by simp) (by rw [← List.range_eq_range']; exact hf)
  rw [← List.range_eq_range', Nat.zero_mul, Nat.zero_min] at this
  have e : chs.map (fun c => c.take 0) = List.replicate h.channels [] := by
    rw [List.eq_replicate_iff]
    exact ⟨by rw [List.length_map]; exact hr.ch, fun b hb => by obtain ⟨c, _, rfl⟩ := List.mem_map.1 hb; rfl⟩
  rw [e] at this
  exact this

/-- how many bytes frames have -/
theorem encFr_len_eq (h : Head) (chs : List (List Int)) (i : Nat) : (encFr h chs i).length = 10 + (((chunk h.block i chs).map (fun c => subCost h.bits (shortest h.bits c))).sum + 7) / 8 := by
  unfold encFr frameOf
  rw [frameBytes_length, List.length_flatMap, List.map_map]
  rfl

theorem RightS.encFr_le (hr : RightS h chs) (i : Nat) : (encFr h chs i).length ≤ 13 + 4 * min h.block (h.total - i * h.block) := by
  obtain ⟨b1, b2, b3, b4, b5, b6, b7, b8⟩ := headOk_parts hr.ok
  rw [encFr_len_eq]
  have key : ∀ l : List (List Int), (∀ c ∈ l, c.length = h.total) → ((chunk h.block i l).map (fun c => subCost h.bits (shortest h.bits c))).sum ≤ l.length * (8 + 16 * min h.block (h.total - i * h.block)) := by
    intro l
    induction l with
    | nil => intro _; simp [chunk]
    | cons c l ih =>
      intro hl
      have h1 := ih (fun d hd => hl d (by simp [hd]))
      have h2 := shortest_le h.bits ((c.drop (i * h.block)).take h.block)
      rw [List.length_take, List.length_drop, hl c (by simp)] at h2
      have h3 : min h.block (h.total - i * h.block) * h.bits ≤ min h.block (h.total - i * h.block) * 16 := Nat.mul_le_mul_left _ b7
      unfold chunk at h1 ⊢
      rw [List.map_cons, List.map_cons, List.sum_cons, List.length_cons, Nat.succ_mul]
      omega
  have h1 := key chs hr.len
  rw [hr.ch] at h1
  have h2 : h.channels * (8 + 16 * min h.block (h.total - i * h.block)) ≤ 2 * (8 + 16 * min h.block (h.total - i * h.block)) := Nat.mul_le_mul_right _ b5
  omega

theorem RightS.frames_len (hr : RightS h chs) : ∀ n, ((List.range n).flatMap (encFr h chs)).length ≤ 13 * n + 4 * min (n * h.block) h.total
  | 0 => by simp
  | n + 1 => by
    have ih := hr.frames_len n
    have h1 := hr.encFr_le n
    rw [List.range_succ, List.flatMap_append, List.length_append]
    simp only [List.flatMap_cons, List.flatMap_nil, List.append_nil]
    rw [show (n + 1) * h.block = n * h.block + h.block from Nat.succ_mul _ _]
    generalize n * h.block = q at *
    simp only [Nat.min_def] at *
    split at ih <;> split at h1 <;> split <;> omega

theorem RightS.encode_len (hr : RightS h chs) : 42 ≤ (encode h chs).length ∧ (encode h chs).length ≤ 6000 := by
  obtain ⟨b1, b2, b3, b4, b5, b6, b7, b8⟩ := headOk_parts hr.ok
  have h1 := hr.frames_len (nFrames h)
  have h2 := hr.nframes_le
  unfold encode
  rw [List.length_append, headBytes_length]
  omega

theorem RightS.decode (hr : RightS h chs) : Go.Proofs.Ytncmgnmcggkhnaa.decode (encode h chs) = .sound h.rate h.bits chs := by
  have hl := hr.encode_len
  unfold Go.Proofs.Ytncmgnmcggkhnaa.decode
  rw [if_neg (by omega)]
  have e1 : pBlocks (bitsOf (encode h chs)) = some (h, bitsOf ((List.range (nFrames h)).flatMap (encFr h chs))) := pBlocks_head h _ hr.ok hr.ch1
  rw [e1]
  simp only
  have e2 : (encode h chs).drop ((encode h chs).length - (bitsOf ((List.range (nFrames h)).flatMap (encFr h chs))).length / 8) = (List.range (nFrames h)).flatMap (encFr h chs) := by
    rw [bitsOf_length, Nat.mul_div_cancel_left _ (by decide)]
    unfold encode
    rw [List.length_append, Nat.add_sub_cancel, List.drop_left]
  rw [e2, hr.decode_frames ((encode h chs).length + 1) (by unfold encode; rw [List.length_append]; omega)]
  simp only
  rw [if_pos hr.head_len]
end
end Go.Proofs.Ytncmgnmcggkhnaa

namespace Go.Proofs.Ytncmgnmcggkhnaa
open Go.RowKit

/-- a list of ints that can be read, in a block of `D` -/
def LoD (w : World) (D : Nat → Prop) (v : Value) (xs : List Int) : Prop :=
  (v = .slice none 0 0 ∧ xs = []) ∨ ∃ b off cap, v = .slice (some ⟨b, off, none⟩) xs.length cap ∧ D b ∧ b < w.heap.size ∧ ∀ i, i < xs.length → w.cell? ⟨b, off + i, none⟩ = some (.int .i64 (xs.getD i 0))

theorem LoD.lo {w : World} {D : Nat → Prop} {v : Value} {xs : List Int} (h : LoD w D v xs) : Lo w v xs := by
  rcases h with h | ⟨b, off, cap, hv, _, _, hc⟩
  · exact .inl h
  · exact .inr ⟨b, off, cap, hv, hc⟩

theorem LoD.kp {w w' : World} {D S : Nat → Prop} {v : Value} {xs : List Int} (h : LoD w D v xs) (hk : Kp w w' S) (hn : ∀ b, D b → ¬ S b) : LoD w' D v xs := by
  rcases h with h | ⟨b, off, cap, hv, hD, hlt, hc⟩
  · exact .inl h
  · exact .inr ⟨b, off, cap, hv, hD, Nat.lt_of_lt_of_le hlt hk.size, fun i hi => cell_kp (hc i hi) hk hlt (hn b hD)⟩

theorem LoD.mono {w : World} {D D' : Nat → Prop} {v : Value} {xs : List Int} (h : LoD w D v xs) (hd : ∀ b, D b → b < w.heap.size → D' b) : LoD w D' v xs := by
  rcases h with h | ⟨b, off, cap, hv, hD, hlt, hc⟩
  · exact .inl h
  · exact .inr ⟨b, off, cap, hv, hd b hD hlt, hlt, hc⟩

/-- blocks that a writer does not touch -/
def Disj (D : Nat → Prop) (w : World) (gw : Nat) (v : Value) : Prop := ∀ b, D b → b < w.heap.size ∧ b ≠ gw ∧ v.ownBlock ≠ some b

theorem Disj.wrote {D : Nat → Prop} {w w' : World} {gw : Nat} {v v' : Value} (h : Disj D w gw v) (hw : Wrote w w' gw v v') : Disj D w' gw v' := by
  intro b hb
  obtain ⟨h1, h2, h3⟩ := h b hb
  refine ⟨Nat.lt_of_lt_of_le h1 hw.kp.size, h2, fun e => ?_⟩
  rcases hw.own b e with h4 | h4
  · exact h3 h4
  · omega

theorem LoD.wrote {D : Nat → Prop} {w w' : World} {gw : Nat} {v v' u : Value} {xs : List Int} (h : LoD w D u xs) (hd : Disj D w gw v) (hw : Wrote w w' gw v v') : LoD w' D u xs := by
  refine h.kp hw.kp (fun b hb e => ?_)
  obtain ⟨h1, h2, h3⟩ := hd b hb
  rcases e with e | e
  · exact h2 e
  · exact h3 e

theorem ret_fold {x y : Int} (h : y = ((fold1 x : Nat) : Int)) : Ending.returned (Value.int .i64 y) = .returned (.int .i64 ((fold1 x : Nat) : Int)) := by rw [h]

theorem qfold (w : World) (x : Int) (hx : -1099511627776 ≤ x ∧ x ≤ 1099511627776) :
    Calls Try.prog 117 #[.int .i64 x] w fun e w' => e = .returned (.int .i64 (fold1 x)) ∧ w' = w := by
  by_cases h : 0 ≤ x
  · go_enter Try.func117, Try.ntmps117
    go_wp2
    go_ret
    exact ⟨ret_fold (by unfold fold1; rw [if_pos h]; omega), rfl⟩
  · go_enter Try.func117, Try.ntmps117
    go_wp2
    go_ret
    exact ⟨ret_fold (by unfold fold1; rw [if_neg (by omega)]; omega), rfl⟩

theorem fold1_le {x : Int} {M : Nat} (h : -(M : Int) ≤ x ∧ x ≤ M) : fold1 x ≤ 2 * M := by
  unfold fold1
  split <;> omega

theorem partLen_snoc (xs : List Int) (x : Int) (k : Nat) : partLen (xs ++ [x]) k = partLen xs k + (fold1 x / 2 ^ k + 1 + k) := by
  unfold partLen
  simp

theorem partLen_le (k : Nat) (hk : k ≤ 64) : ∀ xs : List Int, (∀ x ∈ xs, -1048576 ≤ x ∧ x ≤ 1048576) → partLen xs k ≤ xs.length * 4194304
  | [], _ => by simp [partLen]
  | x :: xs, h => by
    have ih := partLen_le k hk xs (fun y hy => h y (by simp [hy]))
    have h1 := fold1_le (M := 1048576) (h x (by simp))
    have h2 : fold1 x / 2 ^ k ≤ fold1 x := Nat.div_le_self _ _
    unfold partLen at *
    rw [List.map_cons, List.sum_cons, List.length_cons, Nat.succ_mul]
    omega

theorem take_succ_getD (xs : List Int) (k : Nat) (h : k < xs.length) : xs.take (k + 1) = xs.take k ++ [xs.getD k 0] := by
  rw [List.take_succ_eq_append_getElem h]
  simp [List.getD, h]

set_option maxHeartbeats 1000000 in
set_option maxRecDepth 20000 in
theorem qpartbits (w : World) (v : Value) (xs : List Int) (k : Nat) (hk : k ≤ 14) (hl : xs.length ≤ 4096) (hb : ∀ x ∈ xs, -1048576 ≤ x ∧ x ≤ 1048576) (h : Lo w v xs) :
    Calls Try.prog 127 #[v, .int .i64 k] w fun e w' => e = .returned (.int .i64 (partLen xs k)) ∧ w' = w := by
  obtain ⟨a, c, rfl⟩ := h.slice
  go_enter Try.func127, Try.ntmps127
  go_wp2_with fail
  go_loopg [5, 10] xs.length (fun gk z i wr => ∃ j : Nat, gk + j = xs.length ∧ i = .int .i64 j ∧ z = .int .i64 (partLen (xs.take j) k) ∧ wr = w)
  case atStart => exact ⟨0, rfl, rfl, rfl, rfl⟩
  case round =>
    obtain ⟨j, hj, rfl, rfl, rfl⟩ := hrel
    have hle := partLen_le k (by omega) (xs.take j) (fun x hx => hb x (List.mem_of_mem_take hx))
    rw [List.length_take] at hle
    have hle2 : partLen (xs.take j) k ≤ 17179869184 := by omega
    by_cases hlt : j < xs.length
    · obtain ⟨bb, oo, rfl, hcell⟩ := h.at j hlt
      obtain ⟨x, hx⟩ : ∃ x, xs.getD j 0 = x := ⟨_, rfl⟩
      have hxb : -1048576 ≤ x ∧ x ≤ 1048576 := by rw [← hx]; exact hb _ (by simp [List.getD, hlt])
      have hnext : partLen (xs.take (j + 1)) k = partLen (xs.take j) k + (fold1 x / 2 ^ k + 1 + k) := by rw [take_succ_getD xs j hlt, hx, partLen_snoc]
      rw [hx] at hcell
      have HF := qfold wr x (by omega)
      have hf2 := fold1_le (M := 1048576) hxb
      obtain ⟨u, hu⟩ : ∃ u, fold1 x = u := ⟨_, rfl⟩
      obtain ⟨d, hd⟩ : ∃ d, u / 2 ^ k = d := ⟨_, rfl⟩
      have hdu : d ≤ u := by rw [← hd]; exact Nat.div_le_self _ _
      obtain ⟨P, hP⟩ : ∃ P, partLen (xs.take j) k = P := ⟨_, rfl⟩
      rw [hu] at HF hf2 hnext
      rw [hd, hP] at hnext
      rw [hP] at hle2 ⊢
      have hdiv : (u : Int) / 2 ^ k = (d : Int) := by
        have e : (2 : Int) ^ k = ((2 ^ k : Nat) : Int) := by simp
        rw [e, ← Int.natCast_ediv, hd]
      have hmin : min k 64 = k := by omega
      have tl : decide ((j : Int) < (xs.length : Int)) = true := decide_eq_true (by omega)
      have HNEXT : Hid (partLen (xs.take (j + 1)) k = P + (d + 1 + k)) := hnext
      clear hu hd hP hnext hx hle
      go_wp2_with (go_at_call 117; refine HF.mono ?_; rintro e w2 ⟨rfl, rfl⟩)
      go_roundg (gk - 1)
      case measure => omega
      case rel => exact ⟨j + 1, by omega, by go_num, by rw [HNEXT.out]; go_num, rfl⟩
    · have hjn : j = xs.length := by omega
      subst hjn
      rw [List.take_length] at hle2 ⊢
      clear hj hle
      go_wp2
      go_ret
      exact ⟨rfl, rfl⟩

set_option maxHeartbeats 1000000 in
set_option maxRecDepth 20000 in
theorem qbestk (w : World) (v : Value) (xs : List Int) (hl : xs.length ≤ 4096) (hb : ∀ x ∈ xs, -1048576 ≤ x ∧ x ≤ 1048576) (h : Lo w v xs) :
    Calls Try.prog 116 #[v, .int .i64 14] w fun e w' => e = .returned (.int .i64 (bestK xs)) ∧ w' = w := by
  have HP := fun k hk => qpartbits w v xs k hk hl hb h
  have HP0 : Calls _ _ #[_, .int .i64 0] _ _ := HP 0 (by omega)
  have hsp := bestAux_spec (partLen xs)
  go_enter Try.func116, Try.ntmps116
  go_wp2_with (go_at_call 127; refine HP0.mono ?_; rintro e w2 ⟨rfl, rfl⟩)
  go_loopg [5, 6, 7] 14 (fun gk t5 t6 t7 wr => ∃ m : Nat, gk + m = 14 ∧ t7 = .int .i64 ((m : Int) + 1) ∧ t5 = .int .i64 (bestAux (partLen xs) m).1 ∧ t6 = .int .i64 (bestAux (partLen xs) m).2 ∧ wr = w2)
  case atStart => exact ⟨0, rfl, rfl, rfl, rfl, rfl⟩
  case round =>
    obtain ⟨m, hm, rfl, rfl, rfl, rfl⟩ := hrel
    by_cases hlt : m < 14
    · have HPm : Calls _ _ #[_, .int .i64 ((m : Int) + 1)] _ _ := HP (m + 1) (by omega)
      obtain ⟨b, hbm⟩ : ∃ b, (bestAux (partLen xs) m).1 = b := ⟨_, rfl⟩
      obtain ⟨f, hfm⟩ : ∃ f, (bestAux (partLen xs) m).2 = f := ⟨_, rfl⟩
      obtain ⟨p, hpm⟩ : ∃ p, partLen xs (m + 1) = p := ⟨_, rfl⟩
      rw [hbm, hfm]
      rw [hpm] at HPm
      have hn1 : (bestAux (partLen xs) (m + 1)).1 = if p < f then m + 1 else b := by
        rw [← hpm, ← hfm, ← hbm]; conv => lhs; unfold bestAux
        split <;> rfl
      have hn2 : (bestAux (partLen xs) (m + 1)).2 = if p < f then p else f := by
        rw [← hpm, ← hfm]; conv => lhs; unfold bestAux
        split <;> rfl
      have HN1 : Hid _ := hn1
      have HN2 : Hid _ := hn2
      clear hn1 hn2 hbm hfm hpm hsp HP HP0 hb
      by_cases hpf : p < f
      · have tp : decide ((p : Int) < (f : Int)) = true := decide_eq_true (by omega)
        go_wp2_with (go_at_call 127; refine HPm.mono ?_; rintro e w3 ⟨rfl, rfl⟩)
        go_roundg (gk - 1)
        case measure => omega
        case rel => exact ⟨m + 1, by omega, by go_num, by rw [HN1.out, if_pos hpf]; go_num, by rw [HN2.out, if_pos hpf], rfl⟩
      · have tp : decide ((p : Int) < (f : Int)) = false := decide_eq_false (by omega)
        go_wp2_with (go_at_call 127; refine HPm.mono ?_; rintro e w3 ⟨rfl, rfl⟩)
        go_roundg (gk - 1)
        case measure => omega
        case rel => exact ⟨m + 1, by omega, by go_num, by rw [HN1.out, if_neg hpf], by rw [HN2.out, if_neg hpf], rfl⟩
    · have hm14 : m = 14 := by omega
      subst hm14
      clear hm hsp HP HP0
      go_wp2
      go_ret
      exact ⟨rfl, rfl⟩
end Go.Proofs.Ytncmgnmcggkhnaa
