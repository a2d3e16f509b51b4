import Derived.Test.YtncmgnmcggkhnaaG00
/-
  What is written: plain functions on lists of bits and bytes, and that it is read again. Nothing of the program is named here.
-/
namespace Go.Proofs.Ytncmgnmcggkhnaa
open Go.RowKit

/-! ### fields -/

/-- n bits of a number, the highest first -/
def numBits (v : Int) : Nat → List Bool
  | 0 => []
  | n + 1 => decide (v / 2 ^ n % 2 = 1) :: numBits v n

theorem numBits_length (v : Int) : ∀ n, (numBits v n).length = n
  | 0 => rfl
  | n + 1 => by simp [numBits, numBits_length v n]

theorem foldl_val : ∀ (l : List Bool) (a : Nat), l.foldl (fun a c => 2 * a + c.toNat) a = a * 2 ^ l.length + val l
  | [], a => by simp [val]
  | c :: l, a => by
    unfold val
    rw [List.foldl_cons, List.foldl_cons, foldl_val l, foldl_val l, List.length_cons, Nat.pow_succ]
    have e : (2 * a + c.toNat) * 2 ^ l.length = a * (2 ^ l.length * 2) + c.toNat * 2 ^ l.length := by
      rw [Nat.add_mul, Nat.mul_comm (2 ^ l.length) 2, ← Nat.mul_assoc, Nat.mul_comm a 2]
    rw [e]
    simp only [Nat.mul_zero, Nat.zero_add]
    omega

theorem val_cons2 (c : Bool) (l : List Bool) : val (c :: l) = c.toNat * 2 ^ l.length + val l := by
  conv => lhs; unfold val
  rw [List.foldl_cons, foldl_val]
  simp

theorem val_append (l m : List Bool) : val (l ++ m) = val l * 2 ^ m.length + val m := by
  conv => lhs; unfold val
  rw [List.foldl_append, foldl_val]
  rfl

theorem val_false (n : Nat) : val (List.replicate n false) = 0 := by
  induction n with
  | zero => rfl
  | succ n ih => rw [List.replicate_succ, val_cons2, ih]; simp

theorem val_numBits (v : Int) : ∀ n : Nat, (val (numBits v n) : Int) = v % 2 ^ n
  | 0 => by
    show ((0 : Nat) : Int) = v % 2 ^ 0
    have : (2 : Int) ^ 0 = 1 := rfl
    omega
  | n + 1 => by
    have ih := val_numBits v n
    show (val (decide (v / 2 ^ n % 2 = 1) :: numBits v n) : Int) = _
    rw [val_cons2, numBits_length, Int.natCast_add, ih, Int.natCast_mul, Int.pow_succ]
    have hp : (0 : Int) < 2 ^ n := Int.pow_pos (by omega)
    have h1 : v = 2 ^ n * (v / 2 ^ n) + v % 2 ^ n := (Int.mul_ediv_add_emod v (2 ^ n)).symm
    have h2 : v / 2 ^ n = 2 * (v / 2 ^ n / 2) + v / 2 ^ n % 2 := (Int.mul_ediv_add_emod (v / 2 ^ n) 2).symm
    have h3 : ((decide (v / 2 ^ n % 2 = 1)).toNat : Int) = v / 2 ^ n % 2 := by
      rcases Int.emod_two_eq (v / 2 ^ n) with h | h <;> simp [h]
    rw [h3]
    have hc : (((2 : Nat) ^ n : Nat) : Int) = (2 : Int) ^ n := by simp
    rw [hc]
    have h4 : v = (v / 2 ^ n / 2) * (2 ^ n * 2) + (v / 2 ^ n % 2 * 2 ^ n + v % 2 ^ n) := by
      conv => lhs; rw [h1]
      conv => lhs; lhs; rw [h2]
      rw [Int.mul_add, Int.mul_comm (2 ^ n) (2 * _), Int.mul_comm 2 (v / 2 ^ n / 2), Int.mul_assoc, Int.mul_comm (2 : Int) (2 ^ n), Int.mul_comm (2 ^ n) (v / 2 ^ n % 2), Int.add_assoc]
    have h5 : 0 ≤ v % 2 ^ n := Int.emod_nonneg _ (by omega)
    have h6 : v % 2 ^ n < 2 ^ n := Int.emod_lt_of_pos _ hp
    have h7 : 0 ≤ v / 2 ^ n % 2 * 2 ^ n + v % 2 ^ n ∧ v / 2 ^ n % 2 * 2 ^ n + v % 2 ^ n < 2 ^ n * 2 := by
      rcases Int.emod_two_eq (v / 2 ^ n) with h | h <;> rw [h] <;> omega
    conv => rhs; rw [h4]
    rw [Int.add_comm (v / 2 ^ n / 2 * (2 ^ n * 2)), Int.add_mul_emod_self_right, Int.emod_eq_of_lt h7.1 h7.2]

theorem pNum_append (l r : List Bool) : pNum l.length (l ++ r) = some (val l, r) := by
  unfold pNum
  rw [if_pos (by simp), List.take_left, List.drop_left]

theorem pNum_bits (v : Int) (n : Nat) (r : List Bool) : pNum n (numBits v n ++ r) = some ((v % 2 ^ n).toNat, r) := by
  have h := pNum_append (numBits v n) r
  rw [numBits_length] at h
  rw [h, ← val_numBits]
  simp

theorem pNum_bits_nat (v n : Nat) (r : List Bool) (h : v < 2 ^ n) : pNum n (numBits v n ++ r) = some (v, r) := by
  rw [pNum_bits]
  have e : ((v : Int) % 2 ^ n).toNat = v := by
    have hc : (2 : Int) ^ n = ((2 ^ n : Nat) : Int) := by simp
    rw [hc, ← Int.natCast_emod, Int.toNat_natCast, Nat.mod_eq_of_lt h]
  rw [e]

theorem pMust_bits (v n : Nat) (r : List Bool) (h : v < 2 ^ n) : pMust n v (numBits v n ++ r) = some ((), r) := by
  unfold pMust
  rw [pNum_bits_nat v n r h]
  simp

theorem pMust_false (n : Nat) (r : List Bool) : pMust n 0 (List.replicate n false ++ r) = some ((), r) := by
  have h := pNum_append (List.replicate n false) r
  rw [List.length_replicate, val_false] at h
  unfold pMust
  rw [h]
  simp

theorem sign_mod (n : Nat) (v : Int) (hn : 1 ≤ n) (h : fitsB n v = true) : sign n (v % 2 ^ n).toNat = v := by
  unfold fitsB at h
  simp only [Bool.and_eq_true, decide_eq_true_eq] at h
  obtain ⟨m, rfl⟩ : ∃ m, n = m + 1 := ⟨n - 1, by omega⟩
  rw [Nat.add_sub_cancel] at h
  unfold sign
  have hc : (2 : Int) ^ (m + 1) = 2 * ((2 ^ m : Nat) : Int) := by rw [Int.pow_succ]; simp; omega
  have hc2 : 2 ^ (m + 1) = 2 * 2 ^ m := by rw [Nat.pow_succ]; omega
  rw [Nat.add_sub_cancel]
  generalize 2 ^ m = p at *
  rw [hc]
  by_cases hv : 0 ≤ v
  · rw [Int.emod_eq_of_lt hv (by omega), if_neg (by omega)]
    omega
  · have e : v % (2 * (p : Int)) = v + 2 * p := by
      rw [← Int.add_emod_right, Int.emod_eq_of_lt (by omega) (by omega)]
    rw [e, if_pos (by omega)]
    omega

theorem pSigned_bits (v : Int) (n : Nat) (r : List Bool) (hn : 1 ≤ n) (h : fitsB n v = true) : pSigned n (numBits v n ++ r) = some (v, r) := by
  unfold pSigned
  rw [pNum_bits]
  show some (sign n _, r) = _
  rw [sign_mod n v hn h]

/-- so many bits 0, and a 1 -/
def zerosBits (q : Nat) : List Bool := List.replicate q false ++ [true]

theorem pNoughts_bits : ∀ (q : Nat) (r : List Bool), pNoughts (zerosBits q ++ r) = some (q, r)
  | 0, r => rfl
  | q + 1, r => by
    show pNoughts (false :: (zerosBits q ++ r)) = _
    show (pNoughts (zerosBits q ++ r)).map _ = _
    rw [pNoughts_bits q r]
    rfl

theorem pList_bits (f : P Int) (enc : Int → List Bool) : ∀ (l : List Int) (r : List Bool), (∀ x ∈ l, ∀ r, f (enc x ++ r) = some (x, r)) → pList f l.length (l.flatMap enc ++ r) = some (l, r)
  | [], r, _ => rfl
  | x :: l, r, h => by
    show (f ((x :: l).flatMap enc ++ r)).bind _ = _
    rw [List.flatMap_cons, List.append_assoc, h x (by simp)]
    show (pList f l.length (l.flatMap enc ++ r)).map _ = _
    rw [pList_bits f enc l r (fun y hy => h y (by simp [hy]))]
    rfl

/-! ### the residue -/

def fold1 (v : Int) : Nat := if 0 ≤ v then (2 * v).toNat else (-2 * v - 1).toNat

theorem unfold_fold (v : Int) : unfold1 (fold1 v) = v := by
  unfold unfold1 fold1
  by_cases h : 0 ≤ v
  · rw [if_pos h, if_pos (by omega)]; omega
  · rw [if_neg h, if_neg (by omega)]; omega

def riceBits (k : Nat) (v : Int) : List Bool := zerosBits (fold1 v / 2 ^ k) ++ numBits (fold1 v) k

theorem riceBits_length (k : Nat) (v : Int) : (riceBits k v).length = fold1 v / 2 ^ k + 1 + k := by
  unfold riceBits zerosBits
  simp [numBits_length]
  omega

theorem pRice_bits (k : Nat) (v : Int) (r : List Bool) (h : fold1 v < 2 ^ 32) : pRice k (riceBits k v ++ r) = some (v, r) := by
  unfold pRice riceBits
  rw [List.append_assoc, pNoughts_bits]
  show (pNum k _).bind _ = _
  rw [pNum_bits]
  have e : (((fold1 v : Nat) : Int) % 2 ^ k).toNat = fold1 v % 2 ^ k := by
    have hc : (2 : Int) ^ k = ((2 ^ k : Nat) : Int) := by simp
    rw [hc, ← Int.natCast_emod, Int.toNat_natCast]
  show (if _ then _ else _) = _
  rw [e, Nat.mul_comm, Nat.div_add_mod, if_pos h, unfold_fold]

/-- how many bits one part needs -/
def partLen (res : List Int) (k : Nat) : Nat := (res.map (fun v => fold1 v / 2 ^ k + 1 + k)).sum

theorem partLen_eq (k : Nat) : ∀ res : List Int, (res.flatMap (riceBits k)).length = partLen res k
  | [] => rfl
  | v :: res => by
    rw [List.flatMap_cons, List.length_append, partLen_eq k res, riceBits_length]
    unfold partLen
    simp

def bestAux (f : Nat → Nat) : Nat → Nat × Nat
  | 0 => (0, f 0)
  | k + 1 => if f (k + 1) < (bestAux f k).2 then (k + 1, f (k + 1)) else bestAux f k

theorem bestAux_spec (f : Nat → Nat) : ∀ m, (bestAux f m).1 ≤ m ∧ (bestAux f m).2 = f (bestAux f m).1 ∧ ∀ k, k ≤ m → (bestAux f m).2 ≤ f k
  | 0 => by
    refine ⟨Nat.le_refl _, rfl, fun k hk => ?_⟩
    have : k = 0 := by omega
    subst this
    exact Nat.le_refl _
  | m + 1 => by
    obtain ⟨h1, h2, h3⟩ := bestAux_spec f m
    unfold bestAux
    split
    · rename_i h
      refine ⟨Nat.le_refl _, rfl, fun k hk => ?_⟩
      rcases Nat.lt_or_ge m k with h4 | h4
      · have : k = m + 1 := by omega
        subst this; exact Nat.le_refl _
      · have := h3 k h4
        show f (m + 1) ≤ f k
        omega
    · rename_i h
      refine ⟨by omega, h2, fun k hk => ?_⟩
      rcases Nat.lt_or_ge m k with h4 | h4
      · have : k = m + 1 := by omega
        subst this; omega
      · exact h3 k h4

def bestK (res : List Int) : Nat := (bestAux (partLen res) 14).1
theorem bestK_le (res : List Int) : bestK res ≤ 14 := (bestAux_spec _ 14).1
theorem bestK_min (res : List Int) (k : Nat) (h : k ≤ 14) : partLen res (bestK res) ≤ partLen res k := by
  have := (bestAux_spec (partLen res) 14).2
  unfold bestK
  rw [← this.1]
  exact this.2 k h

def resBits (k : Nat) (res : List Int) : List Bool := numBits (0 : Nat) 2 ++ (numBits (0 : Nat) 4 ++ (numBits k 4 ++ res.flatMap (riceBits k)))

theorem resBits_length (k : Nat) (res : List Int) : (resBits k res).length = 10 + partLen res k := by
  unfold resBits
  simp only [List.length_append, numBits_length, partLen_eq]
  omega

theorem pResidue_bits (n order k : Nat) (res : List Int) (r : List Bool) (ho : order ≤ n) (hl : res.length = n - order) (hk : k ≤ 14) (hf : ∀ v ∈ res, fold1 v < 2 ^ 32) : pResidue n order (resBits k res ++ r) = some (res, r) := by
  unfold pResidue resBits
  rw [List.append_assoc, List.append_assoc, List.append_assoc, pNum_bits_nat 0 2 _ (by decide)]
  simp only [Option.bind_some]
  rw [pNum_bits_nat 0 4 _ (by decide)]
  simp only [Option.bind_some]
  rw [Nat.pow_zero, Nat.div_one, if_pos ⟨by omega, Nat.mod_one _, ho⟩]
  show (pPart 0 (n - order) _).bind _ = _
  unfold pPart
  rw [pNum_bits_nat k (4 + 0) _ (by show k < 16; omega)]
  simp only [Option.bind_some]
  rw [if_neg (by omega), ← hl, pList_bits (pRice k) (riceBits k) res r (fun x hx r => pRice_bits k x r (hf x hx))]
  simp [pParts]

/-! ### what a predictor does not foretell -/

def miss (factors : List Int) : List Int → List Int → List Int
  | _, [] => []
  | acc, x :: xs => (x - dot factors acc) :: miss factors (x :: acc) xs

theorem miss_length (factors : List Int) : ∀ (xs acc : List Int), (miss factors acc xs).length = xs.length
  | [], acc => rfl
  | x :: xs, acc => by simp [miss, miss_length factors xs]

theorem predict_miss (wide : Nat) (factors : List Int) : ∀ (xs acc : List Int), (∀ x ∈ xs, fitsB wide x = true) → predict wide factors 0 acc (miss factors acc xs) = some (acc.reverse ++ xs)
  | [], acc, _ => by simp [miss, predict]
  | x :: xs, acc, h => by
    have e : dot factors acc / 2 ^ 0 + (x - dot factors acc) = x := by
      rw [show (2 : Int) ^ 0 = 1 from rfl, Int.ediv_one]; omega
    show predict wide factors 0 acc ((x - dot factors acc) :: miss factors (x :: acc) xs) = _
    unfold predict
    rw [e, if_pos (h x (by simp)), predict_miss wide factors xs (x :: acc) (fun y hy => h y (by simp [hy]))]
    simp

/-! ### subframes -/

abbrev ESub : Type := Int ⊕ List Int ⊕ (List Int × List Int)
abbrev ESub.alike (x : Int) : ESub := Sum.inl x
abbrev ESub.plain (l : List Int) : ESub := Sum.inr (Sum.inl l)
abbrev ESub.fixed (first res : List Int) : ESub := Sum.inr (Sum.inr (first, res))

theorem ESub.each {motive : ESub → Prop} (alike : ∀ x, motive (.alike x)) (plain : ∀ l, motive (.plain l)) (fixed : ∀ f r, motive (.fixed f r)) : ∀ t : ESub, motive t
  | .inl x => alike x
  | .inr (.inl l) => plain l
  | .inr (.inr (f, r)) => fixed f r

def kindBits (k : Nat) : List Bool := numBits (0 : Nat) 1 ++ (numBits k 6 ++ numBits (0 : Nat) 1)

def listBits (wide : Nat) (l : List Int) : List Bool := l.flatMap (fun x => numBits x wide)

theorem listBits_length (wide : Nat) : ∀ l : List Int, (listBits wide l).length = l.length * wide
  | [] => by simp [listBits]
  | x :: l => by
    have := listBits_length wide l
    unfold listBits at *
    rw [List.flatMap_cons, List.length_append, this, numBits_length, List.length_cons, Nat.succ_mul]
    omega

def subBits (wide : Nat) : ESub → List Bool
  | .inl x => kindBits 0 ++ numBits x wide
  | .inr (.inl l) => kindBits 1 ++ listBits wide l
  | .inr (.inr (first, res)) => kindBits (8 + first.length) ++ (listBits wide first ++ resBits (bestK res) res)

/-- a subframe that holds samples -/
def Holds (wide : Nat) (l : List Int) : ESub → Prop
  | .inl x => l = List.replicate l.length x ∧ fitsB wide x = true
  | .inr (.inl l') => l' = l
  | .inr (.inr (first, res)) => ∃ o, o ≤ 4 ∧ o ≤ l.length ∧ first = l.take o ∧ res = miss (fixedFactors o) (l.take o).reverse (l.drop o) ∧ ∀ v ∈ res, fold1 v < 2 ^ 32

theorem pSub_bits (n wide k : Nat) (l : List Int) (body r : List Bool) (hw : 1 ≤ wide) (hk : k < 64) (hb : pKind k n wide (body ++ r) = some (l, r)) : pSubframe n wide ((kindBits k ++ body) ++ r) = some (l, r) := by
  unfold pSubframe kindBits
  rw [List.append_assoc, List.append_assoc, List.append_assoc, pMust_bits 0 1 _ (by decide)]
  simp only [Option.bind_some]
  rw [pNum_bits_nat k 6 _ hk]
  simp only [Option.bind_some]
  unfold pLess
  rw [pNum_bits_nat 0 1 _ (by decide)]
  simp only [Option.bind_some]
  rw [if_neg (by decide)]
  simp only [Option.bind_some]
  rw [if_pos (show 0 < wide by omega), Nat.sub_zero, hb]
  show some (l.map (fun x => x * 2 ^ 0), r) = _
  have : (fun x : Int => x * 2 ^ 0) = id := by
    funext x
    show x * 1 = x
    omega
  rw [this, List.map_id]

theorem pSubframe_bits (wide : Nat) (l : List Int) (s : ESub) (r : List Bool) (hw : 1 ≤ wide) (hf : ∀ x ∈ l, fitsB wide x = true) (hs : Holds wide l s) : pSubframe l.length wide (subBits wide s ++ r) = some (l, r) := by
  have hlist : ∀ (m : List Int) (r : List Bool), (∀ x ∈ m, fitsB wide x = true) → pList (pSigned wide) m.length (listBits wide m ++ r) = some (m, r) :=
    fun m r hm => pList_bits (pSigned wide) (fun x => numBits x wide) m r (fun x hx r => pSigned_bits x wide r hw (hm x hx))
  cases s using ESub.each with
  | alike x =>
    refine pSub_bits _ wide 0 l _ r hw (by decide) ?_
    unfold pKind
    rw [if_pos rfl, pSigned_bits x wide r hw hs.2]
    show some (List.replicate _ x, r) = _
    rw [← hs.1]
  | plain l' =>
    have e : l' = l := hs
    subst e
    refine pSub_bits _ wide 1 _ _ r hw (by decide) ?_
    unfold pKind
    rw [if_neg (by decide), if_pos rfl, hlist _ r hf]
  | fixed first res =>
    obtain ⟨o, ho4, hol, rfl, hres, hf32⟩ := hs
    have hlen : (l.take o).length = o := by rw [List.length_take]; omega
    show pSubframe _ _ ((kindBits (8 + (l.take o).length) ++ _) ++ r) = _
    refine pSub_bits _ wide _ l _ r hw (by rw [hlen]; omega) ?_
    rw [hlen]
    unfold pKind
    rw [if_neg (by omega), if_neg (by omega), if_pos (by omega), show 8 + o - 8 = o by omega]
    unfold pFixed
    rw [if_pos hol, List.append_assoc]
    have h1 := hlist (l.take o) (resBits (bestK res) res ++ r) (fun x hx => hf x (List.mem_of_mem_take hx))
    rw [hlen] at h1
    rw [h1]
    show pForetold l.length wide (l.take o) (fixedFactors o) 0 _ = _
    unfold pForetold
    rw [hlen, pResidue_bits l.length o (bestK res) res r hol (by rw [hres, miss_length, List.length_drop]) (bestK_le res) hf32]
    show (predict wide (fixedFactors o) 0 (l.take o).reverse res).map _ = _
    rw [hres, predict_miss wide (fixedFactors o) (l.drop o) (l.take o).reverse (fun x hx => hf x (List.mem_of_mem_drop hx)), List.reverse_reverse, List.take_append_drop]
    rfl
end Go.Proofs.Ytncmgnmcggkhnaa

namespace Go.Proofs.Ytncmgnmcggkhnaa
open Go.RowKit

/-! ### bytes -/

def byteOf (l : List Bool) : UInt8 := UInt8.ofNat (val (l ++ List.replicate (8 - l.length) false))

/-- bits as bytes, with bits 0 up to a byte's end -/
def packUpto : Nat → List Bool → List UInt8
  | 0, _ => []
  | _ + 1, [] => []
  | n + 1, a :: t => byteOf ((a :: t).take 8) :: packUpto n ((a :: t).drop 8)

def pack (l : List Bool) : List UInt8 := packUpto l.length l

theorem packUpto_enough : ∀ (n m : Nat) (l : List Bool), l.length ≤ n → l.length ≤ m → packUpto n l = packUpto m l
  | 0, 0, _, _, _ => rfl
  | 0, _ + 1, [], _, _ => rfl
  | 0, _ + 1, _ :: _, h, _ => by simp at h
  | _ + 1, 0, [], _, _ => rfl
  | _ + 1, 0, _ :: _, _, h => by simp at h
  | _ + 1, _ + 1, [], _, _ => rfl
  | n + 1, m + 1, a :: t, h1, h2 => by
    show _ :: packUpto n _ = _ :: packUpto m _
    rw [List.length_cons] at h1 h2
    rw [packUpto_enough n m _ (by rw [List.length_drop, List.length_cons]; omega) (by rw [List.length_drop, List.length_cons]; omega)]

/-- how many bits up to a byte's end -/
def padLen (n : Nat) : Nat := 8 * ((n + 7) / 8) - n

def bits8 (n : Nat) : List Bool := [n.testBit 7, n.testBit 6, n.testBit 5, n.testBit 4, n.testBit 3, n.testBit 2, n.testBit 1, n.testBit 0]

set_option maxRecDepth 100000 in
theorem val_bits8 : ∀ n, n < 256 → val (bits8 n) = n := by decide

theorem val_inj : ∀ (l m : List Bool), l.length = m.length → val l = val m → l = m
  | [], [], _, _ => rfl
  | [], _ :: _, h, _ => by simp at h
  | _ :: _, [], h, _ => by simp at h
  | a :: l, b :: m, h, e => by
    have hl : l.length = m.length := by simpa using h
    rw [val_cons2, val_cons2, hl] at e
    have h1 := val_lt l
    have h2 := val_lt m
    rw [hl] at h1
    have hab : a = b := by
      cases a <;> cases b <;> simp at e ⊢ <;> omega
    subst hab
    rw [val_inj l m hl (by omega)]

theorem byteBits_ofNat (n : Nat) (h : n < 256) : byteBits (UInt8.ofNat n) = bits8 n := by
  unfold byteBits bits8
  have : (UInt8.ofNat n).toNat = n := by simp [UInt8.toNat_ofNat']; omega
  rw [this]

theorem byteBits_byteOf (l : List Bool) (h : l.length ≤ 8) : byteBits (byteOf l) = l ++ List.replicate (8 - l.length) false := by
  have hl : (l ++ List.replicate (8 - l.length) false).length = 8 := by simp; omega
  have hlt := val_lt (l ++ List.replicate (8 - l.length) false)
  rw [hl] at hlt
  unfold byteOf
  rw [byteBits_ofNat _ hlt]
  exact val_inj _ _ (by rw [hl]; rfl) (val_bits8 _ hlt)

theorem pack_nil : pack [] = [] := rfl
theorem pack_cons (l : List Bool) (h : l ≠ []) : pack l = byteOf (l.take 8) :: pack (l.drop 8) := by
  cases l with
  | nil => exact absurd rfl h
  | cons a t =>
    show _ :: packUpto t.length _ = _ :: packUpto _ _
    rw [packUpto_enough t.length _ _ (by rw [List.length_drop, List.length_cons]; omega) (Nat.le_refl _)]

theorem bitsOf_pack : ∀ (n : Nat) (l : List Bool), l.length = n → bitsOf (pack l) = l ++ List.replicate (padLen l.length) false := by
  intro n
  induction n using Nat.strongRecOn with
  | ind n ih =>
    intro l hl
    by_cases hn : l = []
    · subst hn
      rw [pack_nil]
      rfl
    · have hpos : 0 < l.length := List.length_pos_iff.mpr hn
      rw [pack_cons l hn, bitsOf_cons, ih (l.drop 8).length (by rw [List.length_drop]; omega) _ rfl, byteBits_byteOf _ (by rw [List.length_take]; omega)]
      rcases Nat.lt_or_ge l.length 8 with h8 | h8
      · have e1 : l.take 8 = l := List.take_of_length_le (by omega)
        have e2 : l.drop 8 = [] := List.drop_of_length_le (by omega)
        rw [e1, e2]
        have e3 : padLen l.length = 8 - l.length := by unfold padLen; omega
        rw [e3]
        have e4 : padLen ([] : List Bool).length = 0 := rfl
        rw [e4]
        simp
      · have e1 : (l.take 8).length = 8 := by rw [List.length_take]; omega
        rw [e1]
        have e3 : padLen (l.drop 8).length = padLen l.length := by rw [List.length_drop]; unfold padLen; omega
        rw [e3]
        simp only [Nat.sub_self, List.replicate_zero, List.append_nil]
        rw [← List.append_assoc, List.take_append_drop]

theorem bitsOf_pack' (l : List Bool) : bitsOf (pack l) = l ++ List.replicate (padLen l.length) false := bitsOf_pack _ l rfl

theorem pack_length (l : List Bool) : (pack l).length = (l.length + 7) / 8 := by
  have h := congrArg List.length (bitsOf_pack' l)
  rw [bitsOf_length, List.length_append, List.length_replicate] at h
  unfold padLen at h
  omega

theorem byteBits_inj {a b : UInt8} (h : byteBits a = byteBits b) : a = b := by
  have ha := val_bits8 a.toNat a.toNat_lt
  have hb := val_bits8 b.toNat b.toNat_lt
  apply UInt8.toNat_inj.mp
  rw [← ha, ← hb]
  exact congrArg val h

theorem bitsOf_inj : ∀ (l m : List UInt8), bitsOf l = bitsOf m → l = m
  | [], [], _ => rfl
  | [], b :: m, h => by have := congrArg List.length h; rw [bitsOf_length, bitsOf_length] at this; simp at this
  | a :: l, [], h => by have := congrArg List.length h; rw [bitsOf_length, bitsOf_length] at this; simp at this
  | a :: l, b :: m, h => by
    rw [bitsOf_cons, bitsOf_cons] at h
    have h1 := List.append_inj h (by rw [byteBits_length, byteBits_length])
    rw [byteBits_inj h1.1, bitsOf_inj l m h1.2]

theorem bitsOf_take (l : List UInt8) (k : Nat) : bitsOf (l.take k) = (bitsOf l).take (8 * k) := by
  have h := bitsOf_append (l.take k) (l.drop k)
  rw [List.take_append_drop] at h
  rcases Nat.lt_or_ge k l.length with hk | hk
  · rw [h, List.take_left' (by rw [bitsOf_length, List.length_take]; omega)]
  · rw [List.take_of_length_le hk, List.take_of_length_le (by rw [bitsOf_length]; omega)]

/-- whole bytes -/
theorem pack_append (l m : List Bool) (h : l.length % 8 = 0) : pack (l ++ m) = pack l ++ pack m := by
  apply bitsOf_inj
  rw [bitsOf_append, bitsOf_pack', bitsOf_pack', bitsOf_pack', List.length_append]
  have e1 : padLen l.length = 0 := by unfold padLen; omega
  have e2 : padLen (l.length + m.length) = padLen m.length := by unfold padLen; omega
  rw [e1, e2]
  simp

theorem pack_bitsOf (l : List UInt8) : pack (bitsOf l) = l := by
  apply bitsOf_inj
  rw [bitsOf_pack', bitsOf_length]
  have : padLen (8 * l.length) = 0 := by unfold padLen; omega
  rw [this]
  simp

theorem pack_pad (l : List Bool) : pack (l ++ List.replicate (padLen l.length) false) = pack l := by
  rw [← bitsOf_pack', pack_bitsOf]

/-! ### a frame -/

def headBits (mode number count : Nat) : List Bool := numBits (16775280 : Nat) 24 ++ (numBits mode 4 ++ (numBits (0 : Nat) 4 ++ (numBits number 8 ++ numBits ((count - 1 : Nat) : Int) 16)))

theorem headBits_length (mode number count : Nat) : (headBits mode number count).length = 56 := by
  unfold headBits; simp [numBits_length]

/-- all of a frame but the bits up to a byte's end, and the last sum -/
def preBits (mode number count wide : Nat) (subs : List ESub) : List Bool :=
  headBits mode number count ++ (numBits (crc 8 7 (pack (headBits mode number count)) : Nat) 8 ++ subs.flatMap (subBits wide))

def frameBytes (mode number count wide : Nat) (subs : List ESub) : List UInt8 :=
  pack (preBits mode number count wide subs) ++ pack (numBits (crc 16 32773 (pack (preBits mode number count wide subs)) : Nat) 16)

theorem frameBytes_length (mode number count wide : Nat) (subs : List ESub) : (frameBytes mode number count wide subs).length = 10 + ((subs.flatMap (subBits wide)).length + 7) / 8 := by
  unfold frameBytes
  rw [List.length_append, pack_length, pack_length, numBits_length]
  unfold preBits
  rw [List.length_append, List.length_append, headBits_length, numBits_length]
  omega

theorem frameBytes_bits (mode number count wide : Nat) (subs : List ESub) : bitsOf (frameBytes mode number count wide subs) =
    preBits mode number count wide subs ++ (List.replicate (padLen (preBits mode number count wide subs).length) false ++ numBits (crc 16 32773 (pack (preBits mode number count wide subs)) : Nat) 16) := by
  unfold frameBytes
  rw [bitsOf_append, bitsOf_pack', bitsOf_pack' (numBits _ 16), numBits_length, List.append_assoc]
  have : padLen 16 = 0 := rfl
  rw [this]
  simp

/-- the subframes hold the channels -/
def HoldAll (wide n : Nat) : List (List Int) → List ESub → Prop
  | [], [] => True
  | c :: cs, s :: ss => c.length = n ∧ (∀ x ∈ c, fitsB wide x = true) ∧ Holds wide c s ∧ HoldAll wide n cs ss
  | _, _ => False

theorem pChannels_bits (n wide mode : Nat) (hw : 1 ≤ wide) (hm : mode < 8) : ∀ (chs : List (List Int)) (subs : List ESub) (i : Nat) (r : List Bool), HoldAll wide n chs subs →
    pChannels n wide mode chs.length i (subs.flatMap (subBits wide) ++ r) = some (chs, r)
  | [], [], i, r, _ => rfl
  | [], _ :: _, _, _, h => h.elim
  | _ :: _, [], _, _, h => h.elim
  | c :: cs, s :: ss, i, r, h => by
    obtain ⟨hl, hf, hs, hr⟩ := h
    have he : extra mode i = 0 := by
      unfold extra
      rw [if_neg (by omega)]
    show (pSubframe n (wide + extra mode i) _).bind _ = _
    rw [he, Nat.add_zero, List.flatMap_cons, List.append_assoc, ← hl, pSubframe_bits wide c s _ hw hf hs]
    simp only [Option.bind_some]
    rw [hl, pChannels_bits n wide mode hw hm cs ss (i + 1) r hr]
    rfl

theorem holdAll_fits (wide n : Nat) : ∀ (chs : List (List Int)) (subs : List ESub), HoldAll wide n chs subs → ∀ c ∈ chs, c.length = n ∧ ∀ x ∈ c, fitsB wide x = true
  | [], _, _, c, hc => by simp at hc
  | _ :: _, [], h, _, _ => h.elim
  | c :: cs, s :: ss, h, d, hd => by
    rcases List.mem_cons.1 hd with rfl | hd
    · exact ⟨h.1, h.2.1⟩
    · exact holdAll_fits wide n cs ss h.2.2.2 d hd

theorem apart_low2 (mode : Nat) (hm : mode < 8) (chs : List (List Int)) (n : Nat) (h : ∀ c ∈ chs, c.length = n) : apart mode chs = chs := by
  match chs, h with
  | [], _ => rfl
  | [a], _ => rfl
  | a :: b :: c :: r, _ => rfl
  | [a, b], h =>
    have ha := h a (by simp)
    have hb := h b (by simp)
    have hp : ∀ x y : Int, pair mode x y = (x, y) := fun x y => by
      unfold pair
      rw [if_neg (by omega), if_neg (by omega), if_neg (by omega)]
    have key : ∀ (a b : List Int), a.length = b.length → (List.zipWith (pair mode) a b).map (·.1) = a ∧ (List.zipWith (pair mode) a b).map (·.2) = b := by
      intro a
      induction a with
      | nil => intro b hb; cases b with
        | nil => exact ⟨rfl, rfl⟩
        | cons _ _ => simp at hb
      | cons x a ih => intro b hb; cases b with
        | nil => simp at hb
        | cons y b =>
          have := ih b (by simpa using hb)
          rw [List.zipWith_cons_cons, List.map_cons, List.map_cons, hp, this.1, this.2]
          exact ⟨rfl, rfl⟩
    have := key a b (by omega)
    show [_, _] = _
    rw [this.1, this.2]

theorem crc_lt8 (l : List UInt8) : crc 8 7 l < 256 := crc_lt 8 7 (by decide) (by decide) l
theorem crc_lt16 (l : List UInt8) : crc 16 32773 l < 65536 := crc_lt 16 32773 (by decide) (by decide) l

theorem pFrame_bytes (h : Head) (mode number count : Nat) (chs : List (List Int)) (subs : List ESub) (rest : List UInt8) (hm : modeOk h.channels mode = true) (hm8 : mode < 8) (hw : 1 ≤ h.bits) (hn : number < 256) (hc : chs.length = h.channels) (hc1 : 1 ≤ count) (hc2 : count ≤ h.block) (hb : h.block ≤ 65536)
    (hh : HoldAll h.bits count chs subs) : pFrame h number (frameBytes mode number count h.bits subs ++ rest) = some (chs, rest) := by
  obtain ⟨fb, hfb⟩ : ∃ fb, frameBytes mode number count h.bits subs = fb := ⟨_, rfl⟩
  have hbits := frameBytes_bits mode number count h.bits subs
  obtain ⟨pb, hpb⟩ : ∃ pb, preBits mode number count h.bits subs = pb := ⟨_, rfl⟩
  have hfl : fb.length = (pack pb).length + 2 := by
    rw [← hfb, ← hpb]
    unfold frameBytes
    rw [List.length_append, pack_length (numBits _ 16), numBits_length]
  rw [hfb, hpb] at hbits
  rw [hfb]
  have hall : bitsOf (fb ++ rest) = pb ++ (List.replicate (padLen pb.length) false ++ (numBits (crc 16 32773 (pack pb) : Nat) 16 ++ bitsOf rest)) := by
    rw [bitsOf_append, hbits]; simp [List.append_assoc]
  obtain ⟨tail, htail⟩ : ∃ tail, List.replicate (padLen pb.length) false ++ (numBits (crc 16 32773 (pack pb) : Nat) 16 ++ bitsOf rest) = tail := ⟨_, rfl⟩
  have h7 : (fb ++ rest).take 7 = pack (headBits mode number count) := by
    apply bitsOf_inj
    rw [bitsOf_take, hall, bitsOf_pack', headBits_length, ← hpb]
    unfold preBits
    rw [List.append_assoc, List.take_left' (by rw [headBits_length])]
    have : padLen 56 = 0 := rfl
    rw [this]
    simp
  have hfbr : (fb ++ rest).take ((fb ++ rest).length - (2 + rest.length)) = pack pb := by
    apply bitsOf_inj
    rw [bitsOf_take, hall, bitsOf_pack', ← List.append_assoc, List.take_left']
    rw [List.length_append, List.length_append, List.length_replicate, hfl, pack_length]
    unfold padLen
    omega
  unfold pFrame
  have hhead : pHead h number (fb ++ rest) (bitsOf (fb ++ rest)) = some ((mode, count), subs.flatMap (subBits h.bits) ++ tail) := by
    unfold pHead
    rw [hall, htail, ← hpb, h7]
    unfold preBits
    obtain ⟨c8, hc8⟩ : ∃ c8, crc 8 7 (pack (headBits mode number count)) = c8 := ⟨_, rfl⟩
    have hc8l := crc_lt8 (pack (headBits mode number count))
    rw [hc8] at hc8l ⊢
    unfold headBits
    have e24 : numBits ((16775280 : Nat) : Int) 24 = numBits ((65528 : Nat) : Int) 16 ++ numBits ((112 : Nat) : Int) 8 := by decide
    rw [e24]
    simp only [List.append_assoc]
    have hmode : mode < 16 := by omega
    rw [pMust_bits 65528 16 _ (by decide)]
    simp only [Option.bind_some]
    rw [pMust_bits 112 8 _ (by decide)]
    simp only [Option.bind_some]
    rw [pNum_bits_nat mode 4 _ hmode]
    simp only [Option.bind_some]
    rw [pMust_bits 0 4 _ (by decide)]
    simp only [Option.bind_some]
    rw [pMust_bits number 8 _ hn]
    simp only [Option.bind_some]
    rw [pNum_bits_nat (count - 1) 16 _ (by show count - 1 < 65536; omega)]
    simp only [Option.bind_some]
    rw [pMust_bits c8 8 _ hc8l]
    simp only [Option.bind_some]
    rw [show count - 1 + 1 = count by omega, if_pos ⟨hc2, hm⟩]
  rw [hhead]
  simp only [Option.bind_some]
  rw [← hc, pChannels_bits count h.bits mode hw hm8 chs subs 0 tail hh]
  simp only [Option.bind_some]
  have htl : tail.length % 8 = padLen pb.length := by
    rw [← htail, List.length_append, List.length_append, List.length_replicate, numBits_length, bitsOf_length]
    unfold padLen
    omega
  rw [htl, ← htail, pMust_false]
  simp only [Option.bind_some]
  have hr2 : (numBits ((crc 16 32773 (pack pb) : Nat) : Int) 16 ++ bitsOf rest).length / 8 = 2 + rest.length := by
    rw [List.length_append, numBits_length, bitsOf_length]; omega
  rw [hr2, hfbr, pMust_bits _ 16 _ (crc_lt16 _)]
  simp only [Option.bind_some]
  have hfit := holdAll_fits h.bits count chs subs hh
  have hr3 : (bitsOf rest).length / 8 = rest.length := by rw [bitsOf_length]; omega
  rw [apart_low2 mode hm8 chs count (fun c hc => (hfit c hc).1), hr3, if_pos ?_, List.length_append, Nat.add_sub_cancel, List.drop_left]
  rw [List.all_eq_true]
  intro c hc
  rw [List.all_eq_true]
  exact (hfit c hc).2
end Go.Proofs.Ytncmgnmcggkhnaa
