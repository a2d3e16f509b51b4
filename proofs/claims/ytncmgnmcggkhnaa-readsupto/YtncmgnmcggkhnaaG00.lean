import Derived.WalkKit
import Derived.Test.YtncmgnmcggkhnaaRows
import Derived.WalkSpells
import Derived.WalkLawsBesides
/-
  Plain mathematics of check sums: nothing of the program is named here.
-/
namespace Go.Proofs.Ytncmgnmcggkhnaa
open Go.RowKit

/-- `bits` on numbers that are not below 0, as natural numbers. -/
theorem bits_xor_nat (a b : Nat) (ha : a < 9223372036854775808) (hb : b < 9223372036854775808) :
    bits .xor .i64 (a : Int) (b : Int) = ((a ^^^ b : Nat) : Int) := by
  have hx : a ^^^ b < 2 ^ 63 := Nat.xor_lt_two_pow (by omega) (by omega)
  have e : (BitVec.ofInt 64 (a : Int) ^^^ BitVec.ofInt 64 (b : Int)).toNat = a ^^^ b := by
    rw [BitVec.toNat_xor, BitVec.toNat_ofInt, BitVec.toNat_ofInt]
    congr 1 <;> omega
  show IntKind.wrap .i64 ((BitVec.ofInt 64 (a : Int) ^^^ BitVec.ofInt 64 (b : Int)).toNat : Int) = _
  rw [e, IntKind.wrap_i64]
  omega

theorem bits_and_nat (a b : Nat) (ha : a < 9223372036854775808) (hb : b < 9223372036854775808) :
    bits .and .i64 (a : Int) (b : Int) = ((a &&& b : Nat) : Int) := by
  have hx : a &&& b ≤ a := Nat.and_le_left
  have e : (BitVec.ofInt 64 (a : Int) &&& BitVec.ofInt 64 (b : Int)).toNat = a &&& b := by
    rw [BitVec.toNat_and, BitVec.toNat_ofInt, BitVec.toNat_ofInt]
    congr 1 <;> omega
  show IntKind.wrap .i64 ((BitVec.ofInt 64 (a : Int) &&& BitVec.ofInt 64 (b : Int)).toNat : Int) = _
  rw [e, IntKind.wrap_i64]
  omega

theorem bits_and_mask (a n : Nat) (ha : a < 9223372036854775808) (hn : n ≤ 62) (m : Int) (hm : m = ((2 ^ n - 1 : Nat) : Int)) :
    bits .and .i64 (a : Int) m = ((a % 2 ^ n : Nat) : Int) := by
  have h2 : 2 ^ n ≤ 2 ^ 62 := Nat.pow_le_pow_right (by omega) hn
  rw [hm, bits_and_nat _ _ ha (by omega), Nat.and_two_pow_sub_one_eq_mod]

/-- one doubling of a sum of `w` bits -/
def dbl (w g r : Nat) : Nat := (r * 2 % 2 ^ w) ^^^ (if r / 2 ^ (w - 1) = 1 then g else 0)

def dblN (w g : Nat) : Nat → Nat → Nat
  | 0, r => r
  | n + 1, r => dblN w g n (dbl w g r)

/-- one byte -/
def byteStep (w g r b : Nat) : Nat := dblN w g 8 (r ^^^ b * 2 ^ (w - 8))

def crcFrom (w g : Nat) (r : Nat) (l : List UInt8) : Nat := l.foldl (fun r b => byteStep w g r b.toNat) r

def crc (w g : Nat) (l : List UInt8) : Nat := crcFrom w g 0 l

theorem dbl_lt (w g r : Nat) (hg : g < 2 ^ w) : dbl w g r < 2 ^ w := by
  unfold dbl
  refine Nat.xor_lt_two_pow (Nat.mod_lt _ (Nat.two_pow_pos _)) ?_
  split
  · exact hg
  · exact Nat.two_pow_pos _

theorem dblN_lt (w g : Nat) (hg : g < 2 ^ w) : ∀ n r, r < 2 ^ w → dblN w g n r < 2 ^ w
  | 0, _, h => h
  | n + 1, r, _ => dblN_lt w g hg n _ (dbl_lt w g r hg)

theorem dblN_snoc (w g : Nat) : ∀ n r, dblN w g (n + 1) r = dbl w g (dblN w g n r)
  | 0, _ => rfl
  | n + 1, r => dblN_snoc w g n (dbl w g r)

theorem byteStep_lt (w g r b : Nat) (hw : 8 ≤ w) (hg : g < 2 ^ w) (hr : r < 2 ^ w) (hb : b < 256) : byteStep w g r b < 2 ^ w := by
  unfold byteStep
  refine dblN_lt w g hg _ _ (Nat.xor_lt_two_pow hr ?_)
  have e : 2 ^ w = 256 * 2 ^ (w - 8) := by
    rw [show (256 : Nat) = 2 ^ 8 from rfl, ← Nat.pow_add]; congr 1; omega
  rw [e]
  exact Nat.mul_lt_mul_of_pos_right hb (Nat.two_pow_pos _)

theorem crcFrom_lt (w g : Nat) (hw : 8 ≤ w) (hg : g < 2 ^ w) : ∀ (l : List UInt8) r, r < 2 ^ w → crcFrom w g r l < 2 ^ w
  | [], _, h => h
  | b :: l, r, h => crcFrom_lt w g hw hg l _ (byteStep_lt w g r b.toNat hw hg h b.toNat_lt)

theorem crc_lt (w g : Nat) (hw : 8 ≤ w) (hg : g < 2 ^ w) (l : List UInt8) : crc w g l < 2 ^ w :=
  crcFrom_lt w g hw hg l 0 (Nat.two_pow_pos _)

theorem crcFrom_snoc (w g r : Nat) (l : List UInt8) (b : UInt8) : crcFrom w g r (l ++ [b]) = byteStep w g (crcFrom w g r l) b.toNat := by
  unfold crcFrom; simp

theorem crc_snoc (w g : Nat) (l : List UInt8) (b : UInt8) : crc w g (l ++ [b]) = byteStep w g (crc w g l) b.toNat :=
  crcFrom_snoc w g 0 l b

theorem lt_two_01 {n : Nat} (h : n < 2) : n = 0 ∨ n = 1 := by omega

theorem div_two_pow_01 (w r : Nat) (hw : 1 ≤ w) (hr : r < 2 ^ w) : r / 2 ^ (w - 1) = 0 ∨ r / 2 ^ (w - 1) = 1 := by
  have e : 2 ^ w = 2 ^ (w - 1) * 2 := by rw [← Nat.pow_succ]; congr 1; omega
  have : r / 2 ^ (w - 1) < 2 := by
    rw [Nat.div_lt_iff_lt_mul (Nat.two_pow_pos _), Nat.mul_comm, ← e]; exact hr
  exact lt_two_01 this

theorem xor_div_two_pow (a b n : Nat) : (a ^^^ b) / 2 ^ n = a / 2 ^ n ^^^ b / 2 ^ n := by
  rw [← Nat.shiftRight_eq_div_pow, ← Nat.shiftRight_eq_div_pow, ← Nat.shiftRight_eq_div_pow, Nat.shiftRight_xor_distrib]

theorem xor_mul_two_pow (a b n : Nat) : (a ^^^ b) * 2 ^ n = a * 2 ^ n ^^^ b * 2 ^ n := by
  rw [← Nat.shiftLeft_eq, ← Nat.shiftLeft_eq, ← Nat.shiftLeft_eq, Nat.shiftLeft_xor_distrib]

theorem xor4 (a b c d : Nat) : (a ^^^ b) ^^^ (c ^^^ d) = (a ^^^ c) ^^^ (b ^^^ d) := by
  rw [Nat.xor_assoc, Nat.xor_assoc, ← Nat.xor_assoc b c d, Nat.xor_comm b c, Nat.xor_assoc c b d]

/-- doubling is linear -/
theorem dbl_xor (w g a b : Nat) (hw : 1 ≤ w) (ha : a < 2 ^ w) (hb : b < 2 ^ w) : dbl w g (a ^^^ b) = dbl w g a ^^^ dbl w g b := by
  unfold dbl
  have e1 : (a ^^^ b) * 2 % 2 ^ w = (a * 2 % 2 ^ w) ^^^ (b * 2 % 2 ^ w) := by
    have := xor_mul_two_pow a b 1
    rw [Nat.pow_one] at this
    rw [this, Nat.xor_mod_two_pow]
  rw [e1, xor4, xor_div_two_pow]
  congr 1
  rcases div_two_pow_01 w a hw ha with h | h <;> rcases div_two_pow_01 w b hw hb with h' | h' <;> simp [h, h']

theorem dblN_xor (w g : Nat) (hw : 1 ≤ w) (hg : g < 2 ^ w) : ∀ n a b, a < 2 ^ w → b < 2 ^ w → dblN w g n (a ^^^ b) = dblN w g n a ^^^ dblN w g n b
  | 0, _, _, _, _ => rfl
  | n + 1, a, b, ha, hb => by
    show dblN w g n (dbl w g (a ^^^ b)) = _
    rw [dbl_xor w g a b hw ha hb]
    exact dblN_xor w g hw hg n _ _ (dbl_lt w g a hg) (dbl_lt w g b hg)

/-- doubling what has no highest bit -/
theorem dbl_low (w g a : Nat) (hw : 1 ≤ w) (ha : a < 2 ^ (w - 1)) : dbl w g a = a * 2 := by
  unfold dbl
  have e : 2 ^ w = 2 ^ (w - 1) * 2 := by rw [← Nat.pow_succ]; congr 1; omega
  rw [Nat.div_eq_of_lt ha, Nat.mod_eq_of_lt (by omega)]
  simp

/-- one bit, as the document has it -/
def bitStep (w g r bit : Nat) : Nat := if r / 2 ^ (w - 1) % 2 ≠ bit then (r * 2 % 2 ^ w) ^^^ g else r * 2 % 2 ^ w

theorem bitStep_lt (w g r bit : Nat) (hg : g < 2 ^ w) : bitStep w g r bit < 2 ^ w := by
  unfold bitStep
  split
  · exact Nat.xor_lt_two_pow (Nat.mod_lt _ (Nat.two_pow_pos _)) hg
  · exact Nat.mod_lt _ (Nat.two_pow_pos _)

theorem bitStep_dbl (w g r bit : Nat) (hw : 1 ≤ w) (hr : r < 2 ^ w) (hbit : bit < 2) : bitStep w g r bit = dbl w g (r ^^^ bit * 2 ^ (w - 1)) := by
  have e : 2 ^ w = 2 ^ (w - 1) * 2 := by rw [← Nat.pow_succ]; congr 1; omega
  have hpos := Nat.two_pow_pos (w - 1)
  have hb : bit * 2 ^ (w - 1) < 2 ^ w := by
    rcases (show bit = 0 ∨ bit = 1 by omega) with rfl | rfl <;> omega
  unfold bitStep dbl
  have e1 : (r ^^^ bit * 2 ^ (w - 1)) * 2 % 2 ^ w = r * 2 % 2 ^ w := by
    have := xor_mul_two_pow r (bit * 2 ^ (w - 1)) 1
    rw [Nat.pow_one] at this
    rw [this, Nat.xor_mod_two_pow, show bit * 2 ^ (w - 1) * 2 = bit * 2 ^ w by rw [Nat.mul_assoc, ← e], Nat.mul_mod_left]
    simp
  rw [e1, xor_div_two_pow, Nat.mul_div_cancel _ hpos]
  rcases div_two_pow_01 w r hw hr with h | h <;> rcases (show bit = 0 ∨ bit = 1 by omega) with rfl | rfl <;> simp [h]

/-- `m` bits that are still to come, at once or one behind the other -/
theorem rest_step (w g r b m : Nat) (hm : m + 1 ≤ w) (hr : r < 2 ^ w) (hb : b < 2 ^ (m + 1)) :
    dblN w g (m + 1) (r ^^^ b * 2 ^ (w - (m + 1))) = dblN w g m (bitStep w g r (b / 2 ^ m) ^^^ (b % 2 ^ m) * 2 ^ (w - m)) := by
  have hp := Nat.two_pow_pos m
  have hbit : b / 2 ^ m < 2 := by
    rw [Nat.div_lt_iff_lt_mul hp, Nat.mul_comm, ← Nat.pow_succ]; exact hb
  have hlow : b % 2 ^ m < 2 ^ m := Nat.mod_lt _ hp
  have e1 : b = (b / 2 ^ m * 2 ^ m) ^^^ (b % 2 ^ m) := by
    have h := Nat.two_pow_add_eq_or_of_lt hlow (b / 2 ^ m)
    have hd := Nat.div_add_mod b (2 ^ m)
    rw [hd] at h
    apply Nat.eq_of_testBit_eq
    intro i
    rw [Nat.testBit_xor]
    have hb' : b.testBit i = (2 ^ m * (b / 2 ^ m) ||| b % 2 ^ m).testBit i := by rw [← h]
    rw [hb', Nat.testBit_or, Nat.mul_comm]
    by_cases hi : i < m
    · rw [show b / 2 ^ m * 2 ^ m = 2 ^ m * (b / 2 ^ m) from Nat.mul_comm _ _, Nat.testBit_two_pow_mul]
      simp [show ¬ m ≤ i by omega]
    · have : (b % 2 ^ m).testBit i = false := Nat.testBit_lt_two_pow (Nat.lt_of_lt_of_le hlow (Nat.pow_le_pow_right (by omega) (by omega)))
      simp [this]
  have e2 : 2 ^ m * 2 ^ (w - (m + 1)) = 2 ^ (w - 1) := by rw [← Nat.pow_add]; congr 1; omega
  have e3 : b * 2 ^ (w - (m + 1)) = b / 2 ^ m * 2 ^ (w - 1) ^^^ (b % 2 ^ m) * 2 ^ (w - (m + 1)) := by
    conv => lhs; rw [e1]
    rw [xor_mul_two_pow, Nat.mul_assoc, e2]
  have hlow2 : (b % 2 ^ m) * 2 ^ (w - (m + 1)) < 2 ^ (w - 1) := by
    rw [← e2]; exact Nat.mul_lt_mul_of_pos_right hlow (Nat.two_pow_pos _)
  have hw1 : 2 ^ (w - 1) ≤ 2 ^ w := Nat.pow_le_pow_right (by omega) (by omega)
  have e : 2 ^ w = 2 ^ (w - 1) * 2 := by rw [← Nat.pow_succ]; congr 1; omega
  have hbb : b / 2 ^ m * 2 ^ (w - 1) < 2 ^ w := by
    have hpos := Nat.two_pow_pos (w - 1)
    rcases lt_two_01 hbit with h | h <;> rw [h] <;> omega
  show dblN w g m (dbl w g (r ^^^ b * 2 ^ (w - (m + 1)))) = _
  rw [e3, ← Nat.xor_assoc, dbl_xor w g _ _ (by omega) (Nat.xor_lt_two_pow hr hbb) (by omega), ← bitStep_dbl w g r _ (by omega) hr hbit,
    dbl_low w g _ (by omega) hlow2, Nat.mul_assoc, ← Nat.pow_succ]
  congr 4
  omega

end Go.Proofs.Ytncmgnmcggkhnaa

/-
  What a stream means: plain functions on lists of bits and bytes. Nothing of the program is named here.
-/
namespace Go.Proofs.Ytncmgnmcggkhnaa
open Go.RowKit

/-! ### bits -/

/-- the bits of a byte, the highest first -/
def byteBits (b : UInt8) : List Bool :=
  [b.toNat.testBit 7, b.toNat.testBit 6, b.toNat.testBit 5, b.toNat.testBit 4, b.toNat.testBit 3, b.toNat.testBit 2, b.toNat.testBit 1, b.toNat.testBit 0]

def bitsOf (l : List UInt8) : List Bool := l.flatMap byteBits

theorem byteBits_length (b : UInt8) : (byteBits b).length = 8 := rfl

theorem bitsOf_cons (b : UInt8) (l : List UInt8) : bitsOf (b :: l) = byteBits b ++ bitsOf l := by
  unfold bitsOf; simp

theorem bitsOf_append (l m : List UInt8) : bitsOf (l ++ m) = bitsOf l ++ bitsOf m := by
  unfold bitsOf; simp

theorem bitsOf_length : ∀ l : List UInt8, (bitsOf l).length = 8 * l.length
  | [] => rfl
  | b :: l => by rw [bitsOf_cons, List.length_append, bitsOf_length l, byteBits_length, List.length_cons]; omega

theorem bitsOf_drop : ∀ (l : List UInt8) (k : Nat), (bitsOf l).drop (8 * k) = bitsOf (l.drop k)
  | l, 0 => by simp
  | [], k + 1 => by simp [bitsOf]
  | b :: l, k + 1 => by
    rw [bitsOf_cons, List.drop_append, byteBits_length, List.drop_of_length_le (by rw [byteBits_length]; omega),
      show 8 * (k + 1) - 8 = 8 * k by omega, bitsOf_drop l k]
    rfl

theorem byteBits_get (b : UInt8) (j : Nat) (hj : j < 8) : (byteBits b)[j]'(by rw [byteBits_length]; exact hj) = b.toNat.testBit (7 - j) := by
  match j, hj with
  | 0, _ => rfl
  | 1, _ => rfl
  | 2, _ => rfl
  | 3, _ => rfl
  | 4, _ => rfl
  | 5, _ => rfl
  | 6, _ => rfl
  | 7, _ => rfl

theorem bitsOf_get (l : List UInt8) (i : Nat) (hi : i / 8 < l.length) : (bitsOf l)[i]'(by rw [bitsOf_length]; omega) = (l[i / 8]).toNat.testBit (7 - i % 8) := by
  have h1 : (bitsOf l)[i]? = some ((l[i / 8]).toNat.testBit (7 - i % 8)) := by
    have e : i = 8 * (i / 8) + i % 8 := by omega
    have h2 : (bitsOf l)[i]? = ((bitsOf l).drop (8 * (i / 8)))[i % 8]? := by
      rw [List.getElem?_drop]
      congr 1
    rw [h2, bitsOf_drop, List.drop_eq_getElem_cons hi, bitsOf_cons, List.getElem?_append_left (by rw [byteBits_length]; omega),
      List.getElem?_eq_getElem (by rw [byteBits_length]; omega), byteBits_get _ _ (by omega)]
  rw [List.getElem?_eq_getElem (by rw [bitsOf_length]; omega)] at h1
  exact Option.some.inj h1

/-! ### fields -/

def P (α : Type) : Type := List Bool → Option (α × List Bool)

/-- the number that bits are, the highest first -/
def val (l : List Bool) : Nat := l.foldl (fun a c => 2 * a + c.toNat) 0

theorem val_snoc (l : List Bool) (c : Bool) : val (l ++ [c]) = 2 * val l + c.toNat := by
  unfold val; simp

theorem foldl_lt : ∀ (l : List Bool) (a : Nat), l.foldl (fun a c => 2 * a + c.toNat) a < (a + 1) * 2 ^ l.length
  | [], a => by simp
  | c :: l, a => by
    rw [List.foldl_cons, List.length_cons, Nat.pow_succ]
    refine Nat.lt_of_lt_of_le (foldl_lt l (2 * a + c.toNat)) ?_
    rw [Nat.mul_comm (2 ^ l.length) 2, ← Nat.mul_assoc]
    exact Nat.mul_le_mul_right _ (by have : c.toNat ≤ 1 := Bool.toNat_le c; omega)

theorem val_lt (l : List Bool) : val l < 2 ^ l.length := by
  have := foldl_lt l 0
  unfold val
  omega

def pNum (n : Nat) : P Nat := fun l => if n ≤ l.length then some (val (l.take n), l.drop n) else none

/-- a number of n bits in two's complement; of no bits: 0 -/
def sign (n : Nat) (v : Nat) : Int := if 0 < n ∧ 2 ^ (n - 1) ≤ v then (v : Int) - 2 ^ n else v

def pSigned (n : Nat) : P Int := fun l => (pNum n l).map fun (v, r) => (sign n v, r)

def pMust (n v : Nat) : P Unit := fun l => (pNum n l).bind fun (x, r) => if x = v then some ((), r) else none

def pNoughts : P Nat
  | [] => none
  | true :: l => some (0, l)
  | false :: l => (pNoughts l).map fun (q, r) => (q + 1, r)

def pList (f : P Int) : Nat → P (List Int)
  | 0 => fun l => some ([], l)
  | n + 1 => fun l => (f l).bind fun (x, r) => (pList f n r).map fun (xs, r') => (x :: xs, r')

/-! ### the residue -/

def unfold1 (u : Nat) : Int := if u % 2 = 0 then (u : Int) / 2 else -(((u : Int) + 1) / 2)

def pRice (k : Nat) : P Int := fun l =>
  (pNoughts l).bind fun (q, r) => (pNum k r).bind fun (v, r') =>
    if q * 2 ^ k + v < 2 ^ 32 then some (unfold1 (q * 2 ^ k + v), r') else none

def pPart (method many : Nat) : P (List Int) := fun l =>
  (pNum (4 + method) l).bind fun (k, r) =>
    if k = 15 + 16 * method then (pNum 5 r).bind fun (m, r') => pList (pSigned m) many r'
    else pList (pRice k) many r

/-- `c` parts of `many` each, the first of them less `less` -/
def pParts (method many less : Nat) : Nat → P (List Int)
  | 0 => fun l => some ([], l)
  | c + 1 => fun l => (pPart method (many - less) l).bind fun (xs, r) => (pParts method many 0 c r).map fun (ys, r') => (xs ++ ys, r')

def pResidue (n order : Nat) : P (List Int) := fun l =>
  (pNum 2 l).bind fun (method, r) => (pNum 4 r).bind fun (p, r') =>
    if method ≤ 1 ∧ n % 2 ^ p = 0 ∧ order ≤ n / 2 ^ p then pParts method (n / 2 ^ p) order (2 ^ p) r' else none

/-! ### what is foretold -/

def fitsB (bits : Nat) (x : Int) : Bool := decide (-(2 ^ (bits - 1) : Nat) ≤ x) && decide (x < (2 ^ (bits - 1) : Nat))

/-- the factors times the samples ahead, the last one first; `l` is turned round -/
def dot : List Int → List Int → Int
  | f :: fs, a :: rs => f * a + dot fs rs
  | _, _ => 0

/-- samples behind `acc` (turned round), as long as each is of so many bits -/
def predict (wide : Nat) (factors : List Int) (shift : Nat) : List Int → List Int → Option (List Int)
  | acc, [] => some acc.reverse
  | acc, v :: vs =>
    if fitsB wide (dot factors acc / 2 ^ shift + v) then predict wide factors shift ((dot factors acc / 2 ^ shift + v) :: acc) vs else none

def fixedFactors : Nat → List Int
  | 1 => [1]
  | 2 => [2, -1]
  | 3 => [3, -3, 1]
  | 4 => [4, -6, 4, -1]
  | _ => []

/-! ### subframes -/

def pForetold (n wide : Nat) (first factors : List Int) (shift : Nat) : P (List Int) := fun l =>
  (pResidue n first.length l).bind fun (res, r) => (predict wide factors shift first.reverse res).map fun xs => (xs, r)

def pFixed (n wide order : Nat) : P (List Int) := fun l =>
  if order ≤ n then (pList (pSigned wide) order l).bind fun (first, r) => pForetold n wide first (fixedFactors order) 0 r else none

def pLinear (n wide order : Nat) : P (List Int) := fun l =>
  if order ≤ n then
    (pList (pSigned wide) order l).bind fun (first, r) => (pNum 4 r).bind fun (fb, r1) => (pSigned 5 r1).bind fun (shift, r2) =>
      if fb = 15 ∨ shift < 0 then none
      else (pList (pSigned (fb + 1)) order r2).bind fun (factors, r3) => pForetold n wide first factors shift.toNat r3
  else none

/-- a subframe by its kind, of samples of `wide` bits -/
def pKind (kind n wide : Nat) : P (List Int) := fun l =>
  if kind = 0 then (pSigned wide l).map fun (x, r) => (List.replicate n x, r)
  else if kind = 1 then pList (pSigned wide) n l
  else if 8 ≤ kind ∧ kind ≤ 12 then pFixed n wide (kind - 8) l
  else if 32 ≤ kind ∧ kind ≤ 39 then pLinear n wide (kind - 31) l
  else none

/-- how many bits fewer -/
def pLess : P Nat := fun l => (pNum 1 l).bind fun (c, r) => if c = 1 then (pNoughts r).map fun (q, r') => (q + 1, r') else some (0, r)

def pSubframe (n wide : Nat) : P (List Int) := fun l =>
  (pMust 1 0 l).bind fun (_, r) => (pNum 6 r).bind fun (kind, r1) => (pLess r1).bind fun (less, r2) =>
    if less < wide then (pKind kind n (wide - less) r2).map fun (xs, r3) => (xs.map (· * 2 ^ less), r3) else none

/-! ### frames -/

structure Head where
  block : Nat
  rate : Nat
  channels : Nat
  bits : Nat
  total : Nat

def modeOk (channels mode : Nat) : Bool := (channels == 1 && mode == 0) || (channels == 2 && (mode == 1 || (decide (8 ≤ mode) && decide (mode ≤ 10))))

/-- how many bits more subframe `i` has -/
def extra (mode i : Nat) : Nat := if (mode = 8 ∧ i = 1) ∨ (mode = 9 ∧ i = 0) ∨ (mode = 10 ∧ i = 1) then 1 else 0

def pair (mode : Nat) (a b : Int) : Int × Int :=
  if mode = 8 then (a, a - b) else if mode = 9 then (a + b, b)
  else if mode = 10 then ((2 * a + b % 2 + b) / 2, (2 * a + b % 2 - b) / 2) else (a, b)

/-- the channels, out of the subframes -/
def apart (mode : Nat) : List (List Int) → List (List Int)
  | [a, b] => [(List.zipWith (pair mode) a b).map (·.1), (List.zipWith (pair mode) a b).map (·.2)]
  | l => l

def pChannels (n bits mode : Nat) : Nat → Nat → P (List (List Int))
  | 0, _ => fun l => some ([], l)
  | c + 1, i => fun l => (pSubframe n (bits + extra mode i) l).bind fun (x, r) => (pChannels n bits mode c (i + 1) r).map fun (xs, r') => (x :: xs, r')

/-- the head of a frame of that number: mode and n; `bytes`: all from the frame's first one on -/
def pHead (h : Head) (number : Nat) (bytes : List UInt8) : P (Nat × Nat) := fun l =>
  (pMust 16 65528 l).bind fun (_, r) => (pMust 8 112 r).bind fun (_, r1) => (pNum 4 r1).bind fun (mode, r2) => (pMust 4 0 r2).bind fun (_, r3) =>
    (pMust 8 number r3).bind fun (_, r4) => (pNum 16 r4).bind fun (n1, r5) => (pMust 8 (crc 8 7 (bytes.take 7)) r5).bind fun (_, r6) =>
      if n1 + 1 ≤ h.block ∧ modeOk h.channels mode = true then some ((mode, n1 + 1), r6) else none

/-- a frame: its channels, and all bytes behind it -/
def pFrame (h : Head) (number : Nat) (bytes : List UInt8) : Option (List (List Int) × List UInt8) :=
  (pHead h number bytes (bitsOf bytes)).bind fun ((mode, n), r) => (pChannels n h.bits mode h.channels 0 r).bind fun (subs, r1) =>
    (pMust (r1.length % 8) 0 r1).bind fun (_, r2) =>
      (pMust 16 (crc 16 32773 (bytes.take (bytes.length - r2.length / 8))) r2).bind fun (_, r3) =>
        if (apart mode subs).all (fun c => c.all (fitsB h.bits)) = true then some (apart mode subs, bytes.drop (bytes.length - r3.length / 8)) else none

/-! ### blocks -/

def headOk (h : Head) : Bool :=
  decide (16 ≤ h.block) && decide (h.block ≤ 256) && decide (1 ≤ h.rate) && decide (h.rate ≤ 655350) && decide (h.channels ≤ 2) &&
    decide (4 ≤ h.bits) && decide (h.bits ≤ 16) && decide (h.total ≤ 1200)

/-- what the first block's 34 bytes tell -/
def pInfo : P Head := fun l =>
  (pNum 16 l).bind fun (block, r) => (pMust 16 block r).bind fun (_, r1) => (pNum 48 r1).bind fun (_, r2) => (pNum 20 r2).bind fun (rate, r3) =>
    (pNum 3 r3).bind fun (ch, r4) => (pNum 5 r4).bind fun (bt, r5) => (pNum 36 r5).bind fun (total, r6) => (pNum 128 r6).bind fun (_, r7) =>
      if headOk ⟨block, rate, ch + 1, bt + 1, total⟩ = true then some (⟨block, rate, ch + 1, bt + 1, total⟩, r7) else none

/-- a block's head: last or not, type, how many bytes -/
def pBlock : P (Nat × Nat × Nat) := fun l =>
  (pNum 1 l).bind fun (last, r) => (pNum 7 r).bind fun (kind, r1) => (pNum 24 r1).bind fun (size, r2) => some ((last, kind, size), r2)

/-- blocks behind the first one -/
def pMore : Nat → P Unit
  | 0 => fun _ => none
  | fuel + 1 => fun l => (pBlock l).bind fun ((last, kind, size), r) =>
    if kind = 0 ∨ kind = 127 ∨ (kind = 3 ∧ size % 18 ≠ 0) ∨ r.length < 8 * size then none
    else if last = 1 then some ((), r.drop (8 * size)) else pMore fuel (r.drop (8 * size))

def pBlocks : P Head := fun l =>
  (pMust 8 102 l).bind fun (_, r) => (pMust 8 76 r).bind fun (_, r1) => (pMust 8 97 r1).bind fun (_, r2) => (pMust 8 67 r2).bind fun (_, r3) =>
    (pBlock r3).bind fun ((last, kind, size), r4) =>
      if kind = 0 ∧ size = 34 then (pInfo r4).bind fun (h, r5) => if last = 1 then some (h, r5) else (pMore l.length r5).map fun (_, r6) => (h, r6)
      else none

/-! ### the whole stream -/

/-- frames up to the end: the channels, or the number of the first one that is none -/
def frames (h : Head) : Nat → Nat → Nat → Bool → List (List Int) → List UInt8 → Except Nat (List (List Int))
  | 0, number, _, _, _, _ => .error number
  | fuel + 1, number, total, ended, acc, bytes =>
    if bytes = [] then .ok acc
    else match pFrame h number bytes with
      | none => .error number
      | some (chs, rest) =>
        if ended = true ∨ 1200 < total + (chs.headD []).length then .error number
        else frames h fuel (number + 1) (total + (chs.headD []).length) (decide ((chs.headD []).length < h.block)) (List.zipWith (· ++ ·) acc chs) rest

abbrev Answer : Type := (Nat × Nat) ⊕ (Nat × Nat × List (List Int))
abbrev Answer.err (e place : Nat) : Answer := Sum.inl (e, place)
abbrev Answer.sound (rate bits : Nat) (channels : List (List Int)) : Answer := Sum.inr (rate, bits, channels)

theorem Answer.each {motive : Answer → Prop} (err : ∀ e p, motive (.err e p)) (sound : ∀ r b c, motive (.sound r b c)) : ∀ t : Answer, motive t
  | .inl (e, p) => err e p
  | .inr (r, b, c) => sound r b c

def decode (s : List UInt8) : Answer :=
  if 6000 < s.length then .err 2 0
  else match pBlocks (bitsOf s) with
    | none => .err 3 0
    | some (h, r) =>
      match frames h (s.length + 1) 0 0 false (List.replicate h.channels []) (s.drop (s.length - r.length / 8)) with
      | .error number => .err 4 number
      | .ok chs => if (chs.headD []).length = h.total then .sound h.rate h.bits chs else .err 5 0

end Go.Proofs.Ytncmgnmcggkhnaa

namespace Go.Proofs.Ytncmgnmcggkhnaa
open Go.RowKit

theorem ret_int {k : IntKind} {a b : Int} (h : a = b) : Ending.returned (.int k a) = .returned (.int k b) := by rw [h]

theorem take_snoc (s : ByteArray) (k : Nat) (h : k < s.size) : s.data.toList.take (k + 1) = s.data.toList.take k ++ [s[k]] := by
  rw [List.take_succ_eq_append_getElem (by simpa using h)]; rfl

theorem dbl8_yes (r : Nat) (h1 : r < 256) (h : ((r : Int) / 128 == 1) = true) :
    bits .xor .i64 (bits .and .i64 ((r : Int) * 2) 255) 7 = (dbl 8 7 r : Nat) := by
  have h' : r / 128 = 1 := by simp at h; omega
  rw [show ((r : Int) * 2) = ((r * 2 : Nat) : Int) by omega, bits_and_mask (r * 2) 8 (by omega) (by omega) 255 rfl,
    show (7 : Int) = ((7 : Nat) : Int) from rfl, bits_xor_nat _ _ (by omega) (by omega)]
  unfold dbl
  simp [h']

theorem dbl8_no (r : Nat) (h1 : r < 256) (h : ((r : Int) / 128 == 1) = false) :
    bits .and .i64 ((r : Int) * 2) 255 = (dbl 8 7 r : Nat) := by
  have h' : ¬ r / 128 = 1 := by simp at h; omega
  rw [show ((r : Int) * 2) = ((r * 2 : Nat) : Int) by omega, bits_and_mask (r * 2) 8 (by omega) (by omega) 255 rfl]
  unfold dbl
  simp [h']

theorem dbl16_yes (r : Nat) (h1 : r < 65536) (h : ((r : Int) / 32768 == 1) = true) :
    bits .xor .i64 (bits .and .i64 ((r : Int) * 2) 65535) 32773 = (dbl 16 32773 r : Nat) := by
  have h' : r / 32768 = 1 := by simp at h; omega
  rw [show ((r : Int) * 2) = ((r * 2 : Nat) : Int) by omega, bits_and_mask (r * 2) 16 (by omega) (by omega) 65535 rfl,
    show (32773 : Int) = ((32773 : Nat) : Int) from rfl, bits_xor_nat _ _ (by omega) (by omega)]
  unfold dbl
  simp [h']

theorem dbl16_no (r : Nat) (h1 : r < 65536) (h : ((r : Int) / 32768 == 1) = false) :
    bits .and .i64 ((r : Int) * 2) 65535 = (dbl 16 32773 r : Nat) := by
  have h' : ¬ r / 32768 = 1 := by simp at h; omega
  rw [show ((r : Int) * 2) = ((r * 2 : Nat) : Int) by omega, bits_and_mask (r * 2) 16 (by omega) (by omega) 65535 rfl]
  unfold dbl
  simp [h']

set_option maxHeartbeats 400000 in
theorem double8 (r : Nat) (w : World) (h1 : r < 256) :
    Calls Try.prog 60 #[.int .i64 r, .int .i64 8, .int .i64 7] w fun e w' => e = .returned (.int .i64 (dbl 8 7 r : Nat)) ∧ w' = w := by
  go_enter Try.func60, Try.ntmps60
  go_wp2
  · go_ret
    exact ⟨ret_int (dbl8_yes r h1 (by assumption)), rfl⟩
  · go_ret
    exact ⟨ret_int (dbl8_no r h1 (by assumption)), rfl⟩

set_option maxHeartbeats 400000 in
theorem double16 (r : Nat) (w : World) (h1 : r < 65536) :
    Calls Try.prog 60 #[.int .i64 r, .int .i64 16, .int .i64 32773] w fun e w' => e = .returned (.int .i64 (dbl 16 32773 r : Nat)) ∧ w' = w := by
  go_enter Try.func60, Try.ntmps60
  go_wp2
  · go_ret
    exact ⟨ret_int (dbl16_yes r h1 (by assumption)), rfl⟩
  · go_ret
    exact ⟨ret_int (dbl16_no r h1 (by assumption)), rfl⟩


theorem start8 (s : ByteArray) (k : Nat) (hlt : k < s.size) :
    bits .xor .i64 (crc 8 7 (s.data.toList.take k) : Nat) ((s[k].toNat : Int)) = (dblN 8 7 0 (crc 8 7 (s.data.toList.take k) ^^^ s[k].toNat * 2 ^ 0) : Nat) := by
  have h1 := crc_lt 8 7 (by omega) (by omega) (s.data.toList.take k)
  have h2 := s[k].toNat_lt
  have e : ((s[k].toNat : Int)) = ((s[k].toNat * 2 ^ 0 : Nat) : Int) := by omega
  rw [e, bits_xor_nat _ _ (by omega) (by omega)]
  rfl

theorem bound8 (s : ByteArray) (k j : Nat) (hlt : k < s.size) : dblN 8 7 j (crc 8 7 (s.data.toList.take k) ^^^ s[k].toNat * 2 ^ 0) < 256 := by
  have h1 := crc_lt 8 7 (by omega) (by omega) (s.data.toList.take k)
  have h2 := s[k].toNat_lt
  exact dblN_lt 8 7 (by omega) j _ (Nat.xor_lt_two_pow h1 (by omega))

set_option maxHeartbeats 400000 in
theorem sum8 (s : ByteArray) (w : World) (hs : s.size ≤ maxLen) :
    Calls Try.prog 38 #[.string s, .int .i64 8, .int .i64 7] w fun e w' => e = .returned (.int .i64 (crc 8 7 s.data.toList : Nat)) ∧ w' = w := by
  unfold maxLen at hs
  go_enter Try.func38, Try.ntmps38
  go_wp2
  go_loop [7, 11] (fun n i => ∃ k : Nat, k ≤ s.size ∧ i = .int .i64 k ∧ n = .int .i64 (crc 8 7 (s.data.toList.take k) : Nat)) (fun _ i => s.size - (intOf i).toNat)
  case atStart => exact ⟨0, Nat.zero_le _, rfl, rfl⟩
  case round =>
    obtain ⟨k, hk, rfl, rfl⟩ := hrel
    by_cases hlt : k < s.size
    · have hbyte : s[k].toNat < 256 := s[k].toNat_lt
      go_wp2
      go_loop [7, 23] (fun n i => ∃ j r : Nat, j ≤ 8 ∧ i = .int .i64 j ∧ n = .int .i64 (r : Nat) ∧ Hid (r = dblN 8 7 j (crc 8 7 (s.data.toList.take k) ^^^ s[k].toNat * 2 ^ 0))) (fun _ i => 8 - (intOf i).toNat)
      case atStart => exact ⟨0, _, by omega, rfl, congrArg (Value.int IntKind.i64) (start8 s k hlt), (rfl : _ = _)⟩
      case round =>
        obtain ⟨j, r, hj, rfl, rfl, hr⟩ := hrel
        have hbd : r < 256 := by rw [hr.out]; exact bound8 s k j hlt
        by_cases hj8 : j < 8
        · go_wp2_with (go_at_call 60; refine (double8 _ _ hbd).mono ?_; rintro e w' ⟨rfl, rfl⟩)
          go_round
          case rel => exact ⟨j + 1, _, by omega, by go_num, rfl, (by rw [dblN_snoc, hr.out] : _ = _)⟩
          case measure => simp [intOf]; omega
        · obtain rfl : j = 8 := by omega
          go_wp2
          go_round
          case rel => exact ⟨k + 1, by omega, by go_num, by rw [take_snoc s k hlt, crc_snoc, hr.out]; rfl⟩
          case measure => simp [intOf]; omega
    · go_wp2
      go_ret
      exact ⟨ret_int (by rw [List.take_of_length_le (by simp; omega)]), rfl⟩

theorem start16 (s : ByteArray) (k : Nat) (hlt : k < s.size) :
    bits .xor .i64 (crc 16 32773 (s.data.toList.take k) : Nat) ((s[k].toNat : Int) * 256) = (dblN 16 32773 0 (crc 16 32773 (s.data.toList.take k) ^^^ s[k].toNat * 2 ^ 8) : Nat) := by
  have h1 := crc_lt 16 32773 (by omega) (by omega) (s.data.toList.take k)
  have h2 := s[k].toNat_lt
  have e : ((s[k].toNat : Int) * 256) = ((s[k].toNat * 2 ^ 8 : Nat) : Int) := by omega
  rw [e, bits_xor_nat _ _ (by omega) (by omega)]
  rfl

theorem bound16 (s : ByteArray) (k j : Nat) (hlt : k < s.size) : dblN 16 32773 j (crc 16 32773 (s.data.toList.take k) ^^^ s[k].toNat * 2 ^ 8) < 65536 := by
  have h1 := crc_lt 16 32773 (by omega) (by omega) (s.data.toList.take k)
  have h2 := s[k].toNat_lt
  exact dblN_lt 16 32773 (by omega) j _ (Nat.xor_lt_two_pow h1 (by omega))

set_option maxHeartbeats 400000 in
theorem sum16 (s : ByteArray) (w : World) (hs : s.size ≤ maxLen) :
    Calls Try.prog 38 #[.string s, .int .i64 16, .int .i64 32773] w fun e w' => e = .returned (.int .i64 (crc 16 32773 s.data.toList : Nat)) ∧ w' = w := by
  unfold maxLen at hs
  go_enter Try.func38, Try.ntmps38
  go_wp2
  go_loop [7, 11] (fun n i => ∃ k : Nat, k ≤ s.size ∧ i = .int .i64 k ∧ n = .int .i64 (crc 16 32773 (s.data.toList.take k) : Nat)) (fun _ i => s.size - (intOf i).toNat)
  case atStart => exact ⟨0, Nat.zero_le _, rfl, rfl⟩
  case round =>
    obtain ⟨k, hk, rfl, rfl⟩ := hrel
    by_cases hlt : k < s.size
    · have hbyte : s[k].toNat < 256 := s[k].toNat_lt
      go_wp2
      go_loop [7, 23] (fun n i => ∃ j r : Nat, j ≤ 8 ∧ i = .int .i64 j ∧ n = .int .i64 (r : Nat) ∧ Hid (r = dblN 16 32773 j (crc 16 32773 (s.data.toList.take k) ^^^ s[k].toNat * 2 ^ 8))) (fun _ i => 8 - (intOf i).toNat)
      case atStart => exact ⟨0, _, by omega, rfl, congrArg (Value.int IntKind.i64) (start16 s k hlt), (rfl : _ = _)⟩
      case round =>
        obtain ⟨j, r, hj, rfl, rfl, hr⟩ := hrel
        have hbd : r < 65536 := by rw [hr.out]; exact bound16 s k j hlt
        by_cases hj8 : j < 8
        · go_wp2_with (go_at_call 60; refine (double16 _ _ hbd).mono ?_; rintro e w' ⟨rfl, rfl⟩)
          go_round
          case rel => exact ⟨j + 1, _, by omega, by go_num, rfl, (by rw [dblN_snoc, hr.out] : _ = _)⟩
          case measure => simp [intOf]; omega
        · obtain rfl : j = 8 := by omega
          go_wp2
          go_round
          case rel => exact ⟨k + 1, by omega, by go_num, by rw [take_snoc s k hlt, crc_snoc, hr.out]; rfl⟩
          case measure => simp [intOf]; omega
    · go_wp2
      go_ret
      exact ⟨ret_int (by rw [List.take_of_length_le (by simp; omega)]), rfl⟩

end Go.Proofs.Ytncmgnmcggkhnaa
