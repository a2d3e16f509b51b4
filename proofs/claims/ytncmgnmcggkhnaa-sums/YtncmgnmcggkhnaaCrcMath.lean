/-
  Plain mathematics of check sums: nothing of the program is named here.
-/
import Derived.WalkKit
namespace Go.Proofs.Ytncmgnmcggkhnaa
open Go.RowKit

/-- `bits` on numbers that are not below 0, as natural numbers. -/
theorem bits_xor_nat (a b : Nat) (ha : a < 9223372036854775808) (hb : b < 9223372036854775808) :
    bits .xor .i64 (a : Int) (b : Int) = ((a ^^^ b : Nat) : Int) := by
  have hx : a ^^^ b < 2 ^ 63 := Nat.xor_lt_two_pow (by omega) (by omega)
  have e : (BitVec.ofInt 64 (a : Int) ^^^ BitVec.ofInt 64 (b : Int)).toNat = a ^^^ b := by
    rw [BitVec.toNat_xor, BitVec.toNat_ofInt, BitVec.toNat_ofInt]
    congr 1 <;> omega
  show IntKind.wrap .i64 ((BitVec.ofInt 64 (a : Int) ^^^ BitVec.ofInt 64 (b : Int)).toNat : Int) = _
  rw [e, IntKind.wrap_i64]
  omega

theorem bits_and_nat (a b : Nat) (ha : a < 9223372036854775808) (hb : b < 9223372036854775808) :
    bits .and .i64 (a : Int) (b : Int) = ((a &&& b : Nat) : Int) := by
  have hx : a &&& b ≤ a := Nat.and_le_left
  have e : (BitVec.ofInt 64 (a : Int) &&& BitVec.ofInt 64 (b : Int)).toNat = a &&& b := by
    rw [BitVec.toNat_and, BitVec.toNat_ofInt, BitVec.toNat_ofInt]
    congr 1 <;> omega
  show IntKind.wrap .i64 ((BitVec.ofInt 64 (a : Int) &&& BitVec.ofInt 64 (b : Int)).toNat : Int) = _
  rw [e, IntKind.wrap_i64]
  omega

theorem bits_and_mask (a n : Nat) (ha : a < 9223372036854775808) (hn : n ≤ 62) (m : Int) (hm : m = ((2 ^ n - 1 : Nat) : Int)) :
    bits .and .i64 (a : Int) m = ((a % 2 ^ n : Nat) : Int) := by
  have h2 : 2 ^ n ≤ 2 ^ 62 := Nat.pow_le_pow_right (by omega) hn
  rw [hm, bits_and_nat _ _ ha (by omega), Nat.and_two_pow_sub_one_eq_mod]

/-- one doubling of a sum of `w` bits -/
def dbl (w g r : Nat) : Nat := (r * 2 % 2 ^ w) ^^^ (if r / 2 ^ (w - 1) = 1 then g else 0)

def dblN (w g : Nat) : Nat → Nat → Nat
  | 0, r => r
  | n + 1, r => dblN w g n (dbl w g r)

/-- one byte -/
def byteStep (w g r b : Nat) : Nat := dblN w g 8 (r ^^^ b * 2 ^ (w - 8))

def crcFrom (w g : Nat) (r : Nat) (l : List UInt8) : Nat := l.foldl (fun r b => byteStep w g r b.toNat) r

def crc (w g : Nat) (l : List UInt8) : Nat := crcFrom w g 0 l

theorem dbl_lt (w g r : Nat) (hg : g < 2 ^ w) : dbl w g r < 2 ^ w := by
  unfold dbl
  refine Nat.xor_lt_two_pow (Nat.mod_lt _ (Nat.two_pow_pos _)) ?_
  split
  · exact hg
  · exact Nat.two_pow_pos _

theorem dblN_lt (w g : Nat) (hg : g < 2 ^ w) : ∀ n r, r < 2 ^ w → dblN w g n r < 2 ^ w
  | 0, _, h => h
  | n + 1, r, _ => dblN_lt w g hg n _ (dbl_lt w g r hg)

theorem dblN_snoc (w g : Nat) : ∀ n r, dblN w g (n + 1) r = dbl w g (dblN w g n r)
  | 0, _ => rfl
  | n + 1, r => dblN_snoc w g n (dbl w g r)

theorem byteStep_lt (w g r b : Nat) (hw : 8 ≤ w) (hg : g < 2 ^ w) (hr : r < 2 ^ w) (hb : b < 256) : byteStep w g r b < 2 ^ w := by
  unfold byteStep
  refine dblN_lt w g hg _ _ (Nat.xor_lt_two_pow hr ?_)
  have e : 2 ^ w = 256 * 2 ^ (w - 8) := by
    rw [show (256 : Nat) = 2 ^ 8 from rfl, ← Nat.pow_add]; congr 1; omega
  rw [e]
  exact Nat.mul_lt_mul_of_pos_right hb (Nat.two_pow_pos _)

theorem crcFrom_lt (w g : Nat) (hw : 8 ≤ w) (hg : g < 2 ^ w) : ∀ (l : List UInt8) r, r < 2 ^ w → crcFrom w g r l < 2 ^ w
  | [], _, h => h
  | b :: l, r, h => crcFrom_lt w g hw hg l _ (byteStep_lt w g r b.toNat hw hg h b.toNat_lt)

theorem crc_lt (w g : Nat) (hw : 8 ≤ w) (hg : g < 2 ^ w) (l : List UInt8) : crc w g l < 2 ^ w :=
  crcFrom_lt w g hw hg l 0 (Nat.two_pow_pos _)

theorem crcFrom_snoc (w g r : Nat) (l : List UInt8) (b : UInt8) : crcFrom w g r (l ++ [b]) = byteStep w g (crcFrom w g r l) b.toNat := by
  unfold crcFrom; simp

theorem crc_snoc (w g : Nat) (l : List UInt8) (b : UInt8) : crc w g (l ++ [b]) = byteStep w g (crc w g l) b.toNat :=
  crcFrom_snoc w g 0 l b

theorem lt_two_01 {n : Nat} (h : n < 2) : n = 0 ∨ n = 1 := by omega

theorem div_two_pow_01 (w r : Nat) (hw : 1 ≤ w) (hr : r < 2 ^ w) : r / 2 ^ (w - 1) = 0 ∨ r / 2 ^ (w - 1) = 1 := by
  have e : 2 ^ w = 2 ^ (w - 1) * 2 := by rw [← Nat.pow_succ]; congr 1; omega
  have : r / 2 ^ (w - 1) < 2 := by
    rw [Nat.div_lt_iff_lt_mul (Nat.two_pow_pos _), Nat.mul_comm, ← e]; exact hr
  exact lt_two_01 this

theorem xor_div_two_pow (a b n : Nat) : (a ^^^ b) / 2 ^ n = a / 2 ^ n ^^^ b / 2 ^ n := by
  rw [← Nat.shiftRight_eq_div_pow, ← Nat.shiftRight_eq_div_pow, ← Nat.shiftRight_eq_div_pow, Nat.shiftRight_xor_distrib]

theorem xor_mul_two_pow (a b n : Nat) : (a ^^^ b) * 2 ^ n = a * 2 ^ n ^^^ b * 2 ^ n := by
  rw [← Nat.shiftLeft_eq, ← Nat.shiftLeft_eq, ← Nat.shiftLeft_eq, Nat.shiftLeft_xor_distrib]

theorem xor4 (a b c d : Nat) : (a ^^^ b) ^^^ (c ^^^ d) = (a ^^^ c) ^^^ (b ^^^ d) := by
  rw [Nat.xor_assoc, Nat.xor_assoc, ← Nat.xor_assoc b c d, Nat.xor_comm b c, Nat.xor_assoc c b d]

/-- doubling is linear -/
theorem dbl_xor (w g a b : Nat) (hw : 1 ≤ w) (ha : a < 2 ^ w) (hb : b < 2 ^ w) : dbl w g (a ^^^ b) = dbl w g a ^^^ dbl w g b := by
  unfold dbl
  have e1 : (a ^^^ b) * 2 % 2 ^ w = (a * 2 % 2 ^ w) ^^^ (b * 2 % 2 ^ w) := by
    have := xor_mul_two_pow a b 1
    rw [Nat.pow_one] at this
    rw [this, Nat.xor_mod_two_pow]
  rw [e1, xor4, xor_div_two_pow]
  congr 1
  rcases div_two_pow_01 w a hw ha with h | h <;> rcases div_two_pow_01 w b hw hb with h' | h' <;> simp [h, h']

theorem dblN_xor (w g : Nat) (hw : 1 ≤ w) (hg : g < 2 ^ w) : ∀ n a b, a < 2 ^ w → b < 2 ^ w → dblN w g n (a ^^^ b) = dblN w g n a ^^^ dblN w g n b
  | 0, _, _, _, _ => rfl
  | n + 1, a, b, ha, hb => by
    show dblN w g n (dbl w g (a ^^^ b)) = _
    rw [dbl_xor w g a b hw ha hb]
    exact dblN_xor w g hw hg n _ _ (dbl_lt w g a hg) (dbl_lt w g b hg)

/-- doubling what has no highest bit -/
theorem dbl_low (w g a : Nat) (hw : 1 ≤ w) (ha : a < 2 ^ (w - 1)) : dbl w g a = a * 2 := by
  unfold dbl
  have e : 2 ^ w = 2 ^ (w - 1) * 2 := by rw [← Nat.pow_succ]; congr 1; omega
  rw [Nat.div_eq_of_lt ha, Nat.mod_eq_of_lt (by omega)]
  simp

/-- one bit, as the document has it -/
def bitStep (w g r bit : Nat) : Nat := if r / 2 ^ (w - 1) % 2 ≠ bit then (r * 2 % 2 ^ w) ^^^ g else r * 2 % 2 ^ w

theorem bitStep_lt (w g r bit : Nat) (hg : g < 2 ^ w) : bitStep w g r bit < 2 ^ w := by
  unfold bitStep
  split
  · exact Nat.xor_lt_two_pow (Nat.mod_lt _ (Nat.two_pow_pos _)) hg
  · exact Nat.mod_lt _ (Nat.two_pow_pos _)

theorem bitStep_dbl (w g r bit : Nat) (hw : 1 ≤ w) (hr : r < 2 ^ w) (hbit : bit < 2) : bitStep w g r bit = dbl w g (r ^^^ bit * 2 ^ (w - 1)) := by
  have e : 2 ^ w = 2 ^ (w - 1) * 2 := by rw [← Nat.pow_succ]; congr 1; omega
  have hpos := Nat.two_pow_pos (w - 1)
  have hb : bit * 2 ^ (w - 1) < 2 ^ w := by
    rcases (show bit = 0 ∨ bit = 1 by omega) with rfl | rfl <;> omega
  unfold bitStep dbl
  have e1 : (r ^^^ bit * 2 ^ (w - 1)) * 2 % 2 ^ w = r * 2 % 2 ^ w := by
    have := xor_mul_two_pow r (bit * 2 ^ (w - 1)) 1
    rw [Nat.pow_one] at this
    rw [this, Nat.xor_mod_two_pow, show bit * 2 ^ (w - 1) * 2 = bit * 2 ^ w by rw [Nat.mul_assoc, ← e], Nat.mul_mod_left]
    simp
  rw [e1, xor_div_two_pow, Nat.mul_div_cancel _ hpos]
  rcases div_two_pow_01 w r hw hr with h | h <;> rcases (show bit = 0 ∨ bit = 1 by omega) with rfl | rfl <;> simp [h]

/-- `m` bits that are still to come, at once or one behind the other -/
theorem rest_step (w g r b m : Nat) (hm : m + 1 ≤ w) (hr : r < 2 ^ w) (hb : b < 2 ^ (m + 1)) :
    dblN w g (m + 1) (r ^^^ b * 2 ^ (w - (m + 1))) = dblN w g m (bitStep w g r (b / 2 ^ m) ^^^ (b % 2 ^ m) * 2 ^ (w - m)) := by
  have hp := Nat.two_pow_pos m
  have hbit : b / 2 ^ m < 2 := by
    rw [Nat.div_lt_iff_lt_mul hp, Nat.mul_comm, ← Nat.pow_succ]; exact hb
  have hlow : b % 2 ^ m < 2 ^ m := Nat.mod_lt _ hp
  have e1 : b = (b / 2 ^ m * 2 ^ m) ^^^ (b % 2 ^ m) := by
    have h := Nat.two_pow_add_eq_or_of_lt hlow (b / 2 ^ m)
    have hd := Nat.div_add_mod b (2 ^ m)
    rw [hd] at h
    apply Nat.eq_of_testBit_eq
    intro i
    rw [Nat.testBit_xor]
    have hb' : b.testBit i = (2 ^ m * (b / 2 ^ m) ||| b % 2 ^ m).testBit i := by rw [← h]
    rw [hb', Nat.testBit_or, Nat.mul_comm]
    by_cases hi : i < m
    · rw [show b / 2 ^ m * 2 ^ m = 2 ^ m * (b / 2 ^ m) from Nat.mul_comm _ _, Nat.testBit_two_pow_mul]
      simp [show ¬ m ≤ i by omega]
    · have : (b % 2 ^ m).testBit i = false := Nat.testBit_lt_two_pow (Nat.lt_of_lt_of_le hlow (Nat.pow_le_pow_right (by omega) (by omega)))
      simp [this]
  have e2 : 2 ^ m * 2 ^ (w - (m + 1)) = 2 ^ (w - 1) := by rw [← Nat.pow_add]; congr 1; omega
  have e3 : b * 2 ^ (w - (m + 1)) = b / 2 ^ m * 2 ^ (w - 1) ^^^ (b % 2 ^ m) * 2 ^ (w - (m + 1)) := by
    conv => lhs; rw [e1]
    rw [xor_mul_two_pow, Nat.mul_assoc, e2]
  have hlow2 : (b % 2 ^ m) * 2 ^ (w - (m + 1)) < 2 ^ (w - 1) := by
    rw [← e2]; exact Nat.mul_lt_mul_of_pos_right hlow (Nat.two_pow_pos _)
  have hw1 : 2 ^ (w - 1) ≤ 2 ^ w := Nat.pow_le_pow_right (by omega) (by omega)
  have e : 2 ^ w = 2 ^ (w - 1) * 2 := by rw [← Nat.pow_succ]; congr 1; omega
  have hbb : b / 2 ^ m * 2 ^ (w - 1) < 2 ^ w := by
    have hpos := Nat.two_pow_pos (w - 1)
    rcases lt_two_01 hbit with h | h <;> rw [h] <;> omega
  show dblN w g m (dbl w g (r ^^^ b * 2 ^ (w - (m + 1)))) = _
  rw [e3, ← Nat.xor_assoc, dbl_xor w g _ _ (by omega) (Nat.xor_lt_two_pow hr hbb) (by omega), ← bitStep_dbl w g r _ (by omega) hr hbit,
    dbl_low w g _ (by omega) hlow2, Nat.mul_assoc, ← Nat.pow_succ]
  congr 4
  omega

end Go.Proofs.Ytncmgnmcggkhnaa
