/-
  Plain mathematics of check sums, more: a sum behind its own bytes; a byte that is turned.
-/
import Derived.Test.YtncmgnmcggkhnaaCrcMath
namespace Go.Proofs.Ytncmgnmcggkhnaa
open Go.RowKit

theorem split_xor (b m : Nat) : b = (b / 2 ^ m * 2 ^ m) ^^^ (b % 2 ^ m) := by
  have hlow : b % 2 ^ m < 2 ^ m := Nat.mod_lt _ (Nat.two_pow_pos m)
  have h := Nat.two_pow_add_eq_or_of_lt hlow (b / 2 ^ m)
  have hd := Nat.div_add_mod b (2 ^ m)
  rw [hd] at h
  apply Nat.eq_of_testBit_eq
  intro i
  rw [Nat.testBit_xor]
  have hb' : b.testBit i = (2 ^ m * (b / 2 ^ m) ||| b % 2 ^ m).testBit i := by rw [← h]
  rw [hb', Nat.testBit_or, Nat.mul_comm]
  by_cases hi : i < m
  · rw [show b / 2 ^ m * 2 ^ m = 2 ^ m * (b / 2 ^ m) from Nat.mul_comm _ _, Nat.testBit_two_pow_mul]
    simp [show ¬ m ≤ i by omega]
  · have : (b % 2 ^ m).testBit i = false := Nat.testBit_lt_two_pow (Nat.lt_of_lt_of_le hlow (Nat.pow_le_pow_right (by omega) (by omega)))
    simp [this]

theorem xor_eq_zero_iff' {a b : Nat} (h : a ^^^ b = 0) : a = b := by
  have := congrArg (a ^^^ ·) h
  simpa [← Nat.xor_assoc] using this.symm

theorem xor_left_cancel' {r a b : Nat} (h : r ^^^ a = r ^^^ b) : a = b := by
  have := congrArg (r ^^^ ·) h
  simpa [← Nat.xor_assoc] using this

theorem dbl_zero (w g a : Nat) (hw : 1 ≤ w) (hg : g % 2 = 1) (ha : a < 2 ^ w) (h : dbl w g a = 0) : a = 0 := by
  have e : 2 ^ w = 2 * 2 ^ (w - 1) := by rw [← Nat.pow_succ']; congr 1; omega
  have hp := Nat.two_pow_pos (w - 1)
  unfold dbl at h
  rcases div_two_pow_01 w a hw ha with h1 | h1
  · rw [h1] at h
    have h0 : a < 2 ^ (w - 1) := by
      rcases Nat.lt_or_ge a (2 ^ (w - 1)) with h2 | h2
      · exact h2
      · have := (Nat.le_div_iff_mul_le hp).2 (show 1 * 2 ^ (w - 1) ≤ a by omega)
        omega
    simp at h
    rw [Nat.mod_eq_of_lt (by omega)] at h
    omega
  · rw [h1, if_pos rfl] at h
    have h2 := xor_eq_zero_iff' h
    have h3 : a * 2 % 2 ^ w % 2 = 0 := by
      rw [e, Nat.mod_mul_right_mod]
      omega
    omega

theorem dbl_inj (w g a b : Nat) (hw : 1 ≤ w) (hg : g % 2 = 1) (ha : a < 2 ^ w) (hb : b < 2 ^ w) (h : dbl w g a = dbl w g b) : a = b := by
  apply xor_eq_zero_iff'
  apply dbl_zero w g _ hw hg (Nat.xor_lt_two_pow ha hb)
  rw [dbl_xor w g a b hw ha hb, h, Nat.xor_self]

theorem dblN_inj (w g : Nat) (hw : 1 ≤ w) (hg : g % 2 = 1) (hgl : g < 2 ^ w) : ∀ n a b, a < 2 ^ w → b < 2 ^ w → dblN w g n a = dblN w g n b → a = b
  | 0, _, _, _, _, h => h
  | n + 1, a, b, ha, hb, h => dbl_inj w g a b hw hg ha hb (dblN_inj w g hw hg hgl n _ _ (dbl_lt w g a hgl) (dbl_lt w g b hgl) h)

theorem byte_lt (w b : Nat) (hw : 8 ≤ w) (hb : b < 256) : b * 2 ^ (w - 8) < 2 ^ w := by
  have e : 2 ^ w = 256 * 2 ^ (w - 8) := by
    rw [show (256 : Nat) = 2 ^ 8 from rfl, ← Nat.pow_add]; congr 1; omega
  rw [e]
  exact Nat.mul_lt_mul_of_pos_right hb (Nat.two_pow_pos _)

theorem byteStep_inj (w g r r' b b' : Nat) (hw : 8 ≤ w) (hg : g % 2 = 1) (hgl : g < 2 ^ w) (hr : r < 2 ^ w) (hr' : r' < 2 ^ w) (hb : b < 256) (hb' : b' < 256)
    (h : byteStep w g r b = byteStep w g r' b') : r ^^^ b * 2 ^ (w - 8) = r' ^^^ b' * 2 ^ (w - 8) :=
  dblN_inj w g (by omega) hg hgl 8 _ _ (Nat.xor_lt_two_pow hr (byte_lt w b hw hb)) (Nat.xor_lt_two_pow hr' (byte_lt w b' hw hb')) h

theorem xor_right_cancel' {a b r : Nat} (h : a ^^^ r = b ^^^ r) : a = b := by
  rw [Nat.xor_comm a r, Nat.xor_comm b r] at h
  exact xor_left_cancel' h

theorem crcFrom_inj (w g : Nat) (hw : 8 ≤ w) (hg : g % 2 = 1) (hgl : g < 2 ^ w) : ∀ (l : List UInt8) (r r' : Nat), r < 2 ^ w → r' < 2 ^ w → crcFrom w g r l = crcFrom w g r' l → r = r'
  | [], _, _, _, _, h => h
  | b :: l, r, r', hr, hr', h =>
    xor_right_cancel' (byteStep_inj w g r r' _ _ hw hg hgl hr hr' b.toNat_lt b.toNat_lt
      (crcFrom_inj w g hw hg hgl l _ _ (byteStep_lt w g r _ hw hgl hr b.toNat_lt) (byteStep_lt w g r' _ hw hgl hr' b.toNat_lt) h))

theorem crcFrom_append (w g r : Nat) (l m : List UInt8) : crcFrom w g r (l ++ m) = crcFrom w g (crcFrom w g r l) m := by
  unfold crcFrom; simp

/-- a byte that is turned is seen -/
theorem crc_turned (w g : Nat) (hw : 8 ≤ w) (hg : g % 2 = 1) (hgl : g < 2 ^ w) (l : List UInt8) (k : Nat) (hk : k < l.length) (x : UInt8) (hx : x ≠ l[k]) :
    crc w g (l.set k x) ≠ crc w g l := by
  intro h
  apply hx
  have e1 : l.set k x = l.take k ++ x :: l.drop (k + 1) := List.set_eq_take_append_cons_drop.trans (if_pos hk)
  have e2 : l = l.take k ++ l[k] :: l.drop (k + 1) := by simp
  rw [e1] at h
  conv at h => rhs; rw [e2]
  unfold crc at h
  rw [crcFrom_append, crcFrom_append] at h
  have hlt := crcFrom_lt w g hw hgl (l.take k) 0 (Nat.two_pow_pos _)
  have h2 := crcFrom_inj w g hw hg hgl (l.drop (k + 1)) _ _ (byteStep_lt w g _ x.toNat hw hgl hlt x.toNat_lt) (byteStep_lt w g _ (l[k]).toNat hw hgl hlt (l[k]).toNat_lt) h
  have h3 := xor_left_cancel' (byteStep_inj w g _ _ _ _ hw hg hgl hlt hlt x.toNat_lt (l[k]).toNat_lt h2)
  have h4 := Nat.eq_of_mul_eq_mul_right (Nat.two_pow_pos _) h3
  exact UInt8.toNat_inj.1 h4

theorem self8 (l : List UInt8) (b : UInt8) (h : b.toNat = crc 8 7 l) : crc 8 7 (l ++ [b]) = 0 := by
  rw [crc_snoc, ← h]
  unfold byteStep
  rw [Nat.sub_self, Nat.pow_zero, Nat.mul_one, Nat.xor_self]
  decide +kernel

theorem low16 : ∀ x : Fin 256, dblN 16 32773 8 x.val = x.val * 256 := by decide +kernel

theorem self16 (l : List UInt8) (b c : UInt8) (hb : b.toNat = crc 16 32773 l / 256) (hc : c.toNat = crc 16 32773 l % 256) : crc 16 32773 (l ++ [b, c]) = 0 := by
  rw [show l ++ [b, c] = (l ++ [b]) ++ [c] by simp, crc_snoc, crc_snoc]
  have e := split_xor (crc 16 32773 l) 8
  have hx : crc 16 32773 l ^^^ b.toNat * 2 ^ 8 = c.toNat := by
    rw [hb, hc]
    conv => lhs; lhs; rw [e]
    rw [Nat.xor_comm, ← Nat.xor_assoc]
    show crc 16 32773 l / 256 * 256 ^^^ crc 16 32773 l / 256 * 256 ^^^ _ = _
    rw [Nat.xor_self, Nat.zero_xor]
  have h1 : byteStep 16 32773 (crc 16 32773 l) b.toNat = c.toNat * 256 := by
    unfold byteStep
    show dblN 16 32773 8 (crc 16 32773 l ^^^ b.toNat * 2 ^ 8) = _
    rw [hx]
    exact low16 ⟨c.toNat, c.toNat_lt⟩
  rw [h1]
  unfold byteStep
  show dblN 16 32773 8 (c.toNat * 256 ^^^ c.toNat * 256) = 0
  rw [Nat.xor_self]
  decide +kernel

end Go.Proofs.Ytncmgnmcggkhnaa
