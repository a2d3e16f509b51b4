import Derived.Test.YtodbbdknkffceaaDecProofJ0
import Derived.Test.YtodbbdknkffceaaRows
import Derived.WalkKit
import Derived.WalkSpells
import Derived.WalkLawsBesides
namespace Go.Proofs.Ytodbbdknkffceaa
open Go.RowKit

theorem ret_int {k : IntKind} {a b : Int} (h : a = b) : Ending.returned (.int k a) = .returned (.int k b) := by rw [h]

theorem take_snoc (s : ByteArray) (k : Nat) (h : k < s.size) : s.data.toList.take (k + 1) = s.data.toList.take k ++ [s[k]] := by
  rw [List.take_succ_eq_append_getElem (by simpa using h)]; rfl

theorem dbl8_yes (r : Nat) (h1 : r < 256) (h : ((r : Int) / 128 == 1) = true) :
    bits .xor .i64 (bits .and .i64 ((r : Int) * 2) 255) 7 = (dbl 8 7 r : Nat) := by
  have h' : r / 128 = 1 := by simp at h; omega
  rw [show ((r : Int) * 2) = ((r * 2 : Nat) : Int) by omega, bits_and_mask (r * 2) 8 (by omega) (by omega) 255 rfl,
    show (7 : Int) = ((7 : Nat) : Int) from rfl, bits_xor_nat _ _ (by omega) (by omega)]
  unfold dbl
  simp [h']

theorem dbl8_no (r : Nat) (h1 : r < 256) (h : ((r : Int) / 128 == 1) = false) :
    bits .and .i64 ((r : Int) * 2) 255 = (dbl 8 7 r : Nat) := by
  have h' : ¬ r / 128 = 1 := by simp at h; omega
  rw [show ((r : Int) * 2) = ((r * 2 : Nat) : Int) by omega, bits_and_mask (r * 2) 8 (by omega) (by omega) 255 rfl]
  unfold dbl
  simp [h']

theorem dbl16_yes (r : Nat) (h1 : r < 65536) (h : ((r : Int) / 32768 == 1) = true) :
    bits .xor .i64 (bits .and .i64 ((r : Int) * 2) 65535) 32773 = (dbl 16 32773 r : Nat) := by
  have h' : r / 32768 = 1 := by simp at h; omega
  rw [show ((r : Int) * 2) = ((r * 2 : Nat) : Int) by omega, bits_and_mask (r * 2) 16 (by omega) (by omega) 65535 rfl,
    show (32773 : Int) = ((32773 : Nat) : Int) from rfl, bits_xor_nat _ _ (by omega) (by omega)]
  unfold dbl
  simp [h']

theorem dbl16_no (r : Nat) (h1 : r < 65536) (h : ((r : Int) / 32768 == 1) = false) :
    bits .and .i64 ((r : Int) * 2) 65535 = (dbl 16 32773 r : Nat) := by
  have h' : ¬ r / 32768 = 1 := by simp at h; omega
  rw [show ((r : Int) * 2) = ((r * 2 : Nat) : Int) by omega, bits_and_mask (r * 2) 16 (by omega) (by omega) 65535 rfl]
  unfold dbl
  simp [h']

set_option maxHeartbeats 400000 in
theorem double8 (r : Nat) (w : World) (h1 : r < 256) :
    Calls Try.prog 44 #[.int .i64 r, .int .i64 8, .int .i64 7] w fun e w' => e = .returned (.int .i64 (dbl 8 7 r : Nat)) ∧ w' = w := by
  go_enter Try.func44, Try.ntmps44
  go_wp2
  · go_ret
    exact ⟨ret_int (dbl8_yes r h1 (by assumption)), rfl⟩
  · go_ret
    exact ⟨ret_int (dbl8_no r h1 (by assumption)), rfl⟩

set_option maxHeartbeats 400000 in
theorem double16 (r : Nat) (w : World) (h1 : r < 65536) :
    Calls Try.prog 44 #[.int .i64 r, .int .i64 16, .int .i64 32773] w fun e w' => e = .returned (.int .i64 (dbl 16 32773 r : Nat)) ∧ w' = w := by
  go_enter Try.func44, Try.ntmps44
  go_wp2
  · go_ret
    exact ⟨ret_int (dbl16_yes r h1 (by assumption)), rfl⟩
  · go_ret
    exact ⟨ret_int (dbl16_no r h1 (by assumption)), rfl⟩


theorem start8 (s : ByteArray) (k : Nat) (hlt : k < s.size) :
    bits .xor .i64 (crc 8 7 (s.data.toList.take k) : Nat) ((s[k].toNat : Int)) = (dblN 8 7 0 (crc 8 7 (s.data.toList.take k) ^^^ s[k].toNat * 2 ^ 0) : Nat) := by
  have h1 := crc_lt 8 7 (by omega) (by omega) (s.data.toList.take k)
  have h2 := s[k].toNat_lt
  have e : ((s[k].toNat : Int)) = ((s[k].toNat * 2 ^ 0 : Nat) : Int) := by omega
  rw [e, bits_xor_nat _ _ (by omega) (by omega)]
  rfl

theorem bound8 (s : ByteArray) (k j : Nat) (hlt : k < s.size) : dblN 8 7 j (crc 8 7 (s.data.toList.take k) ^^^ s[k].toNat * 2 ^ 0) < 256 := by
  have h1 := crc_lt 8 7 (by omega) (by omega) (s.data.toList.take k)
  have h2 := s[k].toNat_lt
  exact dblN_lt 8 7 (by omega) j _ (Nat.xor_lt_two_pow h1 (by omega))

set_option maxHeartbeats 400000 in
theorem sum8 (s : ByteArray) (w : World) (hs : s.size ≤ maxLen) :
    Calls Try.prog 28 #[.string s, .int .i64 8, .int .i64 7] w fun e w' => e = .returned (.int .i64 (crc 8 7 s.data.toList : Nat)) ∧ w' = w := by
  unfold maxLen at hs
  go_enter Try.func28, Try.ntmps28
  go_wp2
  go_loop [7, 11] (fun n i => ∃ k : Nat, k ≤ s.size ∧ i = .int .i64 k ∧ n = .int .i64 (crc 8 7 (s.data.toList.take k) : Nat)) (fun _ i => s.size - (intOf i).toNat)
  case atStart => exact ⟨0, Nat.zero_le _, rfl, rfl⟩
  case round =>
    obtain ⟨k, hk, rfl, rfl⟩ := hrel
    by_cases hlt : k < s.size
    · have hbyte : s[k].toNat < 256 := s[k].toNat_lt
      go_wp2
      go_loop [7, 23] (fun n i => ∃ j r : Nat, j ≤ 8 ∧ i = .int .i64 j ∧ n = .int .i64 (r : Nat) ∧ Hid (r = dblN 8 7 j (crc 8 7 (s.data.toList.take k) ^^^ s[k].toNat * 2 ^ 0))) (fun _ i => 8 - (intOf i).toNat)
      case atStart => exact ⟨0, _, by omega, rfl, congrArg (Value.int IntKind.i64) (start8 s k hlt), (rfl : _ = _)⟩
      case round =>
        obtain ⟨j, r, hj, rfl, rfl, hr⟩ := hrel
        have hbd : r < 256 := by rw [hr.out]; exact bound8 s k j hlt
        by_cases hj8 : j < 8
        · go_wp2_with (go_at_call 44; refine (double8 _ _ hbd).mono ?_; rintro e w' ⟨rfl, rfl⟩)
          go_round
          case rel => exact ⟨j + 1, _, by omega, by go_num, rfl, (by rw [dblN_snoc, hr.out] : _ = _)⟩
          case measure => simp [intOf]; omega
        · obtain rfl : j = 8 := by omega
          go_wp2
          go_round
          case rel => exact ⟨k + 1, by omega, by go_num, by rw [take_snoc s k hlt, crc_snoc, hr.out]; rfl⟩
          case measure => simp [intOf]; omega
    · go_wp2
      go_ret
      exact ⟨ret_int (by rw [List.take_of_length_le (by simp; omega)]), rfl⟩

theorem start16 (s : ByteArray) (k : Nat) (hlt : k < s.size) :
    bits .xor .i64 (crc 16 32773 (s.data.toList.take k) : Nat) ((s[k].toNat : Int) * 256) = (dblN 16 32773 0 (crc 16 32773 (s.data.toList.take k) ^^^ s[k].toNat * 2 ^ 8) : Nat) := by
  have h1 := crc_lt 16 32773 (by omega) (by omega) (s.data.toList.take k)
  have h2 := s[k].toNat_lt
  have e : ((s[k].toNat : Int) * 256) = ((s[k].toNat * 2 ^ 8 : Nat) : Int) := by omega
  rw [e, bits_xor_nat _ _ (by omega) (by omega)]
  rfl

theorem bound16 (s : ByteArray) (k j : Nat) (hlt : k < s.size) : dblN 16 32773 j (crc 16 32773 (s.data.toList.take k) ^^^ s[k].toNat * 2 ^ 8) < 65536 := by
  have h1 := crc_lt 16 32773 (by omega) (by omega) (s.data.toList.take k)
  have h2 := s[k].toNat_lt
  exact dblN_lt 16 32773 (by omega) j _ (Nat.xor_lt_two_pow h1 (by omega))

set_option maxHeartbeats 400000 in
theorem sum16 (s : ByteArray) (w : World) (hs : s.size ≤ maxLen) :
    Calls Try.prog 28 #[.string s, .int .i64 16, .int .i64 32773] w fun e w' => e = .returned (.int .i64 (crc 16 32773 s.data.toList : Nat)) ∧ w' = w := by
  unfold maxLen at hs
  go_enter Try.func28, Try.ntmps28
  go_wp2
  go_loop [7, 11] (fun n i => ∃ k : Nat, k ≤ s.size ∧ i = .int .i64 k ∧ n = .int .i64 (crc 16 32773 (s.data.toList.take k) : Nat)) (fun _ i => s.size - (intOf i).toNat)
  case atStart => exact ⟨0, Nat.zero_le _, rfl, rfl⟩
  case round =>
    obtain ⟨k, hk, rfl, rfl⟩ := hrel
    by_cases hlt : k < s.size
    · have hbyte : s[k].toNat < 256 := s[k].toNat_lt
      go_wp2
      go_loop [7, 23] (fun n i => ∃ j r : Nat, j ≤ 8 ∧ i = .int .i64 j ∧ n = .int .i64 (r : Nat) ∧ Hid (r = dblN 16 32773 j (crc 16 32773 (s.data.toList.take k) ^^^ s[k].toNat * 2 ^ 8))) (fun _ i => 8 - (intOf i).toNat)
      case atStart => exact ⟨0, _, by omega, rfl, congrArg (Value.int IntKind.i64) (start16 s k hlt), (rfl : _ = _)⟩
      case round =>
        obtain ⟨j, r, hj, rfl, rfl, hr⟩ := hrel
        have hbd : r < 65536 := by rw [hr.out]; exact bound16 s k j hlt
        by_cases hj8 : j < 8
        · go_wp2_with (go_at_call 44; refine (double16 _ _ hbd).mono ?_; rintro e w' ⟨rfl, rfl⟩)
          go_round
          case rel => exact ⟨j + 1, _, by omega, by go_num, rfl, (by rw [dblN_snoc, hr.out] : _ = _)⟩
          case measure => simp [intOf]; omega
        · obtain rfl : j = 8 := by omega
          go_wp2
          go_round
          case rel => exact ⟨k + 1, by omega, by go_num, by rw [take_snoc s k hlt, crc_snoc, hr.out]; rfl⟩
          case measure => simp [intOf]; omega
    · go_wp2
      go_ret
      exact ⟨ret_int (by rw [List.take_of_length_le (by simp; omega)]), rfl⟩

end Go.Proofs.Ytodbbdknkffceaa

namespace Go.Proofs.Ytodbbdknkffceaa
open Go.RowKit

theorem ne_cast (a b : Nat) : ((a : Int) != (b : Int)) = decide (a ≠ b) := by
  rw [Bool.eq_iff_iff, bne_iff_ne, decide_eq_true_eq]
  omega

theorem byte_start (w g r b : Nat) (hb : b < 256) : dblN w g 8 (r ^^^ (b % 2 ^ 8) * 2 ^ (w - 8)) = byteStep w g r b := by
  rw [Nat.mod_eq_of_lt (show b < 2 ^ 8 from hb)]
  rfl

theorem rest_at (w g r b m : Nat) (hm : m ≤ w) (hm0 : 0 < m) (hr : r < 2 ^ w) :
    dblN w g m (r ^^^ (b % 2 ^ m) * 2 ^ (w - m)) = dblN w g (m - 1) (bitStep w g r (b / 2 ^ (m - 1) % 2) ^^^ (b % 2 ^ (m - 1)) * 2 ^ (w - (m - 1))) := by
  obtain ⟨m', rfl⟩ : ∃ m', m = m' + 1 := ⟨m - 1, by omega⟩
  have h := rest_step w g r (b % 2 ^ (m' + 1)) m' (by omega) hr (Nat.mod_lt _ (Nat.two_pow_pos _))
  rw [Nat.mod_mod_of_dvd _ (Nat.pow_dvd_pow 2 (Nat.le_succ m')), Nat.pow_succ, Nat.mod_mul_right_div_self, ← Nat.pow_succ] at h
  exact h

theorem refTest8 (r b m : Nat) (hr : r < 256) (hb : b < 256) :
    (bits .and .i64 ((r : Int) / 128) 1 != bits .and .i64 ((b : Int) / 2 ^ (m - 1)) 1) = decide (r / 2 ^ (8 - 1) % 2 ≠ b / 2 ^ (m - 1) % 2) := by
  have hd : b / 2 ^ (m - 1) ≤ b := Nat.div_le_self _ _
  rw [show ((r : Int) / 128) = ((r / 128 : Nat) : Int) by omega, show ((b : Int) / 2 ^ (m - 1)) = ((b / 2 ^ (m - 1) : Nat) : Int) by simp,
    bits_and_mask _ 1 (by omega) (by omega) 1 rfl, bits_and_mask _ 1 (by omega) (by omega) 1 rfl, ne_cast]

theorem refYes8 (r b m : Nat) (hr : r < 256) (hb : b < 256)
    (h : (bits .and .i64 ((r : Int) / 128) 1 != bits .and .i64 ((b : Int) / 2 ^ (m - 1)) 1) = true) :
    bits .xor .i64 ((r : Int) * 2 % 256) 7 = (bitStep 8 7 r (b / 2 ^ (m - 1) % 2) : Nat) := by
  rw [refTest8 r b m hr hb, decide_eq_true_eq] at h
  rw [show ((r : Int) * 2 % 256) = ((r * 2 % 256 : Nat) : Int) by omega, show (7 : Int) = ((7 : Nat) : Int) from rfl, bits_xor_nat _ _ (by omega) (by omega)]
  unfold bitStep
  rw [if_pos h]

theorem refNo8 (r b m : Nat) (hr : r < 256) (hb : b < 256)
    (h : (bits .and .i64 ((r : Int) / 128) 1 != bits .and .i64 ((b : Int) / 2 ^ (m - 1)) 1) = false) :
    ((r : Int) * 2 % 256) = (bitStep 8 7 r (b / 2 ^ (m - 1) % 2) : Nat) := by
  rw [refTest8 r b m hr hb, decide_eq_false_iff_not] at h
  rw [show ((r : Int) * 2 % 256) = ((r * 2 % 256 : Nat) : Int) by omega]
  unfold bitStep
  rw [if_neg h]

theorem refEnd8 (s : ByteArray) (k r r0 : Nat) (hlt : k < s.size) (h0 : Hid (r0 = crc 8 7 (s.data.toList.take k)))
    (h : Hid (dblN 8 7 0 (r ^^^ (s[k].toNat % 2 ^ 0) * 2 ^ (8 - 0)) = byteStep 8 7 r0 s[k].toNat)) :
    r = crc 8 7 (s.data.toList.take (k + 1)) := by
  rw [take_snoc s k hlt, crc_snoc, ← h0.out, ← h.out]
  show _ = r ^^^ (s[k].toNat % 1) * _
  rw [Nat.mod_one, Nat.zero_mul, Nat.xor_zero]

set_option maxHeartbeats 400000 in
theorem ref8 (s : ByteArray) (w : World) (hs : s.size ≤ maxLen) :
    Calls Try.prog 29 #[.string s, .int .i64 8, .int .i64 7] w fun e w' => e = .returned (.int .i64 (crc 8 7 s.data.toList : Nat)) ∧ w' = w := by
  unfold maxLen at hs
  go_enter Try.func29, Try.ntmps29
  go_wp2
  go_loop [7, 8] (fun n i => ∃ k r : Nat, k ≤ s.size ∧ i = .int .i64 k ∧ n = .int .i64 r ∧ r < 256 ∧ Hid (r = crc 8 7 (s.data.toList.take k))) (fun _ i => s.size - (intOf i).toNat)
  case atStart => exact ⟨0, 0, Nat.zero_le _, rfl, rfl, by omega, (rfl : _ = _)⟩
  case round =>
    obtain ⟨k, r0, hk, rfl, rfl, hr0, he0⟩ := hrel
    by_cases hlt : k < s.size
    · have hbyte : s[k].toNat < 256 := s[k].toNat_lt
      go_wp2
      go_loop [7, 9] (fun n i => ∃ m r : Nat, m ≤ 8 ∧ i = .int .i64 ((m : Int) - 1) ∧ n = .int .i64 (r : Nat) ∧ r < 256 ∧ Hid (dblN 8 7 m (r ^^^ (s[k].toNat % 2 ^ m) * 2 ^ (8 - m)) = byteStep 8 7 r0 s[k].toNat)) (fun _ i => (intOf i + 1).toNat)
      case atStart => exact ⟨8, r0, by omega, rfl, rfl, hr0, (byte_start 8 7 r0 _ hbyte : _ = _)⟩
      case round =>
        obtain ⟨m, r, hm, rfl, rfl, hr, he⟩ := hrel
        by_cases hm0 : 0 < m
        · go_wp2
          all_goals
            go_round
            case rel =>
              refine ⟨m - 1, bitStep 8 7 r (s[k].toNat / 2 ^ (m - 1) % 2), by omega, by rw [Int.natCast_sub hm0]; rfl, ?_, bitStep_lt 8 7 _ _ (by omega), ((rest_at 8 7 r _ m (by omega) hm0 hr).symm.trans he.out : _ = _)⟩
              first
                | exact congrArg (Value.int IntKind.i64) (refYes8 r _ m hr hbyte ‹_›)
                | exact congrArg (Value.int IntKind.i64) (refNo8 r _ m hr hbyte ‹_›)
            case measure => simp [intOf]; omega
        · obtain rfl : m = 0 := by omega
          go_wp2
          go_round
          case rel => exact ⟨k + 1, r, by omega, by go_num, rfl, hr, (refEnd8 s k r r0 hlt he0 he : _ = _)⟩
          case measure => simp [intOf]; omega
    · go_wp2
      go_ret
      exact ⟨ret_int (by rw [he0.out, List.take_of_length_le (by simp; omega)]), rfl⟩

theorem refTest16 (r b m : Nat) (hr : r < 65536) (hb : b < 256) :
    (bits .and .i64 ((r : Int) / 32768) 1 != bits .and .i64 ((b : Int) / 2 ^ (m - 1)) 1) = decide (r / 2 ^ (16 - 1) % 2 ≠ b / 2 ^ (m - 1) % 2) := by
  have hd : b / 2 ^ (m - 1) ≤ b := Nat.div_le_self _ _
  rw [show ((r : Int) / 32768) = ((r / 32768 : Nat) : Int) by omega, show ((b : Int) / 2 ^ (m - 1)) = ((b / 2 ^ (m - 1) : Nat) : Int) by simp,
    bits_and_mask _ 1 (by omega) (by omega) 1 rfl, bits_and_mask _ 1 (by omega) (by omega) 1 rfl, ne_cast]

theorem refYes16 (r b m : Nat) (hr : r < 65536) (hb : b < 256)
    (h : (bits .and .i64 ((r : Int) / 32768) 1 != bits .and .i64 ((b : Int) / 2 ^ (m - 1)) 1) = true) :
    bits .xor .i64 ((r : Int) * 2 % 65536) 32773 = (bitStep 16 32773 r (b / 2 ^ (m - 1) % 2) : Nat) := by
  rw [refTest16 r b m hr hb, decide_eq_true_eq] at h
  rw [show ((r : Int) * 2 % 65536) = ((r * 2 % 65536 : Nat) : Int) by omega, show (32773 : Int) = ((32773 : Nat) : Int) from rfl, bits_xor_nat _ _ (by omega) (by omega)]
  unfold bitStep
  rw [if_pos h]

theorem refNo16 (r b m : Nat) (hr : r < 65536) (hb : b < 256)
    (h : (bits .and .i64 ((r : Int) / 32768) 1 != bits .and .i64 ((b : Int) / 2 ^ (m - 1)) 1) = false) :
    ((r : Int) * 2 % 65536) = (bitStep 16 32773 r (b / 2 ^ (m - 1) % 2) : Nat) := by
  rw [refTest16 r b m hr hb, decide_eq_false_iff_not] at h
  rw [show ((r : Int) * 2 % 65536) = ((r * 2 % 65536 : Nat) : Int) by omega]
  unfold bitStep
  rw [if_neg h]

theorem refEnd16 (s : ByteArray) (k r r0 : Nat) (hlt : k < s.size) (h0 : Hid (r0 = crc 16 32773 (s.data.toList.take k)))
    (h : Hid (dblN 16 32773 0 (r ^^^ (s[k].toNat % 2 ^ 0) * 2 ^ (16 - 0)) = byteStep 16 32773 r0 s[k].toNat)) :
    r = crc 16 32773 (s.data.toList.take (k + 1)) := by
  rw [take_snoc s k hlt, crc_snoc, ← h0.out, ← h.out]
  show _ = r ^^^ (s[k].toNat % 1) * _
  rw [Nat.mod_one, Nat.zero_mul, Nat.xor_zero]

set_option maxHeartbeats 400000 in
theorem ref16 (s : ByteArray) (w : World) (hs : s.size ≤ maxLen) :
    Calls Try.prog 29 #[.string s, .int .i64 16, .int .i64 32773] w fun e w' => e = .returned (.int .i64 (crc 16 32773 s.data.toList : Nat)) ∧ w' = w := by
  unfold maxLen at hs
  go_enter Try.func29, Try.ntmps29
  go_wp2
  go_loop [7, 8] (fun n i => ∃ k r : Nat, k ≤ s.size ∧ i = .int .i64 k ∧ n = .int .i64 r ∧ r < 65536 ∧ Hid (r = crc 16 32773 (s.data.toList.take k))) (fun _ i => s.size - (intOf i).toNat)
  case atStart => exact ⟨0, 0, Nat.zero_le _, rfl, rfl, by omega, (rfl : _ = _)⟩
  case round =>
    obtain ⟨k, r0, hk, rfl, rfl, hr0, he0⟩ := hrel
    by_cases hlt : k < s.size
    · have hbyte : s[k].toNat < 256 := s[k].toNat_lt
      go_wp2
      go_loop [7, 9] (fun n i => ∃ m r : Nat, m ≤ 8 ∧ i = .int .i64 ((m : Int) - 1) ∧ n = .int .i64 (r : Nat) ∧ r < 65536 ∧ Hid (dblN 16 32773 m (r ^^^ (s[k].toNat % 2 ^ m) * 2 ^ (16 - m)) = byteStep 16 32773 r0 s[k].toNat)) (fun _ i => (intOf i + 1).toNat)
      case atStart => exact ⟨8, r0, by omega, rfl, rfl, hr0, (byte_start 16 32773 r0 _ hbyte : _ = _)⟩
      case round =>
        obtain ⟨m, r, hm, rfl, rfl, hr, he⟩ := hrel
        by_cases hm0 : 0 < m
        · go_wp2
          all_goals
            go_round
            case rel =>
              refine ⟨m - 1, bitStep 16 32773 r (s[k].toNat / 2 ^ (m - 1) % 2), by omega, by rw [Int.natCast_sub hm0]; rfl, ?_, bitStep_lt 16 32773 _ _ (by omega), ((rest_at 16 32773 r _ m (by omega) hm0 hr).symm.trans he.out : _ = _)⟩
              first
                | exact congrArg (Value.int IntKind.i64) (refYes16 r _ m hr hbyte ‹_›)
                | exact congrArg (Value.int IntKind.i64) (refNo16 r _ m hr hbyte ‹_›)
            case measure => simp [intOf]; omega
        · obtain rfl : m = 0 := by omega
          go_wp2
          go_round
          case rel => exact ⟨k + 1, r, by omega, by go_num, rfl, hr, (refEnd16 s k r r0 hlt he0 he : _ = _)⟩
          case measure => simp [intOf]; omega
    · go_wp2
      go_ret
      exact ⟨ret_int (by rw [he0.out, List.take_of_length_le (by simp; omega)]), rfl⟩

end Go.Proofs.Ytodbbdknkffceaa

namespace Go.Proofs.Ytodbbdknkffceaa
open Go.RowKit

set_option maxHeartbeats 400000 in
theorem crc8_any (s : ByteArray) (w : World) (hs : s.size ≤ maxLen) :
    Calls Try.prog 9 #[.string s] w fun e w' => e = .returned (.int .i64 (crc 8 7 s.data.toList : Nat)) ∧ w' = w := by
  go_enter Try.func9, Try.ntmps9
  go_wp2_with (go_at_call 28; refine (sum8 _ _ hs).mono ?_; rintro e w' ⟨rfl, rfl⟩)
  go_ret
  exact ⟨rfl, rfl⟩

set_option maxHeartbeats 400000 in
theorem crc16_any (s : ByteArray) (w : World) (hs : s.size ≤ maxLen) :
    Calls Try.prog 10 #[.string s] w fun e w' => e = .returned (.int .i64 (crc 16 32773 s.data.toList : Nat)) ∧ w' = w := by
  go_enter Try.func10, Try.ntmps10
  go_wp2_with (go_at_call 28; refine (sum16 _ _ hs).mono ?_; rintro e w' ⟨rfl, rfl⟩)
  go_ret
  exact ⟨rfl, rfl⟩

set_option maxHeartbeats 400000 in
theorem refcrc8_any (s : ByteArray) (w : World) (hs : s.size ≤ maxLen) :
    Calls Try.prog 11 #[.string s] w fun e w' => e = .returned (.int .i64 (crc 8 7 s.data.toList : Nat)) ∧ w' = w := by
  go_enter Try.func11, Try.ntmps11
  go_wp2_with (go_at_call 29; refine (ref8 _ _ hs).mono ?_; rintro e w' ⟨rfl, rfl⟩)
  go_ret
  exact ⟨rfl, rfl⟩

set_option maxHeartbeats 400000 in
theorem refcrc16_any (s : ByteArray) (w : World) (hs : s.size ≤ maxLen) :
    Calls Try.prog 12 #[.string s] w fun e w' => e = .returned (.int .i64 (crc 16 32773 s.data.toList : Nat)) ∧ w' = w := by
  go_enter Try.func12, Try.ntmps12
  go_wp2_with (go_at_call 29; refine (ref16 _ _ hs).mono ?_; rintro e w' ⟨rfl, rfl⟩)
  go_ret
  exact ⟨rfl, rfl⟩

end Go.Proofs.Ytodbbdknkffceaa
