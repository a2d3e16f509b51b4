import Derived.Test.YtncmgnmcggkhnaaCrcMath
import Derived.Test.YtncmgnmcggkhnaaRows
import Derived.WalkKit
import Derived.WalkSpells
import Derived.WalkLawsBesides
namespace Go.Proofs.Ytncmgnmcggkhnaa
open Go.RowKit

theorem ret_int {k : IntKind} {a b : Int} (h : a = b) : Ending.returned (.int k a) = .returned (.int k b) := by rw [h]

theorem take_snoc (s : ByteArray) (k : Nat) (h : k < s.size) : s.data.toList.take (k + 1) = s.data.toList.take k ++ [s[k]] := by
  rw [List.take_succ_eq_append_getElem (by simpa using h)]; rfl

theorem dbl8_yes (r : Nat) (h1 : r < 256) (h : ((r : Int) / 128 == 1) = true) :
    bits .xor .i64 (bits .and .i64 ((r : Int) * 2) 255) 7 = (dbl 8 7 r : Nat) := by
  have h' : r / 128 = 1 := by simp at h; omega
  rw [show ((r : Int) * 2) = ((r * 2 : Nat) : Int) by omega, bits_and_mask (r * 2) 8 (by omega) (by omega) 255 rfl,
    show (7 : Int) = ((7 : Nat) : Int) from rfl, bits_xor_nat _ _ (by omega) (by omega)]
  unfold dbl
  simp [h']

theorem dbl8_no (r : Nat) (h1 : r < 256) (h : ((r : Int) / 128 == 1) = false) :
    bits .and .i64 ((r : Int) * 2) 255 = (dbl 8 7 r : Nat) := by
  have h' : ¬ r / 128 = 1 := by simp at h; omega
  rw [show ((r : Int) * 2) = ((r * 2 : Nat) : Int) by omega, bits_and_mask (r * 2) 8 (by omega) (by omega) 255 rfl]
  unfold dbl
  simp [h']

theorem dbl16_yes (r : Nat) (h1 : r < 65536) (h : ((r : Int) / 32768 == 1) = true) :
    bits .xor .i64 (bits .and .i64 ((r : Int) * 2) 65535) 32773 = (dbl 16 32773 r : Nat) := by
  have h' : r / 32768 = 1 := by simp at h; omega
  rw [show ((r : Int) * 2) = ((r * 2 : Nat) : Int) by omega, bits_and_mask (r * 2) 16 (by omega) (by omega) 65535 rfl,
    show (32773 : Int) = ((32773 : Nat) : Int) from rfl, bits_xor_nat _ _ (by omega) (by omega)]
  unfold dbl
  simp [h']

theorem dbl16_no (r : Nat) (h1 : r < 65536) (h : ((r : Int) / 32768 == 1) = false) :
    bits .and .i64 ((r : Int) * 2) 65535 = (dbl 16 32773 r : Nat) := by
  have h' : ¬ r / 32768 = 1 := by simp at h; omega
  rw [show ((r : Int) * 2) = ((r * 2 : Nat) : Int) by omega, bits_and_mask (r * 2) 16 (by omega) (by omega) 65535 rfl]
  unfold dbl
  simp [h']

set_option maxHeartbeats 400000 in
theorem double8 (r : Nat) (w : World) (h1 : r < 256) :
    Calls Try.prog 60 #[.int .i64 r, .int .i64 8, .int .i64 7] w fun e w' => e = .returned (.int .i64 (dbl 8 7 r : Nat)) ∧ w' = w := by
  go_enter Try.func60, Try.ntmps60
  go_wp2
  · go_ret
    exact ⟨ret_int (dbl8_yes r h1 (by assumption)), rfl⟩
  · go_ret
    exact ⟨ret_int (dbl8_no r h1 (by assumption)), rfl⟩

set_option maxHeartbeats 400000 in
theorem double16 (r : Nat) (w : World) (h1 : r < 65536) :
    Calls Try.prog 60 #[.int .i64 r, .int .i64 16, .int .i64 32773] w fun e w' => e = .returned (.int .i64 (dbl 16 32773 r : Nat)) ∧ w' = w := by
  go_enter Try.func60, Try.ntmps60
  go_wp2
  · go_ret
    exact ⟨ret_int (dbl16_yes r h1 (by assumption)), rfl⟩
  · go_ret
    exact ⟨ret_int (dbl16_no r h1 (by assumption)), rfl⟩


theorem start8 (s : ByteArray) (k : Nat) (hlt : k < s.size) :
    bits .xor .i64 (crc 8 7 (s.data.toList.take k) : Nat) ((s[k].toNat : Int)) = (dblN 8 7 0 (crc 8 7 (s.data.toList.take k) ^^^ s[k].toNat * 2 ^ 0) : Nat) := by
  have h1 := crc_lt 8 7 (by omega) (by omega) (s.data.toList.take k)
  have h2 := s[k].toNat_lt
  have e : ((s[k].toNat : Int)) = ((s[k].toNat * 2 ^ 0 : Nat) : Int) := by omega
  rw [e, bits_xor_nat _ _ (by omega) (by omega)]
  rfl

theorem bound8 (s : ByteArray) (k j : Nat) (hlt : k < s.size) : dblN 8 7 j (crc 8 7 (s.data.toList.take k) ^^^ s[k].toNat * 2 ^ 0) < 256 := by
  have h1 := crc_lt 8 7 (by omega) (by omega) (s.data.toList.take k)
  have h2 := s[k].toNat_lt
  exact dblN_lt 8 7 (by omega) j _ (Nat.xor_lt_two_pow h1 (by omega))

set_option maxHeartbeats 400000 in
theorem sum8 (s : ByteArray) (w : World) (hs : s.size ≤ maxLen) :
    Calls Try.prog 38 #[.string s, .int .i64 8, .int .i64 7] w fun e w' => e = .returned (.int .i64 (crc 8 7 s.data.toList : Nat)) ∧ w' = w := by
  unfold maxLen at hs
  go_enter Try.func38, Try.ntmps38
  go_wp2
  go_loop [7, 11] (fun n i => ∃ k : Nat, k ≤ s.size ∧ i = .int .i64 k ∧ n = .int .i64 (crc 8 7 (s.data.toList.take k) : Nat)) (fun _ i => s.size - (intOf i).toNat)
  case atStart => exact ⟨0, Nat.zero_le _, rfl, rfl⟩
  case round =>
    obtain ⟨k, hk, rfl, rfl⟩ := hrel
    by_cases hlt : k < s.size
    · have hbyte : s[k].toNat < 256 := s[k].toNat_lt
      go_wp2
      go_loop [7, 23] (fun n i => ∃ j r : Nat, j ≤ 8 ∧ i = .int .i64 j ∧ n = .int .i64 (r : Nat) ∧ Hid (r = dblN 8 7 j (crc 8 7 (s.data.toList.take k) ^^^ s[k].toNat * 2 ^ 0))) (fun _ i => 8 - (intOf i).toNat)
      case atStart => exact ⟨0, _, by omega, rfl, congrArg (Value.int IntKind.i64) (start8 s k hlt), (rfl : _ = _)⟩
      case round =>
        obtain ⟨j, r, hj, rfl, rfl, hr⟩ := hrel
        have hbd : r < 256 := by rw [hr.out]; exact bound8 s k j hlt
        by_cases hj8 : j < 8
        · go_wp2_with (go_at_call 60; refine (double8 _ _ hbd).mono ?_; rintro e w' ⟨rfl, rfl⟩)
          go_round
          case rel => exact ⟨j + 1, _, by omega, by go_num, rfl, (by rw [dblN_snoc, hr.out] : _ = _)⟩
          case measure => simp [intOf]; omega
        · obtain rfl : j = 8 := by omega
          go_wp2
          go_round
          case rel => exact ⟨k + 1, by omega, by go_num, by rw [take_snoc s k hlt, crc_snoc, hr.out]; rfl⟩
          case measure => simp [intOf]; omega
    · go_wp2
      go_ret
      exact ⟨ret_int (by rw [List.take_of_length_le (by simp; omega)]), rfl⟩

theorem start16 (s : ByteArray) (k : Nat) (hlt : k < s.size) :
    bits .xor .i64 (crc 16 32773 (s.data.toList.take k) : Nat) ((s[k].toNat : Int) * 256) = (dblN 16 32773 0 (crc 16 32773 (s.data.toList.take k) ^^^ s[k].toNat * 2 ^ 8) : Nat) := by
  have h1 := crc_lt 16 32773 (by omega) (by omega) (s.data.toList.take k)
  have h2 := s[k].toNat_lt
  have e : ((s[k].toNat : Int) * 256) = ((s[k].toNat * 2 ^ 8 : Nat) : Int) := by omega
  rw [e, bits_xor_nat _ _ (by omega) (by omega)]
  rfl

theorem bound16 (s : ByteArray) (k j : Nat) (hlt : k < s.size) : dblN 16 32773 j (crc 16 32773 (s.data.toList.take k) ^^^ s[k].toNat * 2 ^ 8) < 65536 := by
  have h1 := crc_lt 16 32773 (by omega) (by omega) (s.data.toList.take k)
  have h2 := s[k].toNat_lt
  exact dblN_lt 16 32773 (by omega) j _ (Nat.xor_lt_two_pow h1 (by omega))

set_option maxHeartbeats 400000 in
theorem sum16 (s : ByteArray) (w : World) (hs : s.size ≤ maxLen) :
    Calls Try.prog 38 #[.string s, .int .i64 16, .int .i64 32773] w fun e w' => e = .returned (.int .i64 (crc 16 32773 s.data.toList : Nat)) ∧ w' = w := by
  unfold maxLen at hs
  go_enter Try.func38, Try.ntmps38
  go_wp2
  go_loop [7, 11] (fun n i => ∃ k : Nat, k ≤ s.size ∧ i = .int .i64 k ∧ n = .int .i64 (crc 16 32773 (s.data.toList.take k) : Nat)) (fun _ i => s.size - (intOf i).toNat)
  case atStart => exact ⟨0, Nat.zero_le _, rfl, rfl⟩
  case round =>
    obtain ⟨k, hk, rfl, rfl⟩ := hrel
    by_cases hlt : k < s.size
    · have hbyte : s[k].toNat < 256 := s[k].toNat_lt
      go_wp2
      go_loop [7, 23] (fun n i => ∃ j r : Nat, j ≤ 8 ∧ i = .int .i64 j ∧ n = .int .i64 (r : Nat) ∧ Hid (r = dblN 16 32773 j (crc 16 32773 (s.data.toList.take k) ^^^ s[k].toNat * 2 ^ 8))) (fun _ i => 8 - (intOf i).toNat)
      case atStart => exact ⟨0, _, by omega, rfl, congrArg (Value.int IntKind.i64) (start16 s k hlt), (rfl : _ = _)⟩
      case round =>
        obtain ⟨j, r, hj, rfl, rfl, hr⟩ := hrel
        have hbd : r < 65536 := by rw [hr.out]; exact bound16 s k j hlt
        by_cases hj8 : j < 8
        · go_wp2_with (go_at_call 60; refine (double16 _ _ hbd).mono ?_; rintro e w' ⟨rfl, rfl⟩)
          go_round
          case rel => exact ⟨j + 1, _, by omega, by go_num, rfl, (by rw [dblN_snoc, hr.out] : _ = _)⟩
          case measure => simp [intOf]; omega
        · obtain rfl : j = 8 := by omega
          go_wp2
          go_round
          case rel => exact ⟨k + 1, by omega, by go_num, by rw [take_snoc s k hlt, crc_snoc, hr.out]; rfl⟩
          case measure => simp [intOf]; omega
    · go_wp2
      go_ret
      exact ⟨ret_int (by rw [List.take_of_length_le (by simp; omega)]), rfl⟩

end Go.Proofs.Ytncmgnmcggkhnaa
