import Derived.Test.YtncmgnmcggkhnaaCrcWalks
namespace Go.Proofs.Ytncmgnmcggkhnaa
open Go.RowKit

theorem ne_cast (a b : Nat) : ((a : Int) != (b : Int)) = decide (a ≠ b) := by
  rw [Bool.eq_iff_iff, bne_iff_ne, decide_eq_true_eq]
  omega

theorem byte_start (w g r b : Nat) (hb : b < 256) : dblN w g 8 (r ^^^ (b % 2 ^ 8) * 2 ^ (w - 8)) = byteStep w g r b := by
  rw [Nat.mod_eq_of_lt (show b < 2 ^ 8 from hb)]
  rfl

theorem rest_at (w g r b m : Nat) (hm : m ≤ w) (hm0 : 0 < m) (hr : r < 2 ^ w) :
    dblN w g m (r ^^^ (b % 2 ^ m) * 2 ^ (w - m)) = dblN w g (m - 1) (bitStep w g r (b / 2 ^ (m - 1) % 2) ^^^ (b % 2 ^ (m - 1)) * 2 ^ (w - (m - 1))) := by
  obtain ⟨m', rfl⟩ : ∃ m', m = m' + 1 := ⟨m - 1, by omega⟩
  have h := rest_step w g r (b % 2 ^ (m' + 1)) m' (by omega) hr (Nat.mod_lt _ (Nat.two_pow_pos _))
  rw [Nat.mod_mod_of_dvd _ (Nat.pow_dvd_pow 2 (Nat.le_succ m')), Nat.pow_succ, Nat.mod_mul_right_div_self, ← Nat.pow_succ] at h
  exact h

theorem refTest8 (r b m : Nat) (hr : r < 256) (hb : b < 256) :
    (bits .and .i64 ((r : Int) / 128) 1 != bits .and .i64 ((b : Int) / 2 ^ (m - 1)) 1) = decide (r / 2 ^ (8 - 1) % 2 ≠ b / 2 ^ (m - 1) % 2) := by
  have hd : b / 2 ^ (m - 1) ≤ b := Nat.div_le_self _ _
  rw [show ((r : Int) / 128) = ((r / 128 : Nat) : Int) by omega, show ((b : Int) / 2 ^ (m - 1)) = ((b / 2 ^ (m - 1) : Nat) : Int) by simp,
    bits_and_mask _ 1 (by omega) (by omega) 1 rfl, bits_and_mask _ 1 (by omega) (by omega) 1 rfl, ne_cast]

theorem refYes8 (r b m : Nat) (hr : r < 256) (hb : b < 256)
    (h : (bits .and .i64 ((r : Int) / 128) 1 != bits .and .i64 ((b : Int) / 2 ^ (m - 1)) 1) = true) :
    bits .xor .i64 ((r : Int) * 2 % 256) 7 = (bitStep 8 7 r (b / 2 ^ (m - 1) % 2) : Nat) := by
  rw [refTest8 r b m hr hb, decide_eq_true_eq] at h
  rw [show ((r : Int) * 2 % 256) = ((r * 2 % 256 : Nat) : Int) by omega, show (7 : Int) = ((7 : Nat) : Int) from rfl, bits_xor_nat _ _ (by omega) (by omega)]
  unfold bitStep
  rw [if_pos h]

theorem refNo8 (r b m : Nat) (hr : r < 256) (hb : b < 256)
    (h : (bits .and .i64 ((r : Int) / 128) 1 != bits .and .i64 ((b : Int) / 2 ^ (m - 1)) 1) = false) :
    ((r : Int) * 2 % 256) = (bitStep 8 7 r (b / 2 ^ (m - 1) % 2) : Nat) := by
  rw [refTest8 r b m hr hb, decide_eq_false_iff_not] at h
  rw [show ((r : Int) * 2 % 256) = ((r * 2 % 256 : Nat) : Int) by omega]
  unfold bitStep
  rw [if_neg h]

theorem refEnd8 (s : ByteArray) (k r r0 : Nat) (hlt : k < s.size) (h0 : Hid (r0 = crc 8 7 (s.data.toList.take k)))
    (h : Hid (dblN 8 7 0 (r ^^^ (s[k].toNat % 2 ^ 0) * 2 ^ (8 - 0)) = byteStep 8 7 r0 s[k].toNat)) :
    r = crc 8 7 (s.data.toList.take (k + 1)) := by
  rw [take_snoc s k hlt, crc_snoc, ← h0.out, ← h.out]
  show _ = r ^^^ (s[k].toNat % 1) * _
  rw [Nat.mod_one, Nat.zero_mul, Nat.xor_zero]

set_option maxHeartbeats 400000 in
theorem ref8 (s : ByteArray) (w : World) (hs : s.size ≤ maxLen) :
    Calls Try.prog 39 #[.string s, .int .i64 8, .int .i64 7] w fun e w' => e = .returned (.int .i64 (crc 8 7 s.data.toList : Nat)) ∧ w' = w := by
  unfold maxLen at hs
  go_enter Try.func39, Try.ntmps39
  go_wp2
  go_loop [7, 8] (fun n i => ∃ k r : Nat, k ≤ s.size ∧ i = .int .i64 k ∧ n = .int .i64 r ∧ r < 256 ∧ Hid (r = crc 8 7 (s.data.toList.take k))) (fun _ i => s.size - (intOf i).toNat)
  case atStart => exact ⟨0, 0, Nat.zero_le _, rfl, rfl, by omega, (rfl : _ = _)⟩
  case round =>
    obtain ⟨k, r0, hk, rfl, rfl, hr0, he0⟩ := hrel
    by_cases hlt : k < s.size
    · have hbyte : s[k].toNat < 256 := s[k].toNat_lt
      go_wp2
      go_loop [7, 9] (fun n i => ∃ m r : Nat, m ≤ 8 ∧ i = .int .i64 ((m : Int) - 1) ∧ n = .int .i64 (r : Nat) ∧ r < 256 ∧ Hid (dblN 8 7 m (r ^^^ (s[k].toNat % 2 ^ m) * 2 ^ (8 - m)) = byteStep 8 7 r0 s[k].toNat)) (fun _ i => (intOf i + 1).toNat)
      case atStart => exact ⟨8, r0, by omega, rfl, rfl, hr0, (byte_start 8 7 r0 _ hbyte : _ = _)⟩
      case round =>
        obtain ⟨m, r, hm, rfl, rfl, hr, he⟩ := hrel
        by_cases hm0 : 0 < m
        · go_wp2
          all_goals
            go_round
            case rel =>
              refine ⟨m - 1, bitStep 8 7 r (s[k].toNat / 2 ^ (m - 1) % 2), by omega, by rw [Int.natCast_sub hm0]; rfl, ?_, bitStep_lt 8 7 _ _ (by omega), ((rest_at 8 7 r _ m (by omega) hm0 hr).symm.trans he.out : _ = _)⟩
              first
                | exact congrArg (Value.int IntKind.i64) (refYes8 r _ m hr hbyte ‹_›)
                | exact congrArg (Value.int IntKind.i64) (refNo8 r _ m hr hbyte ‹_›)
            case measure => simp [intOf]; omega
        · obtain rfl : m = 0 := by omega
          go_wp2
          go_round
          case rel => exact ⟨k + 1, r, by omega, by go_num, rfl, hr, (refEnd8 s k r r0 hlt he0 he : _ = _)⟩
          case measure => simp [intOf]; omega
    · go_wp2
      go_ret
      exact ⟨ret_int (by rw [he0.out, List.take_of_length_le (by simp; omega)]), rfl⟩

theorem refTest16 (r b m : Nat) (hr : r < 65536) (hb : b < 256) :
    (bits .and .i64 ((r : Int) / 32768) 1 != bits .and .i64 ((b : Int) / 2 ^ (m - 1)) 1) = decide (r / 2 ^ (16 - 1) % 2 ≠ b / 2 ^ (m - 1) % 2) := by
  have hd : b / 2 ^ (m - 1) ≤ b := Nat.div_le_self _ _
  rw [show ((r : Int) / 32768) = ((r / 32768 : Nat) : Int) by omega, show ((b : Int) / 2 ^ (m - 1)) = ((b / 2 ^ (m - 1) : Nat) : Int) by simp,
    bits_and_mask _ 1 (by omega) (by omega) 1 rfl, bits_and_mask _ 1 (by omega) (by omega) 1 rfl, ne_cast]

theorem refYes16 (r b m : Nat) (hr : r < 65536) (hb : b < 256)
    (h : (bits .and .i64 ((r : Int) / 32768) 1 != bits .and .i64 ((b : Int) / 2 ^ (m - 1)) 1) = true) :
    bits .xor .i64 ((r : Int) * 2 % 65536) 32773 = (bitStep 16 32773 r (b / 2 ^ (m - 1) % 2) : Nat) := by
  rw [refTest16 r b m hr hb, decide_eq_true_eq] at h
  rw [show ((r : Int) * 2 % 65536) = ((r * 2 % 65536 : Nat) : Int) by omega, show (32773 : Int) = ((32773 : Nat) : Int) from rfl, bits_xor_nat _ _ (by omega) (by omega)]
  unfold bitStep
  rw [if_pos h]

theorem refNo16 (r b m : Nat) (hr : r < 65536) (hb : b < 256)
    (h : (bits .and .i64 ((r : Int) / 32768) 1 != bits .and .i64 ((b : Int) / 2 ^ (m - 1)) 1) = false) :
    ((r : Int) * 2 % 65536) = (bitStep 16 32773 r (b / 2 ^ (m - 1) % 2) : Nat) := by
  rw [refTest16 r b m hr hb, decide_eq_false_iff_not] at h
  rw [show ((r : Int) * 2 % 65536) = ((r * 2 % 65536 : Nat) : Int) by omega]
  unfold bitStep
  rw [if_neg h]

theorem refEnd16 (s : ByteArray) (k r r0 : Nat) (hlt : k < s.size) (h0 : Hid (r0 = crc 16 32773 (s.data.toList.take k)))
    (h : Hid (dblN 16 32773 0 (r ^^^ (s[k].toNat % 2 ^ 0) * 2 ^ (16 - 0)) = byteStep 16 32773 r0 s[k].toNat)) :
    r = crc 16 32773 (s.data.toList.take (k + 1)) := by
  rw [take_snoc s k hlt, crc_snoc, ← h0.out, ← h.out]
  show _ = r ^^^ (s[k].toNat % 1) * _
  rw [Nat.mod_one, Nat.zero_mul, Nat.xor_zero]

set_option maxHeartbeats 400000 in
theorem ref16 (s : ByteArray) (w : World) (hs : s.size ≤ maxLen) :
    Calls Try.prog 39 #[.string s, .int .i64 16, .int .i64 32773] w fun e w' => e = .returned (.int .i64 (crc 16 32773 s.data.toList : Nat)) ∧ w' = w := by
  unfold maxLen at hs
  go_enter Try.func39, Try.ntmps39
  go_wp2
  go_loop [7, 8] (fun n i => ∃ k r : Nat, k ≤ s.size ∧ i = .int .i64 k ∧ n = .int .i64 r ∧ r < 65536 ∧ Hid (r = crc 16 32773 (s.data.toList.take k))) (fun _ i => s.size - (intOf i).toNat)
  case atStart => exact ⟨0, 0, Nat.zero_le _, rfl, rfl, by omega, (rfl : _ = _)⟩
  case round =>
    obtain ⟨k, r0, hk, rfl, rfl, hr0, he0⟩ := hrel
    by_cases hlt : k < s.size
    · have hbyte : s[k].toNat < 256 := s[k].toNat_lt
      go_wp2
      go_loop [7, 9] (fun n i => ∃ m r : Nat, m ≤ 8 ∧ i = .int .i64 ((m : Int) - 1) ∧ n = .int .i64 (r : Nat) ∧ r < 65536 ∧ Hid (dblN 16 32773 m (r ^^^ (s[k].toNat % 2 ^ m) * 2 ^ (16 - m)) = byteStep 16 32773 r0 s[k].toNat)) (fun _ i => (intOf i + 1).toNat)
      case atStart => exact ⟨8, r0, by omega, rfl, rfl, hr0, (byte_start 16 32773 r0 _ hbyte : _ = _)⟩
      case round =>
        obtain ⟨m, r, hm, rfl, rfl, hr, he⟩ := hrel
        by_cases hm0 : 0 < m
        · go_wp2
          all_goals
            go_round
            case rel =>
              refine ⟨m - 1, bitStep 16 32773 r (s[k].toNat / 2 ^ (m - 1) % 2), by omega, by rw [Int.natCast_sub hm0]; rfl, ?_, bitStep_lt 16 32773 _ _ (by omega), ((rest_at 16 32773 r _ m (by omega) hm0 hr).symm.trans he.out : _ = _)⟩
              first
                | exact congrArg (Value.int IntKind.i64) (refYes16 r _ m hr hbyte ‹_›)
                | exact congrArg (Value.int IntKind.i64) (refNo16 r _ m hr hbyte ‹_›)
            case measure => simp [intOf]; omega
        · obtain rfl : m = 0 := by omega
          go_wp2
          go_round
          case rel => exact ⟨k + 1, r, by omega, by go_num, rfl, hr, (refEnd16 s k r r0 hlt he0 he : _ = _)⟩
          case measure => simp [intOf]; omega
    · go_wp2
      go_ret
      exact ⟨ret_int (by rw [he0.out, List.take_of_length_le (by simp; omega)]), rfl⟩

end Go.Proofs.Ytncmgnmcggkhnaa
