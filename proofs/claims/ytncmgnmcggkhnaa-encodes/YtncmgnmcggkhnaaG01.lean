import Derived.Test.YtncmgnmcggkhnaaG00
import Derived.Deep.QuietTactic
import Derived.BigQuiet
import Derived.Deep.RegionWith
namespace Go.Proofs.Ytncmgnmcggkhnaa
open Go.RowKit

theorem ne_cast (a b : Nat) : ((a : Int) != (b : Int)) = decide (a ≠ b) := by
  rw [Bool.eq_iff_iff, bne_iff_ne, decide_eq_true_eq]
  omega

theorem byte_start (w g r b : Nat) (hb : b < 256) : dblN w g 8 (r ^^^ (b % 2 ^ 8) * 2 ^ (w - 8)) = byteStep w g r b := by
  rw [Nat.mod_eq_of_lt (show b < 2 ^ 8 from hb)]
  rfl

theorem rest_at (w g r b m : Nat) (hm : m ≤ w) (hm0 : 0 < m) (hr : r < 2 ^ w) :
    dblN w g m (r ^^^ (b % 2 ^ m) * 2 ^ (w - m)) = dblN w g (m - 1) (bitStep w g r (b / 2 ^ (m - 1) % 2) ^^^ (b % 2 ^ (m - 1)) * 2 ^ (w - (m - 1))) := by
  obtain ⟨m', rfl⟩ : ∃ m', m = m' + 1 := ⟨m - 1, by omega⟩
  have h := rest_step w g r (b % 2 ^ (m' + 1)) m' (by omega) hr (Nat.mod_lt _ (Nat.two_pow_pos _))
  rw [Nat.mod_mod_of_dvd _ (Nat.pow_dvd_pow 2 (Nat.le_succ m')), Nat.pow_succ, Nat.mod_mul_right_div_self, ← Nat.pow_succ] at h
  exact h

theorem refTest8 (r b m : Nat) (hr : r < 256) (hb : b < 256) :
    (bits .and .i64 ((r : Int) / 128) 1 != bits .and .i64 ((b : Int) / 2 ^ (m - 1)) 1) = decide (r / 2 ^ (8 - 1) % 2 ≠ b / 2 ^ (m - 1) % 2) := by
  have hd : b / 2 ^ (m - 1) ≤ b := Nat.div_le_self _ _
  rw [show ((r : Int) / 128) = ((r / 128 : Nat) : Int) by omega, show ((b : Int) / 2 ^ (m - 1)) = ((b / 2 ^ (m - 1) : Nat) : Int) by simp,
    bits_and_mask _ 1 (by omega) (by omega) 1 rfl, bits_and_mask _ 1 (by omega) (by omega) 1 rfl, ne_cast]

theorem refYes8 (r b m : Nat) (hr : r < 256) (hb : b < 256)
    (h : (bits .and .i64 ((r : Int) / 128) 1 != bits .and .i64 ((b : Int) / 2 ^ (m - 1)) 1) = true) :
    bits .xor .i64 ((r : Int) * 2 % 256) 7 = (bitStep 8 7 r (b / 2 ^ (m - 1) % 2) : Nat) := by
  rw [refTest8 r b m hr hb, decide_eq_true_eq] at h
  rw [show ((r : Int) * 2 % 256) = ((r * 2 % 256 : Nat) : Int) by omega, show (7 : Int) = ((7 : Nat) : Int) from rfl, bits_xor_nat _ _ (by omega) (by omega)]
  unfold bitStep
  rw [if_pos h]

theorem refNo8 (r b m : Nat) (hr : r < 256) (hb : b < 256)
    (h : (bits .and .i64 ((r : Int) / 128) 1 != bits .and .i64 ((b : Int) / 2 ^ (m - 1)) 1) = false) :
    ((r : Int) * 2 % 256) = (bitStep 8 7 r (b / 2 ^ (m - 1) % 2) : Nat) := by
  rw [refTest8 r b m hr hb, decide_eq_false_iff_not] at h
  rw [show ((r : Int) * 2 % 256) = ((r * 2 % 256 : Nat) : Int) by omega]
  unfold bitStep
  rw [if_neg h]

theorem refEnd8 (s : ByteArray) (k r r0 : Nat) (hlt : k < s.size) (h0 : Hid (r0 = crc 8 7 (s.data.toList.take k)))
    (h : Hid (dblN 8 7 0 (r ^^^ (s[k].toNat % 2 ^ 0) * 2 ^ (8 - 0)) = byteStep 8 7 r0 s[k].toNat)) :
    r = crc 8 7 (s.data.toList.take (k + 1)) := by
  rw [take_snoc s k hlt, crc_snoc, ← h0.out, ← h.out]
  show _ = r ^^^ (s[k].toNat % 1) * _
  rw [Nat.mod_one, Nat.zero_mul, Nat.xor_zero]

set_option maxHeartbeats 400000 in
theorem ref8 (s : ByteArray) (w : World) (hs : s.size ≤ maxLen) :
    Calls Try.prog 39 #[.string s, .int .i64 8, .int .i64 7] w fun e w' => e = .returned (.int .i64 (crc 8 7 s.data.toList : Nat)) ∧ w' = w := by
  unfold maxLen at hs
  go_enter Try.func39, Try.ntmps39
  go_wp2
  go_loop [7, 8] (fun n i => ∃ k r : Nat, k ≤ s.size ∧ i = .int .i64 k ∧ n = .int .i64 r ∧ r < 256 ∧ Hid (r = crc 8 7 (s.data.toList.take k))) (fun _ i => s.size - (intOf i).toNat)
  case atStart => exact ⟨0, 0, Nat.zero_le _, rfl, rfl, by omega, (rfl : _ = _)⟩
  case round =>
    obtain ⟨k, r0, hk, rfl, rfl, hr0, he0⟩ := hrel
    by_cases hlt : k < s.size
    · have hbyte : s[k].toNat < 256 := s[k].toNat_lt
      go_wp2
      go_loop [7, 9] (fun n i => ∃ m r : Nat, m ≤ 8 ∧ i = .int .i64 ((m : Int) - 1) ∧ n = .int .i64 (r : Nat) ∧ r < 256 ∧ Hid (dblN 8 7 m (r ^^^ (s[k].toNat % 2 ^ m) * 2 ^ (8 - m)) = byteStep 8 7 r0 s[k].toNat)) (fun _ i => (intOf i + 1).toNat)
      case atStart => exact ⟨8, r0, by omega, rfl, rfl, hr0, (byte_start 8 7 r0 _ hbyte : _ = _)⟩
      case round =>
        obtain ⟨m, r, hm, rfl, rfl, hr, he⟩ := hrel
        by_cases hm0 : 0 < m
        · go_wp2
          all_goals
            go_round
            case rel =>
              refine ⟨m - 1, bitStep 8 7 r (s[k].toNat / 2 ^ (m - 1) % 2), by omega, by rw [Int.natCast_sub hm0]; rfl, ?_, bitStep_lt 8 7 _ _ (by omega), ((rest_at 8 7 r _ m (by omega) hm0 hr).symm.trans he.out : _ = _)⟩
              first
                | exact congrArg (Value.int IntKind.i64) (refYes8 r _ m hr hbyte ‹_›)
                | exact congrArg (Value.int IntKind.i64) (refNo8 r _ m hr hbyte ‹_›)
            case measure => simp [intOf]; omega
        · obtain rfl : m = 0 := by omega
          go_wp2
          go_round
          case rel => exact ⟨k + 1, r, by omega, by go_num, rfl, hr, (refEnd8 s k r r0 hlt he0 he : _ = _)⟩
          case measure => simp [intOf]; omega
    · go_wp2
      go_ret
      exact ⟨ret_int (by rw [he0.out, List.take_of_length_le (by simp; omega)]), rfl⟩

theorem refTest16 (r b m : Nat) (hr : r < 65536) (hb : b < 256) :
    (bits .and .i64 ((r : Int) / 32768) 1 != bits .and .i64 ((b : Int) / 2 ^ (m - 1)) 1) = decide (r / 2 ^ (16 - 1) % 2 ≠ b / 2 ^ (m - 1) % 2) := by
  have hd : b / 2 ^ (m - 1) ≤ b := Nat.div_le_self _ _
  rw [show ((r : Int) / 32768) = ((r / 32768 : Nat) : Int) by omega, show ((b : Int) / 2 ^ (m - 1)) = ((b / 2 ^ (m - 1) : Nat) : Int) by simp,
    bits_and_mask _ 1 (by omega) (by omega) 1 rfl, bits_and_mask _ 1 (by omega) (by omega) 1 rfl, ne_cast]

theorem refYes16 (r b m : Nat) (hr : r < 65536) (hb : b < 256)
    (h : (bits .and .i64 ((r : Int) / 32768) 1 != bits .and .i64 ((b : Int) / 2 ^ (m - 1)) 1) = true) :
    bits .xor .i64 ((r : Int) * 2 % 65536) 32773 = (bitStep 16 32773 r (b / 2 ^ (m - 1) % 2) : Nat) := by
  rw [refTest16 r b m hr hb, decide_eq_true_eq] at h
  rw [show ((r : Int) * 2 % 65536) = ((r * 2 % 65536 : Nat) : Int) by omega, show (32773 : Int) = ((32773 : Nat) : Int) from rfl, bits_xor_nat _ _ (by omega) (by omega)]
  unfold bitStep
  rw [if_pos h]

theorem refNo16 (r b m : Nat) (hr : r < 65536) (hb : b < 256)
    (h : (bits .and .i64 ((r : Int) / 32768) 1 != bits .and .i64 ((b : Int) / 2 ^ (m - 1)) 1) = false) :
    ((r : Int) * 2 % 65536) = (bitStep 16 32773 r (b / 2 ^ (m - 1) % 2) : Nat) := by
  rw [refTest16 r b m hr hb, decide_eq_false_iff_not] at h
  rw [show ((r : Int) * 2 % 65536) = ((r * 2 % 65536 : Nat) : Int) by omega]
  unfold bitStep
  rw [if_neg h]

theorem refEnd16 (s : ByteArray) (k r r0 : Nat) (hlt : k < s.size) (h0 : Hid (r0 = crc 16 32773 (s.data.toList.take k)))
    (h : Hid (dblN 16 32773 0 (r ^^^ (s[k].toNat % 2 ^ 0) * 2 ^ (16 - 0)) = byteStep 16 32773 r0 s[k].toNat)) :
    r = crc 16 32773 (s.data.toList.take (k + 1)) := by
  rw [take_snoc s k hlt, crc_snoc, ← h0.out, ← h.out]
  show _ = r ^^^ (s[k].toNat % 1) * _
  rw [Nat.mod_one, Nat.zero_mul, Nat.xor_zero]

set_option maxHeartbeats 400000 in
theorem ref16 (s : ByteArray) (w : World) (hs : s.size ≤ maxLen) :
    Calls Try.prog 39 #[.string s, .int .i64 16, .int .i64 32773] w fun e w' => e = .returned (.int .i64 (crc 16 32773 s.data.toList : Nat)) ∧ w' = w := by
  unfold maxLen at hs
  go_enter Try.func39, Try.ntmps39
  go_wp2
  go_loop [7, 8] (fun n i => ∃ k r : Nat, k ≤ s.size ∧ i = .int .i64 k ∧ n = .int .i64 r ∧ r < 65536 ∧ Hid (r = crc 16 32773 (s.data.toList.take k))) (fun _ i => s.size - (intOf i).toNat)
  case atStart => exact ⟨0, 0, Nat.zero_le _, rfl, rfl, by omega, (rfl : _ = _)⟩
  case round =>
    obtain ⟨k, r0, hk, rfl, rfl, hr0, he0⟩ := hrel
    by_cases hlt : k < s.size
    · have hbyte : s[k].toNat < 256 := s[k].toNat_lt
      go_wp2
      go_loop [7, 9] (fun n i => ∃ m r : Nat, m ≤ 8 ∧ i = .int .i64 ((m : Int) - 1) ∧ n = .int .i64 (r : Nat) ∧ r < 65536 ∧ Hid (dblN 16 32773 m (r ^^^ (s[k].toNat % 2 ^ m) * 2 ^ (16 - m)) = byteStep 16 32773 r0 s[k].toNat)) (fun _ i => (intOf i + 1).toNat)
      case atStart => exact ⟨8, r0, by omega, rfl, rfl, hr0, (byte_start 16 32773 r0 _ hbyte : _ = _)⟩
      case round =>
        obtain ⟨m, r, hm, rfl, rfl, hr, he⟩ := hrel
        by_cases hm0 : 0 < m
        · go_wp2
          all_goals
            go_round
            case rel =>
              refine ⟨m - 1, bitStep 16 32773 r (s[k].toNat / 2 ^ (m - 1) % 2), by omega, by rw [Int.natCast_sub hm0]; rfl, ?_, bitStep_lt 16 32773 _ _ (by omega), ((rest_at 16 32773 r _ m (by omega) hm0 hr).symm.trans he.out : _ = _)⟩
              first
                | exact congrArg (Value.int IntKind.i64) (refYes16 r _ m hr hbyte ‹_›)
                | exact congrArg (Value.int IntKind.i64) (refNo16 r _ m hr hbyte ‹_›)
            case measure => simp [intOf]; omega
        · obtain rfl : m = 0 := by omega
          go_wp2
          go_round
          case rel => exact ⟨k + 1, r, by omega, by go_num, rfl, hr, (refEnd16 s k r r0 hlt he0 he : _ = _)⟩
          case measure => simp [intOf]; omega
    · go_wp2
      go_ret
      exact ⟨ret_int (by rw [he0.out, List.take_of_length_le (by simp; omega)]), rfl⟩

end Go.Proofs.Ytncmgnmcggkhnaa

namespace Go.Proofs.Ytncmgnmcggkhnaa
open Go.RowKit

set_option maxHeartbeats 400000 in
theorem crc8_any (s : ByteArray) (w : World) (hs : s.size ≤ maxLen) :
    Calls Try.prog 12 #[.string s] w fun e w' => e = .returned (.int .i64 (crc 8 7 s.data.toList : Nat)) ∧ w' = w := by
  go_enter Try.func12, Try.ntmps12
  go_wp2_with (go_at_call 38; refine (sum8 _ _ hs).mono ?_; rintro e w' ⟨rfl, rfl⟩)
  go_ret
  exact ⟨rfl, rfl⟩

set_option maxHeartbeats 400000 in
theorem crc16_any (s : ByteArray) (w : World) (hs : s.size ≤ maxLen) :
    Calls Try.prog 13 #[.string s] w fun e w' => e = .returned (.int .i64 (crc 16 32773 s.data.toList : Nat)) ∧ w' = w := by
  go_enter Try.func13, Try.ntmps13
  go_wp2_with (go_at_call 38; refine (sum16 _ _ hs).mono ?_; rintro e w' ⟨rfl, rfl⟩)
  go_ret
  exact ⟨rfl, rfl⟩

set_option maxHeartbeats 400000 in
theorem refcrc8_any (s : ByteArray) (w : World) (hs : s.size ≤ maxLen) :
    Calls Try.prog 14 #[.string s] w fun e w' => e = .returned (.int .i64 (crc 8 7 s.data.toList : Nat)) ∧ w' = w := by
  go_enter Try.func14, Try.ntmps14
  go_wp2_with (go_at_call 39; refine (ref8 _ _ hs).mono ?_; rintro e w' ⟨rfl, rfl⟩)
  go_ret
  exact ⟨rfl, rfl⟩

set_option maxHeartbeats 400000 in
theorem refcrc16_any (s : ByteArray) (w : World) (hs : s.size ≤ maxLen) :
    Calls Try.prog 15 #[.string s] w fun e w' => e = .returned (.int .i64 (crc 16 32773 s.data.toList : Nat)) ∧ w' = w := by
  go_enter Try.func15, Try.ntmps15
  go_wp2_with (go_at_call 39; refine (ref16 _ _ hs).mono ?_; rintro e w' ⟨rfl, rfl⟩)
  go_ret
  exact ⟨rfl, rfl⟩

end Go.Proofs.Ytncmgnmcggkhnaa

/-
  A reader in memory: a block of three cells (the bytes, the place in bits, a mark), and what its bits still are.
-/
namespace Go.Proofs.Ytncmgnmcggkhnaa
open Go.RowKit

def Rd (t : TypeId) (w : World) (b : Nat) (s : ByteArray) (a : Nat) (m : Bool) : Prop :=
  w.heap[b]? = some (.cells #[.string s, .int .i64 a, .bool m] t (0, 0))

section
variable {t : TypeId} {w w' : World} {b : Nat} {s : ByteArray} {a : Nat} {m : Bool}

theorem Rd.lt (h : Rd t w b s a m) : b < w.heap.size := by
  rcases Nat.lt_or_ge b w.heap.size with h1 | h1
  · exact h1
  · unfold Rd at h
    rw [Array.getElem?_eq_none h1] at h
    cases h

theorem Rd.c0 (h : Rd t w b s a m) : w.cell? ⟨b, 0, none⟩ = some (.string s) := by
  unfold Rd at h; simp [World.cell?, h]
theorem Rd.c1 (h : Rd t w b s a m) : w.cell? ⟨b, 1, none⟩ = some (.int .i64 a) := by
  unfold Rd at h; simp [World.cell?, h]
theorem Rd.c2 (h : Rd t w b s a m) : w.cell? ⟨b, 2, none⟩ = some (.bool m) := by
  unfold Rd at h; simp [World.cell?, h]
theorem Rd.fz (h : Rd t w b s a m) (i : Nat) : w.frozen? ⟨b, i, none⟩ = false := by
  unfold Rd at h; simp [World.frozen?, h]

theorem heap_setCell_own (w : World) (b o : Nat) (v : Value) (c : Array Value) (t : TypeId) (f : Nat × Nat) (h : w.heap[b]? = some (.cells c t f)) :
    (w.setCell ⟨b, o, none⟩ v).heap[b]? = some (.cells (c.setIfInBounds o v) t f) := by
  simp only [World.setCell, Array.getElem?_modify, if_pos, h]
  rfl

theorem Rd.set1 (h : Rd t w b s a m) (a' : Nat) : Rd t (w.setCell ⟨b, 1, none⟩ (.int .i64 a')) b s a' m := by
  unfold Rd at h ⊢
  rw [heap_setCell_own w b 1 _ _ _ _ h]
  rfl
theorem Rd.set2 (h : Rd t w b s a m) (m' : Bool) : Rd t (w.setCell ⟨b, 2, none⟩ (.bool m')) b s a m' := by
  unfold Rd at h ⊢
  rw [heap_setCell_own w b 2 _ _ _ _ h]
  rfl
theorem Rd.drew (h : Rd t w b s a m) : Rd t w.drew b s a m := h
theorem Rd.drewN (h : Rd t w b s a m) (n : Nat) : Rd t (w.drewN n) b s a m := by
  unfold Rd at h ⊢
  rw [← h]
  rfl
theorem Rd.kept {row : Option Nat} (h : Rd t w b s a m) (hg : w.grownBy w' row) (hne : some b ≠ row) : Rd t w' b s a m := by
  unfold Rd at *
  rw [hg.block b (Rd.lt h) hne, h]

theorem grown_refl (w : World) (row : Option Nat) : w.grownBy w row := ⟨rfl, rfl, rfl, Nat.le_refl _, fun _ _ _ => rfl⟩
theorem grown_set (w : World) (b o : Nat) (v : Value) : w.grownBy (w.setCell ⟨b, o, none⟩ v) (some b) :=
  ⟨rfl, rfl, rfl, by simp [World.setCell], fun k _ hk => Below.heap_setCell _ _ _ _ (fun e => hk (by rw [e]))⟩
theorem grown_drew {row : Option Nat} (h : w.grownBy w' row) : w.grownBy w'.drew row := ⟨h.os, h.tape, h.output, h.size, h.block⟩
theorem grown_drewN {row : Option Nat} (h : w.grownBy w' row) (n : Nat) : w.grownBy (w'.drewN n) row := ⟨h.os, h.tape, h.output, h.size, h.block⟩
theorem grown_trans {w'' : World} {row : Option Nat} (h : w.grownBy w' row) (k : w'.grownBy w'' row) : w.grownBy w'' row :=
  ⟨k.os.trans h.os, k.tape.trans h.tape, k.output.trans h.output, Nat.le_trans h.size k.size,
    fun i hi hr => (k.block i (Nat.lt_of_lt_of_le hi h.size) hr).trans (h.block i hi hr)⟩
theorem grown_alloc {row : Option Nat} (h : w.grownBy w' row) (o : Obj) : w.grownBy (w'.alloc o) row :=
  grown_trans h ⟨rfl, rfl, rfl, by simp, fun k hk _ => Below.heap_alloc _ _ _ hk⟩

/-- alive: at a place from which these bits are left -/
def Live (t : TypeId) (w : World) (b : Nat) (s : ByteArray) (l : List Bool) : Prop :=
  ∃ a, a ≤ 8 * s.size ∧ l = (bitsOf s.data.toList).drop a ∧ Rd t w b s a false

/-- something was not as it must be -/
def Dead (t : TypeId) (w : World) (b : Nat) (s : ByteArray) : Prop := ∃ a, a ≤ 1099511627776 ∧ Rd t w b s a true

def St (t : TypeId) (w : World) (b : Nat) (s : ByteArray) : Option (List Bool) → Prop
  | some l => Live t w b s l
  | none => Dead t w b s

theorem total_bits (s : ByteArray) : (bitsOf s.data.toList).length = 8 * s.size := by
  rw [bitsOf_length]; simp

/-- the next bit, as the code reads it -/
theorem bit_read (s : ByteArray) (a : Nat) (ha : a < 8 * s.size) (h8 : a / 8 < s.size) :
    bits .and .i64 ((s[a / 8].toNat : Int) / 2 ^ (7 - a % 8)) 1 = (((bitsOf s.data.toList)[a]'(by rw [total_bits]; exact ha)).toNat : Nat) := by
  have hl : a / 8 < s.data.toList.length := by simpa using h8
  have hlt := s[a / 8].toNat_lt
  have hd : s[a / 8].toNat / 2 ^ (7 - a % 8) ≤ s[a / 8].toNat := Nat.div_le_self _ _
  rw [bitsOf_get _ _ hl, show ((s[a / 8].toNat : Int) / 2 ^ (7 - a % 8)) = ((s[a / 8].toNat / 2 ^ (7 - a % 8) : Nat) : Int) by simp,
    bits_and_mask _ 1 (by omega) (by omega) 1 rfl]
  congr 1
  show s[a / 8].toNat / 2 ^ (7 - a % 8) % 2 ^ 1 = (s[a / 8].toNat.testBit (7 - a % 8)).toNat
  rw [Nat.pow_one, Nat.toNat_testBit]

end
end Go.Proofs.Ytncmgnmcggkhnaa

namespace Go.Proofs.Ytncmgnmcggkhnaa
open Go.RowKit

set_option maxHeartbeats 400000 in
theorem rbit_end (w : World) (b : Nat) (s : ByteArray) (a : Nat) (m : Bool) (hs : s.size ≤ 6000) (ha : 8 * s.size ≤ a) (_ha2 : a ≤ 1099511627776) (h : Rd 86 w b s a m) :
    Calls Try.prog 91 #[.pointer (some ⟨b, 0, none⟩)] w fun e w' => e = .returned (.int .i64 0) ∧ Rd 86 w' b s a true ∧ w.grownBy w' (some b) := by
  have c0 := h.c0
  have c1 := h.c1
  have c2 := h.c2
  have f2 := h.fz 2
  go_enter Try.func91, Try.ntmps91
  go_wp2
  go_quiet (fail)
  go_wp2
  go_ret
  exact ⟨rfl, (h.drewN _).set2 true, grown_trans (grown_drewN (grown_refl _ _) _) (grown_set _ _ _ _)⟩

set_option maxHeartbeats 400000 in
theorem rbit_next (w : World) (b : Nat) (s : ByteArray) (a : Nat) (hs : s.size ≤ 6000) (ha : a < 8 * s.size) (h : Rd 86 w b s a false) :
    Calls Try.prog 91 #[.pointer (some ⟨b, 0, none⟩)] w fun e w' => e = .returned (.int .i64 (((bitsOf s.data.toList)[a]'(by rw [total_bits]; exact ha)).toNat : Nat)) ∧ Rd 86 w' b s (a + 1) false ∧ w.grownBy w' (some b) := by
  have c0 := h.c0
  have c1 := h.c1
  have c2 := h.c2
  have f1 := h.fz 1
  have h8 : a / 8 < s.size := by omega
  have hbyte : s[a / 8].toNat < 256 := s[a / 8].toNat_lt
  have hq0 : (0 : Int) ≤ (a : Int) / 8 := by omega
  have hq1 : (a : Int) / 8 < (s.size : Int) := by omega
  have hq2 : IntKind.i64.wrap ((a : Int) / 8) = (a : Int) / 8 := by rw [IntKind.wrap_i64]; omega
  go_enter Try.func91, Try.ntmps91
  go_wp2
  go_quiet (fail)
  go_wp2
  go_quiet (fail)
  go_wp2
  go_ret
  exact ⟨ret_int (bit_read s a ha h8), (h.drewN _).set1 (a + 1), grown_trans (grown_drewN (grown_refl _ _) _) (grown_set _ _ _ _)⟩

theorem rbit_cons (w : World) (b : Nat) (s : ByteArray) (c : Bool) (l : List Bool) (hs : s.size ≤ 6000) (h : Live 86 w b s (c :: l)) :
    Calls Try.prog 91 #[.pointer (some ⟨b, 0, none⟩)] w fun e w' => e = .returned (.int .i64 (c.toNat : Nat)) ∧ Live 86 w' b s l ∧ w.grownBy w' (some b) := by
  obtain ⟨a, ha, hl, h⟩ := h
  have hlt : a < 8 * s.size := by
    rcases Nat.lt_or_ge a (8 * s.size) with h1 | h1
    · exact h1
    · rw [List.drop_of_length_le (by rw [total_bits]; exact h1)] at hl
      cases hl
  rw [List.drop_eq_getElem_cons (by rw [total_bits]; exact hlt)] at hl
  injection hl with hc hl
  refine (rbit_next w b s a hs hlt h).mono ?_
  rintro e w' ⟨rfl, h', hg⟩
  exact ⟨by rw [hc], ⟨a + 1, by omega, hl, h'⟩, hg⟩

theorem rbit_nil (w : World) (b : Nat) (s : ByteArray) (hs : s.size ≤ 6000) (h : Live 86 w b s []) :
    Calls Try.prog 91 #[.pointer (some ⟨b, 0, none⟩)] w fun e w' => e = .returned (.int .i64 0) ∧ Dead 86 w' b s ∧ w.grownBy w' (some b) := by
  obtain ⟨a, ha, hl, h⟩ := h
  have h0 := congrArg List.length hl
  rw [List.length_drop, total_bits, List.length_nil] at h0
  refine (rbit_end w b s a false hs (by omega) (by omega) h).mono ?_
  rintro e w' ⟨rfl, h', hg⟩
  exact ⟨rfl, ⟨a, by omega, h'⟩, hg⟩

/-- what a reader's state holds in its mark -/
theorem Live.mark {t : TypeId} {w : World} {b : Nat} {s : ByteArray} {l : List Bool} (h : Live t w b s l) : w.cell? ⟨b, 2, none⟩ = some (.bool false) := by
  obtain ⟨a, _, _, h⟩ := h
  exact h.c2
theorem Dead.mark {t : TypeId} {w : World} {b : Nat} {s : ByteArray} (h : Dead t w b s) : w.cell? ⟨b, 2, none⟩ = some (.bool true) := by
  obtain ⟨a, _, h⟩ := h
  exact h.c2

theorem val_take_succ (l : List Bool) (k : Nat) (h : k < l.length) : val (l.take (k + 1)) = 2 * val (l.take k) + (l[k]).toNat := by
  rw [List.take_succ_eq_append_getElem h, val_snoc]

theorem pow48 (k : Nat) (h : k ≤ 48) : 2 ^ k ≤ 281474976710656 := Nat.pow_le_pow_right (n := 2) (by omega) h

set_option maxHeartbeats 1000000 in
theorem rnum_live (w : World) (b : Nat) (s : ByteArray) (n : Nat) (l : List Bool) (hs : s.size ≤ 6000) (hn : n ≤ 48) (h : Live 86 w b s l) :
    Calls Try.prog 64 #[.pointer (some ⟨b, 0, none⟩), .int .i64 n] w fun e w' =>
      ∃ v : Nat, e = .returned (.int .i64 v) ∧ v < 2 ^ n ∧ w.grownBy w' (some b) ∧
        ((n ≤ l.length ∧ v = val (l.take n) ∧ Live 86 w' b s (l.drop n)) ∨ (l.length < n ∧ Dead 86 w' b s)) := by
  go_enter Try.func64, Try.ntmps64
  go_wp2
  go_loopw [5, 6] (fun o i wr => ∃ k v : Nat, k ≤ n ∧ i = .int .i64 k ∧ o = .int .i64 v ∧ v < 2 ^ k ∧ w.grownBy wr (some b) ∧
      ((k ≤ l.length ∧ v = val (l.take k) ∧ Live 86 wr b s (l.drop k)) ∨ (l.length < n ∧ Dead 86 wr b s)))
    (fun _ i _ => n - (intOf i).toNat)
  case atStart => exact ⟨0, 0, Nat.zero_le _, rfl, rfl, by decide, grown_refl _ _, .inl ⟨Nat.zero_le _, rfl, h⟩⟩
  case round =>
    obtain ⟨k, v, hk, rfl, rfl, hv, hg, hst⟩ := hrel
    have hp := pow48 k (by omega)
    by_cases hlt : k < n
    · rcases hst with ⟨hkl, hval, hlive⟩ | ⟨hsh, hdead⟩
      · have hm := hlive.mark
        have HV : Hid (v = val (l.take k)) := hval
        clear hval
        rcases Nat.lt_or_ge k l.length with hk2 | hk2
        · rw [List.drop_eq_getElem_cons hk2] at hlive
          have hone : (l[k]).toNat ≤ 1 := Bool.toNat_le _
          go_wp2_with (go_at_call 91; refine (rbit_cons _ _ _ _ _ hs hlive).mono ?_; rintro e w' ⟨rfl, hlive', hg'⟩)
          go_roundw
          case rel => exact ⟨k + 1, 2 * v + (l[k]).toNat, by omega, by go_num, by go_num, by rw [Nat.pow_succ]; omega, grown_trans hg hg', .inl ⟨by omega, by rw [val_take_succ l k hk2, HV.out], hlive'⟩⟩
          case measure => simp [intOf]; omega
        · rw [List.drop_of_length_le hk2] at hlive
          go_wp2_with (go_at_call 91; refine (rbit_nil _ _ _ hs hlive).mono ?_; rintro e w' ⟨rfl, hdead, hg'⟩)
          go_roundw
          case rel => exact ⟨k + 1, 2 * v, by omega, by go_num, by go_num, by rw [Nat.pow_succ]; omega, grown_trans hg hg', .inr ⟨by omega, hdead⟩⟩
          case measure => simp [intOf]; omega
      · have hm := hdead.mark
        go_wp2
        go_ret
        exact ⟨v, rfl, Nat.lt_of_lt_of_le hv (Nat.pow_le_pow_right (by omega) hk), hg, .inr ⟨hsh, hdead⟩⟩
    · obtain rfl : k = n := by omega
      go_wp2
      go_ret
      exact ⟨v, rfl, hv, hg, hst⟩
end Go.Proofs.Ytncmgnmcggkhnaa

namespace Go.Proofs.Ytncmgnmcggkhnaa
open Go.RowKit

/-- how a reading ends: dead stays dead; else as the parser says -/
def Ends {α : Type} (p : P α) (σ : Option (List Bool)) (x : α) (σ' : Option (List Bool)) : Prop :=
  match σ with
  | none => σ' = none
  | some l => match p l with
    | some (y, r) => x = y ∧ σ' = some r
    | none => σ' = none

theorem Ends.bind {α β : Type} {p : P α} {q : α → P β} {σ σ' σ'' : Option (List Bool)} {x : α} {y : β} (h : Ends p σ x σ') (k : Ends (q x) σ' y σ'') :
    Ends (fun l => (p l).bind fun (x, r) => q x r) σ y σ'' := by
  unfold Ends at *
  cases σ with
  | none => subst h; exact k
  | some l =>
    simp only at h ⊢
    cases hp : p l with
    | none => rw [hp] at h; subst h; exact k
    | some xr =>
      obtain ⟨x', r⟩ := xr
      rw [hp] at h
      obtain ⟨rfl, rfl⟩ := h
      exact k

theorem Ends.map {α β : Type} {p : P α} {f : α → β} {σ σ' : Option (List Bool)} {x : α} (h : Ends p σ x σ') :
    Ends (fun l => (p l).map fun (x, r) => (f x, r)) σ (f x) σ' := by
  unfold Ends at *
  cases σ with
  | none => exact h
  | some l =>
    simp only at h ⊢
    cases hp : p l with
    | none => rw [hp] at h; exact h
    | some xr =>
      obtain ⟨x', r⟩ := xr
      rw [hp] at h
      obtain ⟨rfl, rfl⟩ := h
      exact ⟨rfl, rfl⟩

theorem Ends.fail {α : Type} {p : P α} {σ : Option (List Bool)} {x : α} (h : ∀ l, σ = some l → p l = none) : Ends p σ x none := by
  unfold Ends
  cases σ with
  | none => rfl
  | some l =>
    show match p l with | some (y, r) => x = y ∧ none = some r | none => none = none
    rw [h l rfl]

theorem Ends.dead {α : Type} {p : P α} {x : α} : Ends p none x none := rfl

theorem Ends.dead_any {α : Type} {p : P α} {σ : Option (List Bool)} {x : α} (y : α) (h : Ends p σ x none) : Ends p σ y none := by
  unfold Ends at *
  cases σ with
  | none => rfl
  | some l =>
    show match p l with | some (z, r) => y = z ∧ none = some r | none => none = none
    have h' : match p l with | some (z, r) => x = z ∧ none = some r | none => none = none := h
    cases hp : p l with
    | none => rfl
    | some xr =>
      obtain ⟨x', r⟩ := xr
      rw [hp] at h'
      cases h'.2

theorem St.kept {t : TypeId} {w w' : World} {b : Nat} {s : ByteArray} {σ : Option (List Bool)} {row : Option Nat} (h : St t w b s σ) (hg : w.grownBy w' row) (hne : some b ≠ row) : St t w' b s σ := by
  cases σ with
  | none => obtain ⟨a, ha, h⟩ := h; exact ⟨a, ha, h.kept hg hne⟩
  | some l => obtain ⟨a, ha, hl, h⟩ := h; exact ⟨a, ha, hl, h.kept hg hne⟩

theorem St.lt {t : TypeId} {w : World} {b : Nat} {s : ByteArray} {σ : Option (List Bool)} (h : St t w b s σ) : b < w.heap.size := by
  cases σ with
  | none => obtain ⟨a, ha, h⟩ := h; exact h.lt
  | some l => obtain ⟨a, ha, hl, h⟩ := h; exact h.lt

/-- the mark, in one form -/
theorem St.mark {t : TypeId} {w : World} {b : Nat} {s : ByteArray} {σ : Option (List Bool)} (h : St t w b s σ) : w.cell? ⟨b, 2, none⟩ = some (.bool σ.isNone) := by
  cases σ with
  | none => exact Dead.mark h
  | some l => exact Live.mark h

theorem St.fz {t : TypeId} {w : World} {b : Nat} {s : ByteArray} {σ : Option (List Bool)} (h : St t w b s σ) (i : Nat) : w.frozen? ⟨b, i, none⟩ = false := by
  cases σ with
  | none => obtain ⟨a, ha, h⟩ := h; exact h.fz i
  | some l => obtain ⟨a, ha, hl, h⟩ := h; exact h.fz i

theorem St.str {t : TypeId} {w : World} {b : Nat} {s : ByteArray} {σ : Option (List Bool)} (h : St t w b s σ) : w.cell? ⟨b, 0, none⟩ = some (.string s) := by
  cases σ with
  | none => obtain ⟨a, ha, h⟩ := h; exact h.c0
  | some l => obtain ⟨a, ha, hl, h⟩ := h; exact h.c0

/-- the mark is set -/
theorem St.kill {t : TypeId} {w : World} {b : Nat} {s : ByteArray} {σ : Option (List Bool)} (hs : s.size ≤ 6000) (h : St t w b s σ) : St t (w.setCell ⟨b, 2, none⟩ (.bool true)) b s none := by
  cases σ with
  | none => obtain ⟨a, ha, h⟩ := h; exact ⟨a, ha, h.set2 true⟩
  | some l => obtain ⟨a, ha, hl, h⟩ := h; exact ⟨a, by omega, h.set2 true⟩

/-- the mark is laid as it was -/
theorem St.same {t : TypeId} {w : World} {b : Nat} {s : ByteArray} {l : List Bool} (h : St t w b s (some l)) : St t (w.setCell ⟨b, 2, none⟩ (.bool false)) b s (some l) := by
  obtain ⟨a, ha, hl, h⟩ := h
  exact ⟨a, ha, hl, h.set2 false⟩

theorem St.drewN {t : TypeId} {w : World} {b : Nat} {s : ByteArray} {σ : Option (List Bool)} (h : St t w b s σ) (n : Nat) : St t (w.drewN n) b s σ :=
  h.kept (grown_drewN (grown_refl _ none) n) (by simp)

set_option maxHeartbeats 400000 in
theorem rnum_dead (w : World) (b : Nat) (s : ByteArray) (n : Nat) (hn : n ≤ 48) (h : Dead 86 w b s) :
    Calls Try.prog 64 #[.pointer (some ⟨b, 0, none⟩), .int .i64 n] w fun e w' => e = .returned (.int .i64 0) ∧ w' = w := by
  have hm := h.mark
  by_cases h0 : 0 < n
  · go_enter Try.func64, Try.ntmps64
    go_wp2
    go_loop [5, 6] (fun o i => o = .int .i64 0 ∧ i = .int .i64 0) (fun _ _ => 0)
    case atStart => exact ⟨rfl, rfl⟩
    case round =>
      obtain ⟨rfl, rfl⟩ := hrel
      go_wp2
      go_ret
      exact ⟨rfl, rfl⟩
  · obtain rfl : n = 0 := by omega
    go_enter Try.func64, Try.ntmps64
    go_wp2
    go_loop [5, 6] (fun o i => o = .int .i64 0 ∧ i = .int .i64 0) (fun _ _ => 0)
    case atStart => exact ⟨rfl, rfl⟩
    case round =>
      obtain ⟨rfl, rfl⟩ := hrel
      go_wp2
      go_ret
      exact ⟨rfl, rfl⟩

theorem rnum (w : World) (b : Nat) (s : ByteArray) (n : Nat) (σ : Option (List Bool)) (hs : s.size ≤ 6000) (hn : n ≤ 48) (h : St 86 w b s σ) :
    Calls Try.prog 64 #[.pointer (some ⟨b, 0, none⟩), .int .i64 n] w fun e w' =>
      ∃ (v : Nat) (σ' : Option (List Bool)), e = .returned (.int .i64 v) ∧ v < 2 ^ n ∧ w.grownBy w' (some b) ∧ St 86 w' b s σ' ∧ Ends (pNum n) σ v σ' := by
  cases σ with
  | none =>
    refine (rnum_dead w b s n hn h).mono ?_
    rintro e w' ⟨rfl, rfl⟩
    exact ⟨0, none, rfl, Nat.two_pow_pos _, grown_refl _ _, h, rfl⟩
  | some l =>
    refine (rnum_live w b s n l hs hn h).mono ?_
    rintro e w' ⟨v, rfl, hv, hg, ⟨hl, hval, hlive⟩ | ⟨hl, hdead⟩⟩
    · refine ⟨v, some (l.drop n), rfl, hv, hg, hlive, ?_⟩
      simp [Ends, pNum, hl, hval]
    · refine ⟨v, none, rfl, hv, hg, hdead, ?_⟩
      simp [Ends, pNum, show ¬ n ≤ l.length by omega]

theorem must_yes {σ σ' : Option (List Bool)} {n v : Nat} {want : Nat} (h : Ends (pNum n) σ v σ') (hv : v = want) : Ends (pMust n want) σ () σ' := by
  refine Ends.bind h (q := fun x r => if x = want then some ((), r) else none) ?_
  unfold Ends
  cases σ' with
  | none => rfl
  | some l => simp [hv]

theorem must_no {σ σ' : Option (List Bool)} {n v : Nat} {want : Nat} (h : Ends (pNum n) σ v σ') (hv : v ≠ want) : Ends (pMust n want) σ () none := by
  refine Ends.bind h (q := fun x r => if x = want then some ((), r) else none) ?_
  unfold Ends
  cases σ' with
  | none => rfl
  | some l => simp [hv]

set_option maxHeartbeats 400000 in
theorem rmust (w : World) (b : Nat) (s : ByteArray) (n want : Nat) (σ : Option (List Bool)) (hs : s.size ≤ 6000) (hn : n ≤ 48) (_hwant : want ≤ 65536) (h : St 86 w b s σ) :
    Calls Try.prog 63 #[.pointer (some ⟨b, 0, none⟩), .int .i64 n, .int .i64 want] w fun e w' =>
      ∃ σ' : Option (List Bool), e = .returned (.tuple #[]) ∧ w.grownBy w' (some b) ∧ St 86 w' b s σ' ∧ Ends (pMust n want) σ () σ' := by
  go_enter Try.func63, Try.ntmps63
  go_wp2_with fail
  refine (rnum _ _ _ _ _ hs hn h).mono ?_
  rintro e w' ⟨v, σ', rfl, hv, hg, hst, hends⟩
  have hf := hst.fz 2
  have hm := hst.mark
  rcases σ' with _ | l'
  · have hm' : w'.cell? ⟨b, 2, none⟩ = some (.bool true) := hm
    clear hm
    go_wp2
    go_end0
    exact ⟨none, rfl, grown_trans hg (grown_set _ _ _ _), hst.kill hs, by by_cases hw : v = want; exact must_yes hends hw; exact must_no hends hw⟩
  · have hm' : w'.cell? ⟨b, 2, none⟩ = some (.bool false) := hm
    clear hm
    by_cases hw : v = want
    · go_wp2
      go_end0
      exact ⟨some l', rfl, grown_trans hg (grown_set _ _ _ _), hst.same, must_yes hends hw⟩
    · have hne : ((v : Int) != (want : Int)) = true := by rw [ne_cast]; simpa using hw
      go_wp2
      go_end0
      exact ⟨none, rfl, grown_trans hg (grown_set _ _ _ _), hst.kill hs, must_no hends hw⟩

theorem signed_ends {σ σ' : Option (List Bool)} {n v : Nat} (h : Ends (pNum n) σ v σ') : Ends (pSigned n) σ (sign n v) σ' := Ends.map h

theorem sign_zero (v : Nat) (h : v < 2 ^ 0) : sign 0 v = 0 := by
  have : v = 0 := by simpa using h
  subst this
  rfl

theorem sign_neg (n v : Nat) (h0 : 0 < n) (h : 2 ^ (n - 1) ≤ v) : sign n v = (v : Int) - 2 ^ n := by
  unfold sign; rw [if_pos ⟨h0, h⟩]
theorem sign_pos (n v : Nat) (h : v < 2 ^ (n - 1)) : sign n v = v := by
  unfold sign; rw [if_neg (by omega)]

theorem pow31 (k : Nat) (h : k ≤ 32) : 2 ^ k ≤ 4294967296 := Nat.pow_le_pow_right (n := 2) (by omega) h

theorem sign_bounds (n v : Nat) (hn : n ≤ 32) (hv : v < 2 ^ n) : -2147483648 ≤ sign n v ∧ sign n v ≤ 2147483648 := by
  rcases Nat.eq_zero_or_pos n with rfl | h0
  · rw [sign_zero v hv]; omega
  · obtain ⟨m, rfl⟩ : ∃ m, n = m + 1 := ⟨n - 1, by omega⟩
    have hp : 2 ^ m ≤ 2147483648 := Nat.pow_le_pow_right (n := 2) (j := 31) (by omega) (by omega)
    have e : 2 ^ (m + 1) = 2 ^ m * 2 := Nat.pow_succ 2 m
    rcases Nat.lt_or_ge v (2 ^ m) with h | h
    · rw [sign_pos _ _ h]; omega
    · rw [sign_neg _ _ h0 h]
      have e2 : ((2 : Int) ^ (m + 1)) = ((2 ^ (m + 1) : Nat) : Int) := by simp
      rw [e2]
      omega

theorem ipow (n : Nat) (h : n ≤ 32) : (0 : Int) < 2 ^ n ∧ (2 : Int) ^ n ≤ 4294967296 := by
  have h1 := pow31 n h
  have h2 := Nat.two_pow_pos n
  rw [show (2 : Int) ^ n = ((2 ^ n : Nat) : Int) by simp]
  omega

set_option maxHeartbeats 400000 in
theorem rsigned (w : World) (b : Nat) (s : ByteArray) (n : Nat) (σ : Option (List Bool)) (hs : s.size ≤ 6000) (hn : n ≤ 32) (h : St 86 w b s σ) :
    Calls Try.prog 93 #[.pointer (some ⟨b, 0, none⟩), .int .i64 n] w fun e w' =>
      ∃ (v : Nat) (σ' : Option (List Bool)), e = .returned (.int .i64 (sign n v)) ∧ v < 2 ^ n ∧ w.grownBy w' (some b) ∧ St 86 w' b s σ' ∧ Ends (pSigned n) σ (sign n v) σ' := by
  go_enter Try.func93, Try.ntmps93
  go_wp2_with fail
  refine (rnum _ _ _ _ _ hs (by omega) h).mono ?_
  rintro e w' ⟨v, σ', rfl, hv, hg, hst, hends⟩
  rcases Nat.eq_zero_or_pos n with rfl | h0
  · go_wp2
    go_ret
    exact ⟨v, σ', ret_int (by rw [sign_zero v hv]; exact congrArg Int.ofNat (show v = 0 by simpa using hv)), hv, hg, hst, signed_ends hends⟩
  · have q1 := ipow (n - 1) (by omega)
    have q2 := ipow n (by omega)
    have q3 : (v : Int) < 2 ^ n := by rw [show (2 : Int) ^ n = ((2 ^ n : Nat) : Int) by simp]; omega
    by_cases hge : (2 : Int) ^ (n - 1) ≤ v
    · go_wp2
      go_ret
      exact ⟨v, σ', ret_int (by rw [sign_neg n v h0 (by rw [show (2 : Int) ^ (n - 1) = ((2 ^ (n - 1) : Nat) : Int) by simp] at hge; omega)]), hv, hg, hst, signed_ends hends⟩
    · go_wp2
      go_ret
      exact ⟨v, σ', ret_int (by rw [sign_pos n v (by rw [show (2 : Int) ^ (n - 1) = ((2 ^ (n - 1) : Nat) : Int) by simp] at hge; omega)]), hv, hg, hst, signed_ends hends⟩

theorem noughts_le : ∀ (l : List Bool) (q : Nat) (r : List Bool), pNoughts l = some (q, r) → q + r.length < l.length
  | [], _, _, h => by cases h
  | true :: l, q, r, h => by
    have h' : some (0, l) = some (q, r) := h
    injection h' with h'
    injection h' with h1 h2
    subst h1 h2
    simp
  | false :: l, q, r, h => by
    have h' : (pNoughts l).map (fun (q, r) => (q + 1, r)) = some (q, r) := h
    cases hp : pNoughts l with
    | none => rw [hp] at h'; cases h'
    | some x =>
      obtain ⟨q', r'⟩ := x
      rw [hp] at h'
      injection h' with h'
      injection h' with h1 h2
      subst h1 h2
      have := noughts_le l q' r' hp
      simp
      omega

/-- so many bits 0 have been read -/
theorem noughts_step (l l' : List Bool) (k : Nat) (h : pNoughts l = (pNoughts l').map fun (q, r) => (q + k, r)) (c : Bool) (m : List Bool) (e : l' = c :: m) :
    pNoughts l = if c then some (k, m) else (pNoughts m).map fun (q, r) => (q + (k + 1), r) := by
  subst e
  cases c with
  | true =>
    rw [h]
    show some (0 + k, m) = _
    simp
  | false =>
    rw [h]
    show Option.map _ (Option.map _ (pNoughts m)) = _
    rw [Option.map_map]
    congr 1
    funext x
    obtain ⟨q, r⟩ := x
    simp
    omega

theorem Live.length {t : TypeId} {w : World} {b : Nat} {s : ByteArray} {l : List Bool} (h : Live t w b s l) : l.length ≤ 8 * s.size := by
  obtain ⟨a, ha, hl, _⟩ := h
  rw [hl, List.length_drop, total_bits]
  omega

set_option maxHeartbeats 400000 in
theorem rnoughts (w : World) (b : Nat) (s : ByteArray) (σ : Option (List Bool)) (hs : s.size ≤ 6000) (h : St 86 w b s σ) :
    Calls Try.prog 92 #[.pointer (some ⟨b, 0, none⟩)] w fun e w' =>
      ∃ (q : Nat) (σ' : Option (List Bool)), e = .returned (.int .i64 q) ∧ q ≤ 48000 ∧ w.grownBy w' (some b) ∧ St 86 w' b s σ' ∧ Ends pNoughts σ q σ' := by
  go_enter Try.func92, Try.ntmps92
  go_wp2
  go_loopw [3] (fun i wr => ∃ (k : Nat) (σ' : Option (List Bool)), i = .int .i64 k ∧ k ≤ 48001 ∧ w.grownBy wr (some b) ∧ St 86 wr b s σ' ∧
      ((∃ l l' : List Bool, σ = some l ∧ σ' = some l' ∧ k + l'.length ≤ 48000 ∧ pNoughts l = (pNoughts l').map fun (q, r) => (q + k, r)) ∨ (σ' = none ∧ Ends pNoughts σ 0 none)))
    (fun i _ => 48002 - (intOf i).toNat)
  case atStart =>
    refine ⟨0, σ, rfl, by omega, grown_refl _ _, h, ?_⟩
    cases σ with
    | none => exact .inr ⟨rfl, rfl⟩
    | some l =>
      refine .inl ⟨l, l, rfl, rfl, ?_, ?_⟩
      · have := Live.length h; omega
      · cases pNoughts l <;> rfl
  case round =>
    obtain ⟨k, σ', rfl, hk, hg, hst, ⟨l, l', rfl, rfl, hkl, hno⟩ | ⟨rfl, hends⟩⟩ := hrel
    · have hm : wr.cell? ⟨b, 2, none⟩ = some (.bool false) := Live.mark hst
      have HNO : Hid (pNoughts l = (pNoughts l').map fun (q, r) => (q + k, r)) := hno
      clear hno
      rcases l' with _ | ⟨c, m⟩
      · go_wp2_with (go_at_call 91; refine (rbit_nil _ _ _ hs hst).mono ?_; rintro e w' ⟨rfl, hdead, hg'⟩)
        go_roundw
        case rel => exact ⟨k + 1, none, by go_num, by simp at hkl; omega, grown_trans hg hg', hdead, .inr ⟨rfl, Ends.fail (fun l0 e => by cases e; rw [HNO.out]; rfl)⟩⟩
        case measure => simp at hkl; simp [intOf]; omega
      · simp only [List.length_cons] at hkl
        rcases c with _ | _
        · go_wp2_with (go_at_call 91; refine (rbit_cons _ _ _ _ _ hs hst).mono ?_; rintro e w' ⟨rfl, hlive, hg'⟩)
          go_roundw
          case rel => exact ⟨k + 1, some m, by go_num, by omega, grown_trans hg hg', hlive, .inl ⟨l, m, rfl, rfl, by omega, noughts_step l _ k HNO.out false m rfl⟩⟩
          case measure => simp [intOf]; omega
        · go_wp2_with (go_at_call 91; refine (rbit_cons _ _ _ _ _ hs hst).mono ?_; rintro e w' ⟨rfl, hlive, hg'⟩)
          go_ret
          refine ⟨k, some m, rfl, by omega, grown_trans hg hg', hlive, ?_⟩
          have := noughts_step l _ k HNO.out true m rfl
          simp [Ends, this]
    · have hm : wr.cell? ⟨b, 2, none⟩ = some (.bool true) := Dead.mark hst
      go_wp2
      go_ret
      exact ⟨0, none, rfl, by omega, hg, hst, hends⟩
end Go.Proofs.Ytncmgnmcggkhnaa
