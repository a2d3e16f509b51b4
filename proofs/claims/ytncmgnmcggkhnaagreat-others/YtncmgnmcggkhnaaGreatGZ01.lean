import Derived.Test.YtncmgnmcggkhnaaGreatGZ00
import Derived.Deep.QuietTactic
import Derived.BigQuiet
import Derived.Deep.RegionWith
namespace Go.Proofs.YtncmgnmcggkhnaaGreat
open Go.RowKit

theorem ne_cast (a b : Nat) : ((a : Int) != (b : Int)) = decide (a ≠ b) := by
  rw [Bool.eq_iff_iff, bne_iff_ne, decide_eq_true_eq]
  omega

theorem byte_start (w g r b : Nat) (hb : b < 256) : dblN w g 8 (r ^^^ (b % 2 ^ 8) * 2 ^ (w - 8)) = byteStep w g r b := by
  rw [Nat.mod_eq_of_lt (show b < 2 ^ 8 from hb)]
  rfl

theorem rest_at (w g r b m : Nat) (hm : m ≤ w) (hm0 : 0 < m) (hr : r < 2 ^ w) :
    dblN w g m (r ^^^ (b % 2 ^ m) * 2 ^ (w - m)) = dblN w g (m - 1) (bitStep w g r (b / 2 ^ (m - 1) % 2) ^^^ (b % 2 ^ (m - 1)) * 2 ^ (w - (m - 1))) := by
  obtain ⟨m', rfl⟩ : ∃ m', m = m' + 1 := ⟨m - 1, by omega⟩
  have h := rest_step w g r (b % 2 ^ (m' + 1)) m' (by omega) hr (Nat.mod_lt _ (Nat.two_pow_pos _))
  rw [Nat.mod_mod_of_dvd _ (Nat.pow_dvd_pow 2 (Nat.le_succ m')), Nat.pow_succ, Nat.mod_mul_right_div_self, ← Nat.pow_succ] at h
  exact h

theorem refTest8 (r b m : Nat) (hr : r < 256) (hb : b < 256) :
    (bits .and .i64 ((r : Int) / 128) 1 != bits .and .i64 ((b : Int) / 2 ^ (m - 1)) 1) = decide (r / 2 ^ (8 - 1) % 2 ≠ b / 2 ^ (m - 1) % 2) := by
  have hd : b / 2 ^ (m - 1) ≤ b := Nat.div_le_self _ _
  rw [show ((r : Int) / 128) = ((r / 128 : Nat) : Int) by omega, show ((b : Int) / 2 ^ (m - 1)) = ((b / 2 ^ (m - 1) : Nat) : Int) by simp,
    bits_and_mask _ 1 (by omega) (by omega) 1 rfl, bits_and_mask _ 1 (by omega) (by omega) 1 rfl, ne_cast]

theorem refYes8 (r b m : Nat) (hr : r < 256) (hb : b < 256)
    (h : (bits .and .i64 ((r : Int) / 128) 1 != bits .and .i64 ((b : Int) / 2 ^ (m - 1)) 1) = true) :
    bits .xor .i64 ((r : Int) * 2 % 256) 7 = (bitStep 8 7 r (b / 2 ^ (m - 1) % 2) : Nat) := by
  rw [refTest8 r b m hr hb, decide_eq_true_eq] at h
  rw [show ((r : Int) * 2 % 256) = ((r * 2 % 256 : Nat) : Int) by omega, show (7 : Int) = ((7 : Nat) : Int) from rfl, bits_xor_nat _ _ (by omega) (by omega)]
  unfold bitStep
  rw [if_pos h]

theorem refNo8 (r b m : Nat) (hr : r < 256) (hb : b < 256)
    (h : (bits .and .i64 ((r : Int) / 128) 1 != bits .and .i64 ((b : Int) / 2 ^ (m - 1)) 1) = false) :
    ((r : Int) * 2 % 256) = (bitStep 8 7 r (b / 2 ^ (m - 1) % 2) : Nat) := by
  rw [refTest8 r b m hr hb, decide_eq_false_iff_not] at h
  rw [show ((r : Int) * 2 % 256) = ((r * 2 % 256 : Nat) : Int) by omega]
  unfold bitStep
  rw [if_neg h]

theorem refEnd8 (s : ByteArray) (k r r0 : Nat) (hlt : k < s.size) (h0 : Hid (r0 = crc 8 7 (s.data.toList.take k)))
    (h : Hid (dblN 8 7 0 (r ^^^ (s[k].toNat % 2 ^ 0) * 2 ^ (8 - 0)) = byteStep 8 7 r0 s[k].toNat)) :
    r = crc 8 7 (s.data.toList.take (k + 1)) := by
  rw [take_snoc s k hlt, crc_snoc, ← h0.out, ← h.out]
  show _ = r ^^^ (s[k].toNat % 1) * _
  rw [Nat.mod_one, Nat.zero_mul, Nat.xor_zero]

theorem refTest16 (r b m : Nat) (hr : r < 65536) (hb : b < 256) :
    (bits .and .i64 ((r : Int) / 32768) 1 != bits .and .i64 ((b : Int) / 2 ^ (m - 1)) 1) = decide (r / 2 ^ (16 - 1) % 2 ≠ b / 2 ^ (m - 1) % 2) := by
  have hd : b / 2 ^ (m - 1) ≤ b := Nat.div_le_self _ _
  rw [show ((r : Int) / 32768) = ((r / 32768 : Nat) : Int) by omega, show ((b : Int) / 2 ^ (m - 1)) = ((b / 2 ^ (m - 1) : Nat) : Int) by simp,
    bits_and_mask _ 1 (by omega) (by omega) 1 rfl, bits_and_mask _ 1 (by omega) (by omega) 1 rfl, ne_cast]

theorem refYes16 (r b m : Nat) (hr : r < 65536) (hb : b < 256)
    (h : (bits .and .i64 ((r : Int) / 32768) 1 != bits .and .i64 ((b : Int) / 2 ^ (m - 1)) 1) = true) :
    bits .xor .i64 ((r : Int) * 2 % 65536) 32773 = (bitStep 16 32773 r (b / 2 ^ (m - 1) % 2) : Nat) := by
  rw [refTest16 r b m hr hb, decide_eq_true_eq] at h
  rw [show ((r : Int) * 2 % 65536) = ((r * 2 % 65536 : Nat) : Int) by omega, show (32773 : Int) = ((32773 : Nat) : Int) from rfl, bits_xor_nat _ _ (by omega) (by omega)]
  unfold bitStep
  rw [if_pos h]

theorem refNo16 (r b m : Nat) (hr : r < 65536) (hb : b < 256)
    (h : (bits .and .i64 ((r : Int) / 32768) 1 != bits .and .i64 ((b : Int) / 2 ^ (m - 1)) 1) = false) :
    ((r : Int) * 2 % 65536) = (bitStep 16 32773 r (b / 2 ^ (m - 1) % 2) : Nat) := by
  rw [refTest16 r b m hr hb, decide_eq_false_iff_not] at h
  rw [show ((r : Int) * 2 % 65536) = ((r * 2 % 65536 : Nat) : Int) by omega]
  unfold bitStep
  rw [if_neg h]

theorem refEnd16 (s : ByteArray) (k r r0 : Nat) (hlt : k < s.size) (h0 : Hid (r0 = crc 16 32773 (s.data.toList.take k)))
    (h : Hid (dblN 16 32773 0 (r ^^^ (s[k].toNat % 2 ^ 0) * 2 ^ (16 - 0)) = byteStep 16 32773 r0 s[k].toNat)) :
    r = crc 16 32773 (s.data.toList.take (k + 1)) := by
  rw [take_snoc s k hlt, crc_snoc, ← h0.out, ← h.out]
  show _ = r ^^^ (s[k].toNat % 1) * _
  rw [Nat.mod_one, Nat.zero_mul, Nat.xor_zero]

end Go.Proofs.YtncmgnmcggkhnaaGreat

namespace Go.Proofs.YtncmgnmcggkhnaaGreat
open Go.RowKit

set_option maxHeartbeats 400000 in
theorem crc8_any (s : ByteArray) (w : World) (hs : s.size ≤ maxLen) :
    Calls Tryz.prog 38 #[.string s] w fun e w' => e = .returned (.int .i64 (crc 8 7 s.data.toList : Nat)) ∧ w' = w := by
  go_enter Tryz.func38, Tryz.ntmps38
  go_wp2_with (go_at_call 57; refine (sum8 _ _ hs).mono ?_; rintro e w' ⟨rfl, rfl⟩)
  go_ret
  exact ⟨rfl, rfl⟩

set_option maxHeartbeats 400000 in
theorem crc16_any (s : ByteArray) (w : World) (hs : s.size ≤ maxLen) :
    Calls Tryz.prog 42 #[.string s] w fun e w' => e = .returned (.int .i64 (crc 16 32773 s.data.toList : Nat)) ∧ w' = w := by
  go_enter Tryz.func42, Tryz.ntmps42
  go_wp2_with (go_at_call 57; refine (sum16 _ _ hs).mono ?_; rintro e w' ⟨rfl, rfl⟩)
  go_ret
  exact ⟨rfl, rfl⟩

end Go.Proofs.YtncmgnmcggkhnaaGreat

/-
  A reader in memory: a block of three cells (the bytes, the place in bits, a mark), and what its bits still are.
-/
namespace Go.Proofs.YtncmgnmcggkhnaaGreat
open Go.RowKit

def Rd (t : TypeId) (w : World) (b : Nat) (s : ByteArray) (a : Nat) (m : Bool) : Prop :=
  w.heap[b]? = some (.cells #[.string s, .int .i64 a, .bool m] t (0, 0))

section
variable {t : TypeId} {w w' : World} {b : Nat} {s : ByteArray} {a : Nat} {m : Bool}

theorem Rd.lt (h : Rd t w b s a m) : b < w.heap.size := by
  rcases Nat.lt_or_ge b w.heap.size with h1 | h1
  · exact h1
  · unfold Rd at h
    rw [Array.getElem?_eq_none h1] at h
    cases h

theorem Rd.c0 (h : Rd t w b s a m) : w.cell? ⟨b, 0, none⟩ = some (.string s) := by
  unfold Rd at h; simp [World.cell?, h]
theorem Rd.c1 (h : Rd t w b s a m) : w.cell? ⟨b, 1, none⟩ = some (.int .i64 a) := by
  unfold Rd at h; simp [World.cell?, h]
theorem Rd.c2 (h : Rd t w b s a m) : w.cell? ⟨b, 2, none⟩ = some (.bool m) := by
  unfold Rd at h; simp [World.cell?, h]
theorem Rd.fz (h : Rd t w b s a m) (i : Nat) : w.frozen? ⟨b, i, none⟩ = false := by
  unfold Rd at h; simp [World.frozen?, h]

theorem heap_setCell_own (w : World) (b o : Nat) (v : Value) (c : Array Value) (t : TypeId) (f : Nat × Nat) (h : w.heap[b]? = some (.cells c t f)) :
    (w.setCell ⟨b, o, none⟩ v).heap[b]? = some (.cells (c.setIfInBounds o v) t f) := by
  simp only [World.setCell, Array.getElem?_modify, if_pos, h]
  rfl

theorem Rd.set1 (h : Rd t w b s a m) (a' : Nat) : Rd t (w.setCell ⟨b, 1, none⟩ (.int .i64 a')) b s a' m := by
  unfold Rd at h ⊢
  rw [heap_setCell_own w b 1 _ _ _ _ h]
  rfl
theorem Rd.set2 (h : Rd t w b s a m) (m' : Bool) : Rd t (w.setCell ⟨b, 2, none⟩ (.bool m')) b s a m' := by
  unfold Rd at h ⊢
  rw [heap_setCell_own w b 2 _ _ _ _ h]
  rfl
theorem Rd.drew (h : Rd t w b s a m) : Rd t w.drew b s a m := h
theorem Rd.drewN (h : Rd t w b s a m) (n : Nat) : Rd t (w.drewN n) b s a m := by
  unfold Rd at h ⊢
  rw [← h]
  rfl
theorem Rd.kept {row : Option Nat} (h : Rd t w b s a m) (hg : w.grownBy w' row) (hne : some b ≠ row) : Rd t w' b s a m := by
  unfold Rd at *
  rw [hg.block b (Rd.lt h) hne, h]

theorem grown_refl (w : World) (row : Option Nat) : w.grownBy w row := ⟨rfl, rfl, rfl, Nat.le_refl _, fun _ _ _ => rfl⟩
theorem grown_set (w : World) (b o : Nat) (v : Value) : w.grownBy (w.setCell ⟨b, o, none⟩ v) (some b) :=
  ⟨rfl, rfl, rfl, by simp [World.setCell], fun k _ hk => Below.heap_setCell _ _ _ _ (fun e => hk (by rw [e]))⟩
theorem grown_drew {row : Option Nat} (h : w.grownBy w' row) : w.grownBy w'.drew row := ⟨h.os, h.tape, h.output, h.size, h.block⟩
theorem grown_drewN {row : Option Nat} (h : w.grownBy w' row) (n : Nat) : w.grownBy (w'.drewN n) row := ⟨h.os, h.tape, h.output, h.size, h.block⟩
theorem grown_trans {w'' : World} {row : Option Nat} (h : w.grownBy w' row) (k : w'.grownBy w'' row) : w.grownBy w'' row :=
  ⟨k.os.trans h.os, k.tape.trans h.tape, k.output.trans h.output, Nat.le_trans h.size k.size,
    fun i hi hr => (k.block i (Nat.lt_of_lt_of_le hi h.size) hr).trans (h.block i hi hr)⟩
theorem grown_alloc {row : Option Nat} (h : w.grownBy w' row) (o : Obj) : w.grownBy (w'.alloc o) row :=
  grown_trans h ⟨rfl, rfl, rfl, by simp, fun k hk _ => Below.heap_alloc _ _ _ hk⟩

/-- alive: at a place from which these bits are left -/
def Live (t : TypeId) (w : World) (b : Nat) (s : ByteArray) (l : List Bool) : Prop :=
  ∃ a, a ≤ 8 * s.size ∧ l = (bitsOf s.data.toList).drop a ∧ Rd t w b s a false

/-- something was not as it must be -/
def Dead (t : TypeId) (w : World) (b : Nat) (s : ByteArray) : Prop := ∃ a, a ≤ 1099511627776 ∧ Rd t w b s a true

def St (t : TypeId) (w : World) (b : Nat) (s : ByteArray) : Option (List Bool) → Prop
  | some l => Live t w b s l
  | none => Dead t w b s

theorem total_bits (s : ByteArray) : (bitsOf s.data.toList).length = 8 * s.size := by
  rw [bitsOf_length]; simp

/-- the next bit, as the code reads it -/
theorem bit_read (s : ByteArray) (a : Nat) (ha : a < 8 * s.size) (h8 : a / 8 < s.size) :
    bits .and .i64 ((s[a / 8].toNat : Int) / 2 ^ (7 - a % 8)) 1 = (((bitsOf s.data.toList)[a]'(by rw [total_bits]; exact ha)).toNat : Nat) := by
  have hl : a / 8 < s.data.toList.length := by simpa using h8
  have hlt := s[a / 8].toNat_lt
  have hd : s[a / 8].toNat / 2 ^ (7 - a % 8) ≤ s[a / 8].toNat := Nat.div_le_self _ _
  rw [bitsOf_get _ _ hl, show ((s[a / 8].toNat : Int) / 2 ^ (7 - a % 8)) = ((s[a / 8].toNat / 2 ^ (7 - a % 8) : Nat) : Int) by simp,
    bits_and_mask _ 1 (by omega) (by omega) 1 rfl]
  congr 1
  show s[a / 8].toNat / 2 ^ (7 - a % 8) % 2 ^ 1 = (s[a / 8].toNat.testBit (7 - a % 8)).toNat
  rw [Nat.pow_one, Nat.toNat_testBit]

end
end Go.Proofs.YtncmgnmcggkhnaaGreat

namespace Go.Proofs.YtncmgnmcggkhnaaGreat
open Go.RowKit

/-- what a reader's state holds in its mark -/
theorem Live.mark {t : TypeId} {w : World} {b : Nat} {s : ByteArray} {l : List Bool} (h : Live t w b s l) : w.cell? ⟨b, 2, none⟩ = some (.bool false) := by
  obtain ⟨a, _, _, h⟩ := h
  exact h.c2
theorem Dead.mark {t : TypeId} {w : World} {b : Nat} {s : ByteArray} (h : Dead t w b s) : w.cell? ⟨b, 2, none⟩ = some (.bool true) := by
  obtain ⟨a, _, h⟩ := h
  exact h.c2

theorem val_take_succ (l : List Bool) (k : Nat) (h : k < l.length) : val (l.take (k + 1)) = 2 * val (l.take k) + (l[k]).toNat := by
  rw [List.take_succ_eq_append_getElem h, val_snoc]

theorem pow48 (k : Nat) (h : k ≤ 48) : 2 ^ k ≤ 281474976710656 := Nat.pow_le_pow_right (n := 2) (by omega) h

end Go.Proofs.YtncmgnmcggkhnaaGreat

namespace Go.Proofs.YtncmgnmcggkhnaaGreat
open Go.RowKit

/-- how a reading ends: dead stays dead; else as the parser says -/
def Ends {α : Type} (p : P α) (σ : Option (List Bool)) (x : α) (σ' : Option (List Bool)) : Prop :=
  match σ with
  | none => σ' = none
  | some l => match p l with
    | some (y, r) => x = y ∧ σ' = some r
    | none => σ' = none

theorem Ends.bind {α β : Type} {p : P α} {q : α → P β} {σ σ' σ'' : Option (List Bool)} {x : α} {y : β} (h : Ends p σ x σ') (k : Ends (q x) σ' y σ'') :
    Ends (fun l => (p l).bind fun (x, r) => q x r) σ y σ'' := by
  unfold Ends at *
  cases σ with
  | none => subst h; exact k
  | some l =>
    simp only at h ⊢
    cases hp : p l with
    | none => rw [hp] at h; subst h; exact k
    | some xr =>
      obtain ⟨x', r⟩ := xr
      rw [hp] at h
      obtain ⟨rfl, rfl⟩ := h
      exact k

theorem Ends.map {α β : Type} {p : P α} {f : α → β} {σ σ' : Option (List Bool)} {x : α} (h : Ends p σ x σ') :
    Ends (fun l => (p l).map fun (x, r) => (f x, r)) σ (f x) σ' := by
  unfold Ends at *
  cases σ with
  | none => exact h
  | some l =>
    simp only at h ⊢
    cases hp : p l with
    | none => rw [hp] at h; exact h
    | some xr =>
      obtain ⟨x', r⟩ := xr
      rw [hp] at h
      obtain ⟨rfl, rfl⟩ := h
      exact ⟨rfl, rfl⟩

theorem Ends.fail {α : Type} {p : P α} {σ : Option (List Bool)} {x : α} (h : ∀ l, σ = some l → p l = none) : Ends p σ x none := by
  unfold Ends
  cases σ with
  | none => rfl
  | some l =>
    show match p l with | some (y, r) => x = y ∧ none = some r | none => none = none
    rw [h l rfl]

theorem Ends.dead {α : Type} {p : P α} {x : α} : Ends p none x none := rfl

theorem Ends.dead_any {α : Type} {p : P α} {σ : Option (List Bool)} {x : α} (y : α) (h : Ends p σ x none) : Ends p σ y none := by
  unfold Ends at *
  cases σ with
  | none => rfl
  | some l =>
    show match p l with | some (z, r) => y = z ∧ none = some r | none => none = none
    have h' : match p l with | some (z, r) => x = z ∧ none = some r | none => none = none := h
    cases hp : p l with
    | none => rfl
    | some xr =>
      obtain ⟨x', r⟩ := xr
      rw [hp] at h'
      cases h'.2

theorem St.kept {t : TypeId} {w w' : World} {b : Nat} {s : ByteArray} {σ : Option (List Bool)} {row : Option Nat} (h : St t w b s σ) (hg : w.grownBy w' row) (hne : some b ≠ row) : St t w' b s σ := by
  cases σ with
  | none => obtain ⟨a, ha, h⟩ := h; exact ⟨a, ha, h.kept hg hne⟩
  | some l => obtain ⟨a, ha, hl, h⟩ := h; exact ⟨a, ha, hl, h.kept hg hne⟩

theorem St.lt {t : TypeId} {w : World} {b : Nat} {s : ByteArray} {σ : Option (List Bool)} (h : St t w b s σ) : b < w.heap.size := by
  cases σ with
  | none => obtain ⟨a, ha, h⟩ := h; exact h.lt
  | some l => obtain ⟨a, ha, hl, h⟩ := h; exact h.lt

/-- the mark, in one form -/
theorem St.mark {t : TypeId} {w : World} {b : Nat} {s : ByteArray} {σ : Option (List Bool)} (h : St t w b s σ) : w.cell? ⟨b, 2, none⟩ = some (.bool σ.isNone) := by
  cases σ with
  | none => exact Dead.mark h
  | some l => exact Live.mark h

theorem St.fz {t : TypeId} {w : World} {b : Nat} {s : ByteArray} {σ : Option (List Bool)} (h : St t w b s σ) (i : Nat) : w.frozen? ⟨b, i, none⟩ = false := by
  cases σ with
  | none => obtain ⟨a, ha, h⟩ := h; exact h.fz i
  | some l => obtain ⟨a, ha, hl, h⟩ := h; exact h.fz i

theorem St.str {t : TypeId} {w : World} {b : Nat} {s : ByteArray} {σ : Option (List Bool)} (h : St t w b s σ) : w.cell? ⟨b, 0, none⟩ = some (.string s) := by
  cases σ with
  | none => obtain ⟨a, ha, h⟩ := h; exact h.c0
  | some l => obtain ⟨a, ha, hl, h⟩ := h; exact h.c0

/-- the mark is set -/
theorem St.kill {t : TypeId} {w : World} {b : Nat} {s : ByteArray} {σ : Option (List Bool)} (hs : s.size ≤ 6000) (h : St t w b s σ) : St t (w.setCell ⟨b, 2, none⟩ (.bool true)) b s none := by
  cases σ with
  | none => obtain ⟨a, ha, h⟩ := h; exact ⟨a, ha, h.set2 true⟩
  | some l => obtain ⟨a, ha, hl, h⟩ := h; exact ⟨a, by omega, h.set2 true⟩

/-- the mark is laid as it was -/
theorem St.same {t : TypeId} {w : World} {b : Nat} {s : ByteArray} {l : List Bool} (h : St t w b s (some l)) : St t (w.setCell ⟨b, 2, none⟩ (.bool false)) b s (some l) := by
  obtain ⟨a, ha, hl, h⟩ := h
  exact ⟨a, ha, hl, h.set2 false⟩

theorem St.drewN {t : TypeId} {w : World} {b : Nat} {s : ByteArray} {σ : Option (List Bool)} (h : St t w b s σ) (n : Nat) : St t (w.drewN n) b s σ :=
  h.kept (grown_drewN (grown_refl _ none) n) (by simp)

theorem must_yes {σ σ' : Option (List Bool)} {n v : Nat} {want : Nat} (h : Ends (pNum n) σ v σ') (hv : v = want) : Ends (pMust n want) σ () σ' := by
  refine Ends.bind h (q := fun x r => if x = want then some ((), r) else none) ?_
  unfold Ends
  cases σ' with
  | none => rfl
  | some l => simp [hv]

theorem must_no {σ σ' : Option (List Bool)} {n v : Nat} {want : Nat} (h : Ends (pNum n) σ v σ') (hv : v ≠ want) : Ends (pMust n want) σ () none := by
  refine Ends.bind h (q := fun x r => if x = want then some ((), r) else none) ?_
  unfold Ends
  cases σ' with
  | none => rfl
  | some l => simp [hv]

theorem signed_ends {σ σ' : Option (List Bool)} {n v : Nat} (h : Ends (pNum n) σ v σ') : Ends (pSigned n) σ (sign n v) σ' := Ends.map h

theorem sign_zero (v : Nat) (h : v < 2 ^ 0) : sign 0 v = 0 := by
  have : v = 0 := by simpa using h
  subst this
  rfl

theorem sign_neg (n v : Nat) (h0 : 0 < n) (h : 2 ^ (n - 1) ≤ v) : sign n v = (v : Int) - 2 ^ n := by
  unfold sign; rw [if_pos ⟨h0, h⟩]
theorem sign_pos (n v : Nat) (h : v < 2 ^ (n - 1)) : sign n v = v := by
  unfold sign; rw [if_neg (by omega)]

theorem pow31 (k : Nat) (h : k ≤ 32) : 2 ^ k ≤ 4294967296 := Nat.pow_le_pow_right (n := 2) (by omega) h

theorem sign_bounds (n v : Nat) (hn : n ≤ 32) (hv : v < 2 ^ n) : -2147483648 ≤ sign n v ∧ sign n v ≤ 2147483648 := by
  rcases Nat.eq_zero_or_pos n with rfl | h0
  · rw [sign_zero v hv]; omega
  · obtain ⟨m, rfl⟩ : ∃ m, n = m + 1 := ⟨n - 1, by omega⟩
    have hp : 2 ^ m ≤ 2147483648 := Nat.pow_le_pow_right (n := 2) (j := 31) (by omega) (by omega)
    have e : 2 ^ (m + 1) = 2 ^ m * 2 := Nat.pow_succ 2 m
    rcases Nat.lt_or_ge v (2 ^ m) with h | h
    · rw [sign_pos _ _ h]; omega
    · rw [sign_neg _ _ h0 h]
      have e2 : ((2 : Int) ^ (m + 1)) = ((2 ^ (m + 1) : Nat) : Int) := by simp
      rw [e2]
      omega

theorem ipow (n : Nat) (h : n ≤ 32) : (0 : Int) < 2 ^ n ∧ (2 : Int) ^ n ≤ 4294967296 := by
  have h1 := pow31 n h
  have h2 := Nat.two_pow_pos n
  rw [show (2 : Int) ^ n = ((2 ^ n : Nat) : Int) by simp]
  omega

theorem noughts_le : ∀ (l : List Bool) (q : Nat) (r : List Bool), pNoughts l = some (q, r) → q + r.length < l.length
  | [], _, _, h => by cases h
  | true :: l, q, r, h => by
    have h' : some (0, l) = some (q, r) := h
    injection h' with h'
    injection h' with h1 h2
    subst h1 h2
    simp
  | false :: l, q, r, h => by
    have h' : (pNoughts l).map (fun (q, r) => (q + 1, r)) = some (q, r) := h
    cases hp : pNoughts l with
    | none => rw [hp] at h'; cases h'
    | some x =>
      obtain ⟨q', r'⟩ := x
      rw [hp] at h'
      injection h' with h'
      injection h' with h1 h2
      subst h1 h2
      have := noughts_le l q' r' hp
      simp
      omega

/-- so many bits 0 have been read -/
theorem noughts_step (l l' : List Bool) (k : Nat) (h : pNoughts l = (pNoughts l').map fun (q, r) => (q + k, r)) (c : Bool) (m : List Bool) (e : l' = c :: m) :
    pNoughts l = if c then some (k, m) else (pNoughts m).map fun (q, r) => (q + (k + 1), r) := by
  subst e
  cases c with
  | true =>
    rw [h]
    show some (0 + k, m) = _
    simp
  | false =>
    rw [h]
    show Option.map _ (Option.map _ (pNoughts m)) = _
    rw [Option.map_map]
    congr 1
    funext x
    obtain ⟨q, r⟩ := x
    simp
    omega

theorem Live.length {t : TypeId} {w : World} {b : Nat} {s : ByteArray} {l : List Bool} (h : Live t w b s l) : l.length ≤ 8 * s.size := by
  obtain ⟨a, ha, hl, _⟩ := h
  rw [hl, List.length_drop, total_bits]
  omega

end Go.Proofs.YtncmgnmcggkhnaaGreat

namespace Go.Proofs.YtncmgnmcggkhnaaGreat
open Go.RowKit

/-- the program's reader: alive, or at the end with the mark set -/
def Sp (w : World) (b : Nat) (s : ByteArray) : Option (List Bool) → Prop
  | some l => Live 130 w b s l
  | none => Rd 130 w b s (8 * s.size) true

theorem Sp.lt {w : World} {b : Nat} {s : ByteArray} {σ : Option (List Bool)} (h : Sp w b s σ) : b < w.heap.size := by
  cases σ with
  | none => exact Rd.lt h
  | some l => obtain ⟨a, _, _, h⟩ := h; exact h.lt

theorem Sp.kept {w w' : World} {b : Nat} {s : ByteArray} {σ : Option (List Bool)} {row : Option Nat} (h : Sp w b s σ) (hg : w.grownBy w' row) (hne : some b ≠ row) : Sp w' b s σ := by
  cases σ with
  | none => exact Rd.kept h hg hne
  | some l => obtain ⟨a, ha, hl, h⟩ := h; exact ⟨a, ha, hl, h.kept hg hne⟩

theorem Sp.drewN {w : World} {b : Nat} {s : ByteArray} {σ : Option (List Bool)} (h : Sp w b s σ) (n : Nat) : Sp (w.drewN n) b s σ :=
  h.kept (grown_drewN (grown_refl _ none) n) (by simp)

/-- the place, in one form -/
theorem Sp.rd {w : World} {b : Nat} {s : ByteArray} {σ : Option (List Bool)} (h : Sp w b s σ) :
    ∃ a, a ≤ 8 * s.size ∧ Rd 130 w b s a σ.isNone ∧ (σ = none → a = 8 * s.size) ∧ ∀ l, σ = some l → l = (bitsOf s.data.toList).drop a ∧ a + l.length = 8 * s.size := by
  cases σ with
  | none => exact ⟨8 * s.size, Nat.le_refl _, h, fun _ => rfl, fun l e => by cases e⟩
  | some l =>
    obtain ⟨a, ha, hl, h⟩ := h
    refine ⟨a, ha, h, fun e => (by cases e), fun l' e => ?_⟩
    cases e
    refine ⟨hl, ?_⟩
    rw [hl, List.length_drop, total_bits]
    omega

set_option maxHeartbeats 400000 in
theorem qbit_next (w : World) (b : Nat) (s : ByteArray) (a : Nat) (hs : s.size ≤ 6000) (ha : a < 8 * s.size) (h : Rd 130 w b s a false) :
    Calls Tryz.prog 70 #[.pointer (some ⟨b, 0, none⟩)] w fun e w' => e = .returned (.int .i64 (((bitsOf s.data.toList)[a]'(by rw [total_bits]; exact ha)).toNat : Nat)) ∧ Rd 130 w' b s (a + 1) false ∧ w.grownBy w' (some b) := by
  have c0 := h.c0
  have c1 := h.c1
  have f1 := h.fz 1
  have h8 : a / 8 < s.size := by omega
  have hbyte : s[a / 8].toNat < 256 := s[a / 8].toNat_lt
  have hq0 : (0 : Int) ≤ (a : Int) / 8 := by omega
  have hq1 : (a : Int) / 8 < (s.size : Int) := by omega
  have hq2 : IntKind.i64.wrap ((a : Int) / 8) = (a : Int) / 8 := by rw [IntKind.wrap_i64]; omega
  go_enter Tryz.func70, Tryz.ntmps70
  go_wp2
  go_quiet (fail)
  go_wp2
  go_ret
  exact ⟨ret_int (bit_read s a ha h8), (h.drewN _).set1 (a + 1), grown_trans (grown_drewN (grown_refl _ _) _) (grown_set _ _ _ _)⟩

theorem qbit (w : World) (b : Nat) (s : ByteArray) (c : Bool) (l : List Bool) (hs : s.size ≤ 6000) (h : Sp w b s (some (c :: l))) :
    Calls Tryz.prog 70 #[.pointer (some ⟨b, 0, none⟩)] w fun e w' => e = .returned (.int .i64 (c.toNat : Nat)) ∧ Sp w' b s (some l) ∧ w.grownBy w' (some b) := by
  obtain ⟨a, ha, hl, h⟩ := h
  have hlt : a < 8 * s.size := by
    rcases Nat.lt_or_ge a (8 * s.size) with h1 | h1
    · exact h1
    · rw [List.drop_of_length_le (by rw [total_bits]; exact h1)] at hl
      cases hl
  rw [List.drop_eq_getElem_cons (by rw [total_bits]; exact hlt)] at hl
  injection hl with hc hl
  refine (qbit_next w b s a hs hlt h).mono ?_
  rintro e w' ⟨rfl, h', hg⟩
  exact ⟨by rw [hc], ⟨a + 1, by omega, hl, h'⟩, hg⟩

set_option maxHeartbeats 400000 in
theorem qleft (w : World) (b : Nat) (s : ByteArray) (a : Nat) (m : Bool) (hs : s.size ≤ 6000) (ha : a ≤ 8 * s.size) (h : Rd 130 w b s a m) :
    Calls Tryz.prog 68 #[.pointer (some ⟨b, 0, none⟩)] w fun e w' => e = .returned (.int .i64 ((8 * s.size - a : Nat) : Int)) ∧ ∃ d, w' = w.drewN d := by
  have c0 := h.c0
  have c1 := h.c1
  go_enter Tryz.func68, Tryz.ntmps68
  go_wp2
  go_quiet (fail)
  go_wp2
  go_ret
  exact ⟨ret_int (by omega), _, rfl⟩

set_option maxHeartbeats 400000 in
theorem qend (w : World) (b : Nat) (s : ByteArray) (a : Nat) (m : Bool) (hs : s.size ≤ 6000) (h : Rd 130 w b s a m) :
    Calls Tryz.prog 69 #[.pointer (some ⟨b, 0, none⟩)] w fun e w' => e = .returned (.tuple #[]) ∧ Sp w' b s none ∧ w.grownBy w' (some b) := by
  have c0 := h.c0
  have c1 := h.c1
  have c2 := h.c2
  have f1 := h.fz 1
  have f2 := h.fz 2
  go_enter Tryz.func69, Tryz.ntmps69
  go_wp2
  go_end0
  exact ⟨rfl, (h.set1 (8 * s.size)).set2 true, grown_trans (grown_set _ _ _ _) (grown_set _ _ _ _)⟩

theorem or_bit (v c : Nat) (hv : 2 * v < 9223372036854775808) (hc : c ≤ 1) : bits .or .i64 ((v : Int) * 2) (c : Int) = ((2 * v + c : Nat) : Int) := by
  rw [show ((v : Int) * 2) = ((2 * v : Nat) : Int) by omega]
  have e0 : 2 * v + c = 2 * v ||| c := Nat.two_pow_add_eq_or_of_lt (i := 1) (b := c) (by omega) v
  have h1 : (BitVec.ofInt 64 ((2 * v : Nat) : Int)).toNat = 2 * v := by
    rw [BitVec.ofInt_natCast, BitVec.toNat_ofNat]; exact Nat.mod_eq_of_lt (by omega)
  have h2 : (BitVec.ofInt 64 (c : Int)).toNat = c := by
    rw [BitVec.ofInt_natCast, BitVec.toNat_ofNat]; exact Nat.mod_eq_of_lt (by omega)
  show IntKind.i64.wrap ((BitVec.ofInt 64 ((2 * v : Nat) : Int) ||| BitVec.ofInt 64 (c : Int)).toNat : Int) = _
  rw [BitVec.toNat_or, h1, h2, IntKind.wrap_i64, ← e0]
  omega

def NumPost (w : World) (b : Nat) (s : ByteArray) (n : Nat) (σ : Option (List Bool)) (e : Ending) (w' : World) : Prop :=
  ∃ (v : Nat) (σ' : Option (List Bool)), e = .returned (.int .i64 v) ∧ v < 2 ^ n ∧ (σ' = none → v = 0) ∧ w.grownBy w' (some b) ∧ Sp w' b s σ' ∧ Ends (pNum n) σ v σ'

set_option maxHeartbeats 1000000 in
theorem qnum (w : World) (b : Nat) (s : ByteArray) (n : Nat) (σ : Option (List Bool)) (hs : s.size ≤ 6000) (hn : n ≤ 48) (h : Sp w b s σ) :
    Calls Tryz.prog 52 #[.pointer (some ⟨b, 0, none⟩), .int .i64 n] w (NumPost w b s n σ) := by
  obtain ⟨a, ha, hrd, hnone, hsome⟩ := h.rd
  go_enter Tryz.func52, Tryz.ntmps52
  go_wp2_with fail
  refine (qleft _ _ _ _ _ hs ha hrd).mono ?_
  rintro e w1 ⟨rfl, d, rfl⟩
  have hrd1 := hrd.drewN d
  have hg1 : w.grownBy (w.drewN d) (some b) := grown_drewN (grown_refl _ _) d
  by_cases hlt : 8 * s.size - a < n
  · go_wp2_with fail
    refine (qend _ _ _ _ _ hs hrd1).mono ?_
    rintro e w2 ⟨rfl, hsp, hg2⟩
    go_wp2
    go_ret
    refine ⟨0, none, rfl, Nat.two_pow_pos _, fun _ => rfl, grown_trans hg1 hg2, hsp, Ends.fail (fun l e => ?_)⟩
    have := (hsome l e).2
    unfold pNum
    rw [if_neg (by omega)]
  · cases σ with
    | none =>
      have hdead : Sp (w.drewN d) b s none := by show Rd _ _ _ _ _ _; rw [← hnone rfl]; exact hrd1
      have := hnone rfl
      clear hnone hsome
      obtain rfl : n = 0 := by omega
      go_wp2
      go_loop [5, 13] (fun o i => o = .int .i64 0 ∧ i = .int .i64 0) (fun _ _ => 0)
      case atStart => exact ⟨rfl, rfl⟩
      case round =>
        obtain ⟨rfl, rfl⟩ := hrel
        go_wp2
        go_ret
        exact ⟨0, none, rfl, Nat.two_pow_pos _, fun _ => rfl, hg1, hdead, rfl⟩
    | some l =>
      have hl := (hsome l rfl).2
      have hnl : n ≤ l.length := by omega
      have hsp1 : Sp (w.drewN d) b s (some l) := ⟨a, ha, (hsome l rfl).1, hrd1⟩
      clear hrd hrd1 hnone hsome h
      go_wp2
      go_loopw [5, 13] (fun o i wr => ∃ k v : Nat, k ≤ n ∧ i = .int .i64 k ∧ o = .int .i64 v ∧ v < 2 ^ k ∧ w.grownBy wr (some b) ∧ Hid (v = val (l.take k)) ∧ Sp wr b s (some (l.drop k)))
        (fun _ i _ => n - (intOf i).toNat)
      case atStart => exact ⟨0, 0, Nat.zero_le _, rfl, rfl, by decide, hg1, rfl, hsp1⟩
      case round =>
        obtain ⟨k, v, hk, rfl, rfl, hv, hg, HV, hsp⟩ := hrel
        have hp := pow48 k (by omega)
        by_cases hkn : k < n
        · have hk2 : k < l.length := by omega
          rw [List.drop_eq_getElem_cons hk2] at hsp
          have hone : (l[k]).toNat ≤ 1 := Bool.toNat_le _
          have hor := or_bit v (l[k]).toNat (by omega) hone
          go_wp2_with (go_at_call 70; refine (qbit _ _ _ _ _ hs hsp).mono ?_; rintro e w' ⟨rfl, hsp', hg'⟩)
          refine ⟨⟨k + 1, 2 * v + (l[k]).toNat, by omega, by go_num, by go_num, by rw [Nat.pow_succ]; omega, grown_trans hg hg', (by rw [val_take_succ l k hk2, HV.out] : 2 * v + (l[k]).toNat = val (l.take (k + 1))), hsp'⟩, by simp [intOf]; omega⟩
        · obtain rfl : k = n := by omega
          go_wp2
          go_ret
          refine ⟨v, some (l.drop k), rfl, hv, fun e => (by cases e), hg, hsp, ?_⟩
          simp [Ends, pNum, hnl, HV.out]
end Go.Proofs.YtncmgnmcggkhnaaGreat
