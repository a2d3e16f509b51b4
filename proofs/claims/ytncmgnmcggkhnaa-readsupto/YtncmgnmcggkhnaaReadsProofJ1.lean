import Derived.Test.YtncmgnmcggkhnaaReadsProofJ0
import Derived.Deep.QuietTactic
import Derived.BigQuiet
import Derived.Deep.RegionWith
namespace Go.Proofs.Ytncmgnmcggkhnaa
open Go.RowKit

set_option maxHeartbeats 400000 in
theorem crc8_any (s : ByteArray) (w : World) (hs : s.size ≤ maxLen) :
    Calls Try.prog 12 #[.string s] w fun e w' => e = .returned (.int .i64 (crc 8 7 s.data.toList : Nat)) ∧ w' = w := by
  go_enter Try.func12, Try.ntmps12
  go_wp2_with (go_at_call 38; refine (sum8 _ _ hs).mono ?_; rintro e w' ⟨rfl, rfl⟩)
  go_ret
  exact ⟨rfl, rfl⟩

set_option maxHeartbeats 400000 in
theorem crc16_any (s : ByteArray) (w : World) (hs : s.size ≤ maxLen) :
    Calls Try.prog 13 #[.string s] w fun e w' => e = .returned (.int .i64 (crc 16 32773 s.data.toList : Nat)) ∧ w' = w := by
  go_enter Try.func13, Try.ntmps13
  go_wp2_with (go_at_call 38; refine (sum16 _ _ hs).mono ?_; rintro e w' ⟨rfl, rfl⟩)
  go_ret
  exact ⟨rfl, rfl⟩

set_option maxHeartbeats 400000 in
theorem refcrc8_any (s : ByteArray) (w : World) (hs : s.size ≤ maxLen) :
    Calls Try.prog 14 #[.string s] w fun e w' => e = .returned (.int .i64 (crc 8 7 s.data.toList : Nat)) ∧ w' = w := by
  go_enter Try.func14, Try.ntmps14
  go_wp2_with (go_at_call 39; refine (ref8 _ _ hs).mono ?_; rintro e w' ⟨rfl, rfl⟩)
  go_ret
  exact ⟨rfl, rfl⟩

set_option maxHeartbeats 400000 in
theorem refcrc16_any (s : ByteArray) (w : World) (hs : s.size ≤ maxLen) :
    Calls Try.prog 15 #[.string s] w fun e w' => e = .returned (.int .i64 (crc 16 32773 s.data.toList : Nat)) ∧ w' = w := by
  go_enter Try.func15, Try.ntmps15
  go_wp2_with (go_at_call 39; refine (ref16 _ _ hs).mono ?_; rintro e w' ⟨rfl, rfl⟩)
  go_ret
  exact ⟨rfl, rfl⟩

end Go.Proofs.Ytncmgnmcggkhnaa

/-
  A reader in memory: a block of three cells (the bytes, the place in bits, a mark), and what its bits still are.
-/
namespace Go.Proofs.Ytncmgnmcggkhnaa
open Go.RowKit

def Rd (t : TypeId) (w : World) (b : Nat) (s : ByteArray) (a : Nat) (m : Bool) : Prop :=
  w.heap[b]? = some (.cells #[.string s, .int .i64 a, .bool m] t (0, 0))

section
variable {t : TypeId} {w w' : World} {b : Nat} {s : ByteArray} {a : Nat} {m : Bool}

theorem Rd.lt (h : Rd t w b s a m) : b < w.heap.size := by
  rcases Nat.lt_or_ge b w.heap.size with h1 | h1
  · exact h1
  · unfold Rd at h
    rw [Array.getElem?_eq_none h1] at h
    cases h

theorem Rd.c0 (h : Rd t w b s a m) : w.cell? ⟨b, 0, none⟩ = some (.string s) := by
  unfold Rd at h; simp [World.cell?, h]
theorem Rd.c1 (h : Rd t w b s a m) : w.cell? ⟨b, 1, none⟩ = some (.int .i64 a) := by
  unfold Rd at h; simp [World.cell?, h]
theorem Rd.c2 (h : Rd t w b s a m) : w.cell? ⟨b, 2, none⟩ = some (.bool m) := by
  unfold Rd at h; simp [World.cell?, h]
theorem Rd.fz (h : Rd t w b s a m) (i : Nat) : w.frozen? ⟨b, i, none⟩ = false := by
  unfold Rd at h; simp [World.frozen?, h]

theorem heap_setCell_own (w : World) (b o : Nat) (v : Value) (c : Array Value) (t : TypeId) (f : Nat × Nat) (h : w.heap[b]? = some (.cells c t f)) :
    (w.setCell ⟨b, o, none⟩ v).heap[b]? = some (.cells (c.setIfInBounds o v) t f) := by
  simp only [World.setCell, Array.getElem?_modify, if_pos, h]
  rfl

theorem Rd.set1 (h : Rd t w b s a m) (a' : Nat) : Rd t (w.setCell ⟨b, 1, none⟩ (.int .i64 a')) b s a' m := by
  unfold Rd at h ⊢
  rw [heap_setCell_own w b 1 _ _ _ _ h]
  rfl
theorem Rd.set2 (h : Rd t w b s a m) (m' : Bool) : Rd t (w.setCell ⟨b, 2, none⟩ (.bool m')) b s a m' := by
  unfold Rd at h ⊢
  rw [heap_setCell_own w b 2 _ _ _ _ h]
  rfl
theorem Rd.drew (h : Rd t w b s a m) : Rd t w.drew b s a m := h
theorem Rd.drewN (h : Rd t w b s a m) (n : Nat) : Rd t (w.drewN n) b s a m := by
  unfold Rd at h ⊢
  rw [← h]
  rfl
theorem Rd.kept {row : Option Nat} (h : Rd t w b s a m) (hg : w.grownBy w' row) (hne : some b ≠ row) : Rd t w' b s a m := by
  unfold Rd at *
  rw [hg.block b (Rd.lt h) hne, h]

theorem grown_refl (w : World) (row : Option Nat) : w.grownBy w row := ⟨rfl, rfl, rfl, Nat.le_refl _, fun _ _ _ => rfl⟩
theorem grown_set (w : World) (b o : Nat) (v : Value) : w.grownBy (w.setCell ⟨b, o, none⟩ v) (some b) :=
  ⟨rfl, rfl, rfl, by simp [World.setCell], fun k _ hk => Below.heap_setCell _ _ _ _ (fun e => hk (by rw [e]))⟩
theorem grown_drew {row : Option Nat} (h : w.grownBy w' row) : w.grownBy w'.drew row := ⟨h.os, h.tape, h.output, h.size, h.block⟩
theorem grown_drewN {row : Option Nat} (h : w.grownBy w' row) (n : Nat) : w.grownBy (w'.drewN n) row := ⟨h.os, h.tape, h.output, h.size, h.block⟩
theorem grown_trans {w'' : World} {row : Option Nat} (h : w.grownBy w' row) (k : w'.grownBy w'' row) : w.grownBy w'' row :=
  ⟨k.os.trans h.os, k.tape.trans h.tape, k.output.trans h.output, Nat.le_trans h.size k.size,
    fun i hi hr => (k.block i (Nat.lt_of_lt_of_le hi h.size) hr).trans (h.block i hi hr)⟩
theorem grown_alloc {row : Option Nat} (h : w.grownBy w' row) (o : Obj) : w.grownBy (w'.alloc o) row :=
  grown_trans h ⟨rfl, rfl, rfl, by simp, fun k hk _ => Below.heap_alloc _ _ _ hk⟩

/-- alive: at a place from which these bits are left -/
def Live (t : TypeId) (w : World) (b : Nat) (s : ByteArray) (l : List Bool) : Prop :=
  ∃ a, a ≤ 8 * s.size ∧ l = (bitsOf s.data.toList).drop a ∧ Rd t w b s a false

/-- something was not as it must be -/
def Dead (t : TypeId) (w : World) (b : Nat) (s : ByteArray) : Prop := ∃ a, a ≤ 1099511627776 ∧ Rd t w b s a true

def St (t : TypeId) (w : World) (b : Nat) (s : ByteArray) : Option (List Bool) → Prop
  | some l => Live t w b s l
  | none => Dead t w b s

theorem total_bits (s : ByteArray) : (bitsOf s.data.toList).length = 8 * s.size := by
  rw [bitsOf_length]; simp

/-- the next bit, as the code reads it -/
theorem bit_read (s : ByteArray) (a : Nat) (ha : a < 8 * s.size) (h8 : a / 8 < s.size) :
    bits .and .i64 ((s[a / 8].toNat : Int) / 2 ^ (7 - a % 8)) 1 = (((bitsOf s.data.toList)[a]'(by rw [total_bits]; exact ha)).toNat : Nat) := by
  have hl : a / 8 < s.data.toList.length := by simpa using h8
  have hlt := s[a / 8].toNat_lt
  have hd : s[a / 8].toNat / 2 ^ (7 - a % 8) ≤ s[a / 8].toNat := Nat.div_le_self _ _
  rw [bitsOf_get _ _ hl, show ((s[a / 8].toNat : Int) / 2 ^ (7 - a % 8)) = ((s[a / 8].toNat / 2 ^ (7 - a % 8) : Nat) : Int) by simp,
    bits_and_mask _ 1 (by omega) (by omega) 1 rfl]
  congr 1
  show s[a / 8].toNat / 2 ^ (7 - a % 8) % 2 ^ 1 = (s[a / 8].toNat.testBit (7 - a % 8)).toNat
  rw [Nat.pow_one, Nat.toNat_testBit]

end
end Go.Proofs.Ytncmgnmcggkhnaa

namespace Go.Proofs.Ytncmgnmcggkhnaa
open Go.RowKit

set_option maxHeartbeats 400000 in
theorem rbit_end (w : World) (b : Nat) (s : ByteArray) (a : Nat) (m : Bool) (hs : s.size ≤ 6000) (ha : 8 * s.size ≤ a) (_ha2 : a ≤ 1099511627776) (h : Rd 86 w b s a m) :
    Calls Try.prog 91 #[.pointer (some ⟨b, 0, none⟩)] w fun e w' => e = .returned (.int .i64 0) ∧ Rd 86 w' b s a true ∧ w.grownBy w' (some b) := by
  have c0 := h.c0
  have c1 := h.c1
  have c2 := h.c2
  have f2 := h.fz 2
  go_enter Try.func91, Try.ntmps91
  go_wp2
  go_quiet (fail)
  go_wp2
  go_ret
  exact ⟨rfl, (h.drewN _).set2 true, grown_trans (grown_drewN (grown_refl _ _) _) (grown_set _ _ _ _)⟩

set_option maxHeartbeats 400000 in
theorem rbit_next (w : World) (b : Nat) (s : ByteArray) (a : Nat) (hs : s.size ≤ 6000) (ha : a < 8 * s.size) (h : Rd 86 w b s a false) :
    Calls Try.prog 91 #[.pointer (some ⟨b, 0, none⟩)] w fun e w' => e = .returned (.int .i64 (((bitsOf s.data.toList)[a]'(by rw [total_bits]; exact ha)).toNat : Nat)) ∧ Rd 86 w' b s (a + 1) false ∧ w.grownBy w' (some b) := by
  have c0 := h.c0
  have c1 := h.c1
  have c2 := h.c2
  have f1 := h.fz 1
  have h8 : a / 8 < s.size := by omega
  have hbyte : s[a / 8].toNat < 256 := s[a / 8].toNat_lt
  have hq0 : (0 : Int) ≤ (a : Int) / 8 := by omega
  have hq1 : (a : Int) / 8 < (s.size : Int) := by omega
  have hq2 : IntKind.i64.wrap ((a : Int) / 8) = (a : Int) / 8 := by rw [IntKind.wrap_i64]; omega
  go_enter Try.func91, Try.ntmps91
  go_wp2
  go_quiet (fail)
  go_wp2
  go_quiet (fail)
  go_wp2
  go_ret
  exact ⟨ret_int (bit_read s a ha h8), (h.drewN _).set1 (a + 1), grown_trans (grown_drewN (grown_refl _ _) _) (grown_set _ _ _ _)⟩

theorem rbit_cons (w : World) (b : Nat) (s : ByteArray) (c : Bool) (l : List Bool) (hs : s.size ≤ 6000) (h : Live 86 w b s (c :: l)) :
    Calls Try.prog 91 #[.pointer (some ⟨b, 0, none⟩)] w fun e w' => e = .returned (.int .i64 (c.toNat : Nat)) ∧ Live 86 w' b s l ∧ w.grownBy w' (some b) := by
  obtain ⟨a, ha, hl, h⟩ := h
  have hlt : a < 8 * s.size := by
    rcases Nat.lt_or_ge a (8 * s.size) with h1 | h1
    · exact h1
    · rw [List.drop_of_length_le (by rw [total_bits]; exact h1)] at hl
      cases hl
  rw [List.drop_eq_getElem_cons (by rw [total_bits]; exact hlt)] at hl
  injection hl with hc hl
  refine (rbit_next w b s a hs hlt h).mono ?_
  rintro e w' ⟨rfl, h', hg⟩
  exact ⟨by rw [hc], ⟨a + 1, by omega, hl, h'⟩, hg⟩

theorem rbit_nil (w : World) (b : Nat) (s : ByteArray) (hs : s.size ≤ 6000) (h : Live 86 w b s []) :
    Calls Try.prog 91 #[.pointer (some ⟨b, 0, none⟩)] w fun e w' => e = .returned (.int .i64 0) ∧ Dead 86 w' b s ∧ w.grownBy w' (some b) := by
  obtain ⟨a, ha, hl, h⟩ := h
  have h0 := congrArg List.length hl
  rw [List.length_drop, total_bits, List.length_nil] at h0
  refine (rbit_end w b s a false hs (by omega) (by omega) h).mono ?_
  rintro e w' ⟨rfl, h', hg⟩
  exact ⟨rfl, ⟨a, by omega, h'⟩, hg⟩

/-- what a reader's state holds in its mark -/
theorem Live.mark {t : TypeId} {w : World} {b : Nat} {s : ByteArray} {l : List Bool} (h : Live t w b s l) : w.cell? ⟨b, 2, none⟩ = some (.bool false) := by
  obtain ⟨a, _, _, h⟩ := h
  exact h.c2
theorem Dead.mark {t : TypeId} {w : World} {b : Nat} {s : ByteArray} (h : Dead t w b s) : w.cell? ⟨b, 2, none⟩ = some (.bool true) := by
  obtain ⟨a, _, h⟩ := h
  exact h.c2

theorem val_take_succ (l : List Bool) (k : Nat) (h : k < l.length) : val (l.take (k + 1)) = 2 * val (l.take k) + (l[k]).toNat := by
  rw [List.take_succ_eq_append_getElem h, val_snoc]

theorem pow48 (k : Nat) (h : k ≤ 48) : 2 ^ k ≤ 281474976710656 := Nat.pow_le_pow_right (n := 2) (by omega) h

set_option maxHeartbeats 1000000 in
theorem rnum_live (w : World) (b : Nat) (s : ByteArray) (n : Nat) (l : List Bool) (hs : s.size ≤ 6000) (hn : n ≤ 48) (h : Live 86 w b s l) :
    Calls Try.prog 64 #[.pointer (some ⟨b, 0, none⟩), .int .i64 n] w fun e w' =>
      ∃ v : Nat, e = .returned (.int .i64 v) ∧ v < 2 ^ n ∧ w.grownBy w' (some b) ∧
        ((n ≤ l.length ∧ v = val (l.take n) ∧ Live 86 w' b s (l.drop n)) ∨ (l.length < n ∧ Dead 86 w' b s)) := by
  go_enter Try.func64, Try.ntmps64
  go_wp2
  go_loopw [5, 6] (fun o i wr => ∃ k v : Nat, k ≤ n ∧ i = .int .i64 k ∧ o = .int .i64 v ∧ v < 2 ^ k ∧ w.grownBy wr (some b) ∧
      ((k ≤ l.length ∧ v = val (l.take k) ∧ Live 86 wr b s (l.drop k)) ∨ (l.length < n ∧ Dead 86 wr b s)))
    (fun _ i _ => n - (intOf i).toNat)
  case atStart => exact ⟨0, 0, Nat.zero_le _, rfl, rfl, by decide, grown_refl _ _, .inl ⟨Nat.zero_le _, rfl, h⟩⟩
  case round =>
    obtain ⟨k, v, hk, rfl, rfl, hv, hg, hst⟩ := hrel
    have hp := pow48 k (by omega)
    by_cases hlt : k < n
    · rcases hst with ⟨hkl, hval, hlive⟩ | ⟨hsh, hdead⟩
      · have hm := hlive.mark
        have HV : Hid (v = val (l.take k)) := hval
        clear hval
        rcases Nat.lt_or_ge k l.length with hk2 | hk2
        · rw [List.drop_eq_getElem_cons hk2] at hlive
          have hone : (l[k]).toNat ≤ 1 := Bool.toNat_le _
          go_wp2_with (go_at_call 91; refine (rbit_cons _ _ _ _ _ hs hlive).mono ?_; rintro e w' ⟨rfl, hlive', hg'⟩)
          go_roundw
          case rel => exact ⟨k + 1, 2 * v + (l[k]).toNat, by omega, by go_num, by go_num, by rw [Nat.pow_succ]; omega, grown_trans hg hg', .inl ⟨by omega, by rw [val_take_succ l k hk2, HV.out], hlive'⟩⟩
          case measure => simp [intOf]; omega
        · rw [List.drop_of_length_le hk2] at hlive
          go_wp2_with (go_at_call 91; refine (rbit_nil _ _ _ hs hlive).mono ?_; rintro e w' ⟨rfl, hdead, hg'⟩)
          go_roundw
          case rel => exact ⟨k + 1, 2 * v, by omega, by go_num, by go_num, by rw [Nat.pow_succ]; omega, grown_trans hg hg', .inr ⟨by omega, hdead⟩⟩
          case measure => simp [intOf]; omega
      · have hm := hdead.mark
        go_wp2
        go_ret
        exact ⟨v, rfl, Nat.lt_of_lt_of_le hv (Nat.pow_le_pow_right (by omega) hk), hg, .inr ⟨hsh, hdead⟩⟩
    · obtain rfl : k = n := by omega
      go_wp2
      go_ret
      exact ⟨v, rfl, hv, hg, hst⟩
end Go.Proofs.Ytncmgnmcggkhnaa

namespace Go.Proofs.Ytncmgnmcggkhnaa
open Go.RowKit

/-- how a reading ends: dead stays dead; else as the parser says -/
def Ends {α : Type} (p : P α) (σ : Option (List Bool)) (x : α) (σ' : Option (List Bool)) : Prop :=
  match σ with
  | none => σ' = none
  | some l => match p l with
    | some (y, r) => x = y ∧ σ' = some r
    | none => σ' = none

theorem Ends.bind {α β : Type} {p : P α} {q : α → P β} {σ σ' σ'' : Option (List Bool)} {x : α} {y : β} (h : Ends p σ x σ') (k : Ends (q x) σ' y σ'') :
    Ends (fun l => (p l).bind fun (x, r) => q x r) σ y σ'' := by
  unfold Ends at *
  cases σ with
  | none => subst h; exact k
  | some l =>
    simp only at h ⊢
    cases hp : p l with
    | none => rw [hp] at h; subst h; exact k
    | some xr =>
      obtain ⟨x', r⟩ := xr
      rw [hp] at h
      obtain ⟨rfl, rfl⟩ := h
      exact k

theorem Ends.map {α β : Type} {p : P α} {f : α → β} {σ σ' : Option (List Bool)} {x : α} (h : Ends p σ x σ') :
    Ends (fun l => (p l).map fun (x, r) => (f x, r)) σ (f x) σ' := by
  unfold Ends at *
  cases σ with
  | none => exact h
  | some l =>
    simp only at h ⊢
    cases hp : p l with
    | none => rw [hp] at h; exact h
    | some xr =>
      obtain ⟨x', r⟩ := xr
      rw [hp] at h
      obtain ⟨rfl, rfl⟩ := h
      exact ⟨rfl, rfl⟩

theorem Ends.fail {α : Type} {p : P α} {σ : Option (List Bool)} {x : α} (h : ∀ l, σ = some l → p l = none) : Ends p σ x none := by
  unfold Ends
  cases σ with
  | none => rfl
  | some l =>
    show match p l with | some (y, r) => x = y ∧ none = some r | none => none = none
    rw [h l rfl]

theorem Ends.dead {α : Type} {p : P α} {x : α} : Ends p none x none := rfl

theorem Ends.dead_any {α : Type} {p : P α} {σ : Option (List Bool)} {x : α} (y : α) (h : Ends p σ x none) : Ends p σ y none := by
  unfold Ends at *
  cases σ with
  | none => rfl
  | some l =>
    show match p l with | some (z, r) => y = z ∧ none = some r | none => none = none
    have h' : match p l with | some (z, r) => x = z ∧ none = some r | none => none = none := h
    cases hp : p l with
    | none => rfl
    | some xr =>
      obtain ⟨x', r⟩ := xr
      rw [hp] at h'
      cases h'.2

theorem St.kept {t : TypeId} {w w' : World} {b : Nat} {s : ByteArray} {σ : Option (List Bool)} {row : Option Nat} (h : St t w b s σ) (hg : w.grownBy w' row) (hne : some b ≠ row) : St t w' b s σ := by
  cases σ with
  | none => obtain ⟨a, ha, h⟩ := h; exact ⟨a, ha, h.kept hg hne⟩
  | some l => obtain ⟨a, ha, hl, h⟩ := h; exact ⟨a, ha, hl, h.kept hg hne⟩

theorem St.lt {t : TypeId} {w : World} {b : Nat} {s : ByteArray} {σ : Option (List Bool)} (h : St t w b s σ) : b < w.heap.size := by
  cases σ with
  | none => obtain ⟨a, ha, h⟩ := h; exact h.lt
  | some l => obtain ⟨a, ha, hl, h⟩ := h; exact h.lt

/-- the mark, in one form -/
theorem St.mark {t : TypeId} {w : World} {b : Nat} {s : ByteArray} {σ : Option (List Bool)} (h : St t w b s σ) : w.cell? ⟨b, 2, none⟩ = some (.bool σ.isNone) := by
  cases σ with
  | none => exact Dead.mark h
  | some l => exact Live.mark h

theorem St.fz {t : TypeId} {w : World} {b : Nat} {s : ByteArray} {σ : Option (List Bool)} (h : St t w b s σ) (i : Nat) : w.frozen? ⟨b, i, none⟩ = false := by
  cases σ with
  | none => obtain ⟨a, ha, h⟩ := h; exact h.fz i
  | some l => obtain ⟨a, ha, hl, h⟩ := h; exact h.fz i

theorem St.str {t : TypeId} {w : World} {b : Nat} {s : ByteArray} {σ : Option (List Bool)} (h : St t w b s σ) : w.cell? ⟨b, 0, none⟩ = some (.string s) := by
  cases σ with
  | none => obtain ⟨a, ha, h⟩ := h; exact h.c0
  | some l => obtain ⟨a, ha, hl, h⟩ := h; exact h.c0

/-- the mark is set -/
theorem St.kill {t : TypeId} {w : World} {b : Nat} {s : ByteArray} {σ : Option (List Bool)} (hs : s.size ≤ 6000) (h : St t w b s σ) : St t (w.setCell ⟨b, 2, none⟩ (.bool true)) b s none := by
  cases σ with
  | none => obtain ⟨a, ha, h⟩ := h; exact ⟨a, ha, h.set2 true⟩
  | some l => obtain ⟨a, ha, hl, h⟩ := h; exact ⟨a, by omega, h.set2 true⟩

/-- the mark is laid as it was -/
theorem St.same {t : TypeId} {w : World} {b : Nat} {s : ByteArray} {l : List Bool} (h : St t w b s (some l)) : St t (w.setCell ⟨b, 2, none⟩ (.bool false)) b s (some l) := by
  obtain ⟨a, ha, hl, h⟩ := h
  exact ⟨a, ha, hl, h.set2 false⟩

theorem St.drewN {t : TypeId} {w : World} {b : Nat} {s : ByteArray} {σ : Option (List Bool)} (h : St t w b s σ) (n : Nat) : St t (w.drewN n) b s σ :=
  h.kept (grown_drewN (grown_refl _ none) n) (by simp)

set_option maxHeartbeats 400000 in
theorem rnum_dead (w : World) (b : Nat) (s : ByteArray) (n : Nat) (hn : n ≤ 48) (h : Dead 86 w b s) :
    Calls Try.prog 64 #[.pointer (some ⟨b, 0, none⟩), .int .i64 n] w fun e w' => e = .returned (.int .i64 0) ∧ w' = w := by
  have hm := h.mark
  by_cases h0 : 0 < n
  · go_enter Try.func64, Try.ntmps64
    go_wp2
    go_loop [5, 6] (fun o i => o = .int .i64 0 ∧ i = .int .i64 0) (fun _ _ => 0)
    case atStart => exact ⟨rfl, rfl⟩
    case round =>
      obtain ⟨rfl, rfl⟩ := hrel
      go_wp2
      go_ret
      exact ⟨rfl, rfl⟩
  · obtain rfl : n = 0 := by omega
    go_enter Try.func64, Try.ntmps64
    go_wp2
    go_loop [5, 6] (fun o i => o = .int .i64 0 ∧ i = .int .i64 0) (fun _ _ => 0)
    case atStart => exact ⟨rfl, rfl⟩
    case round =>
      obtain ⟨rfl, rfl⟩ := hrel
      go_wp2
      go_ret
      exact ⟨rfl, rfl⟩

theorem rnum (w : World) (b : Nat) (s : ByteArray) (n : Nat) (σ : Option (List Bool)) (hs : s.size ≤ 6000) (hn : n ≤ 48) (h : St 86 w b s σ) :
    Calls Try.prog 64 #[.pointer (some ⟨b, 0, none⟩), .int .i64 n] w fun e w' =>
      ∃ (v : Nat) (σ' : Option (List Bool)), e = .returned (.int .i64 v) ∧ v < 2 ^ n ∧ w.grownBy w' (some b) ∧ St 86 w' b s σ' ∧ Ends (pNum n) σ v σ' := by
  cases σ with
  | none =>
    refine (rnum_dead w b s n hn h).mono ?_
    rintro e w' ⟨rfl, rfl⟩
    exact ⟨0, none, rfl, Nat.two_pow_pos _, grown_refl _ _, h, rfl⟩
  | some l =>
    refine (rnum_live w b s n l hs hn h).mono ?_
    rintro e w' ⟨v, rfl, hv, hg, ⟨hl, hval, hlive⟩ | ⟨hl, hdead⟩⟩
    · refine ⟨v, some (l.drop n), rfl, hv, hg, hlive, ?_⟩
      simp [Ends, pNum, hl, hval]
    · refine ⟨v, none, rfl, hv, hg, hdead, ?_⟩
      simp [Ends, pNum, show ¬ n ≤ l.length by omega]

theorem must_yes {σ σ' : Option (List Bool)} {n v : Nat} {want : Nat} (h : Ends (pNum n) σ v σ') (hv : v = want) : Ends (pMust n want) σ () σ' := by
  refine Ends.bind h (q := fun x r => if x = want then some ((), r) else none) ?_
  unfold Ends
  cases σ' with
  | none => rfl
  | some l => simp [hv]

theorem must_no {σ σ' : Option (List Bool)} {n v : Nat} {want : Nat} (h : Ends (pNum n) σ v σ') (hv : v ≠ want) : Ends (pMust n want) σ () none := by
  refine Ends.bind h (q := fun x r => if x = want then some ((), r) else none) ?_
  unfold Ends
  cases σ' with
  | none => rfl
  | some l => simp [hv]

set_option maxHeartbeats 400000 in
theorem rmust (w : World) (b : Nat) (s : ByteArray) (n want : Nat) (σ : Option (List Bool)) (hs : s.size ≤ 6000) (hn : n ≤ 48) (_hwant : want ≤ 65536) (h : St 86 w b s σ) :
    Calls Try.prog 63 #[.pointer (some ⟨b, 0, none⟩), .int .i64 n, .int .i64 want] w fun e w' =>
      ∃ σ' : Option (List Bool), e = .returned (.tuple #[]) ∧ w.grownBy w' (some b) ∧ St 86 w' b s σ' ∧ Ends (pMust n want) σ () σ' := by
  go_enter Try.func63, Try.ntmps63
  go_wp2_with fail
  refine (rnum _ _ _ _ _ hs hn h).mono ?_
  rintro e w' ⟨v, σ', rfl, hv, hg, hst, hends⟩
  have hf := hst.fz 2
  have hm := hst.mark
  rcases σ' with _ | l'
  · have hm' : w'.cell? ⟨b, 2, none⟩ = some (.bool true) := hm
    clear hm
    go_wp2
    go_end0
    exact ⟨none, rfl, grown_trans hg (grown_set _ _ _ _), hst.kill hs, by by_cases hw : v = want; exact must_yes hends hw; exact must_no hends hw⟩
  · have hm' : w'.cell? ⟨b, 2, none⟩ = some (.bool false) := hm
    clear hm
    by_cases hw : v = want
    · go_wp2
      go_end0
      exact ⟨some l', rfl, grown_trans hg (grown_set _ _ _ _), hst.same, must_yes hends hw⟩
    · have hne : ((v : Int) != (want : Int)) = true := by rw [ne_cast]; simpa using hw
      go_wp2
      go_end0
      exact ⟨none, rfl, grown_trans hg (grown_set _ _ _ _), hst.kill hs, must_no hends hw⟩

theorem signed_ends {σ σ' : Option (List Bool)} {n v : Nat} (h : Ends (pNum n) σ v σ') : Ends (pSigned n) σ (sign n v) σ' := Ends.map h

theorem sign_zero (v : Nat) (h : v < 2 ^ 0) : sign 0 v = 0 := by
  have : v = 0 := by simpa using h
  subst this
  rfl

theorem sign_neg (n v : Nat) (h0 : 0 < n) (h : 2 ^ (n - 1) ≤ v) : sign n v = (v : Int) - 2 ^ n := by
  unfold sign; rw [if_pos ⟨h0, h⟩]
theorem sign_pos (n v : Nat) (h : v < 2 ^ (n - 1)) : sign n v = v := by
  unfold sign; rw [if_neg (by omega)]

theorem pow31 (k : Nat) (h : k ≤ 32) : 2 ^ k ≤ 4294967296 := Nat.pow_le_pow_right (n := 2) (by omega) h

theorem sign_bounds (n v : Nat) (hn : n ≤ 32) (hv : v < 2 ^ n) : -2147483648 ≤ sign n v ∧ sign n v ≤ 2147483648 := by
  rcases Nat.eq_zero_or_pos n with rfl | h0
  · rw [sign_zero v hv]; omega
  · obtain ⟨m, rfl⟩ : ∃ m, n = m + 1 := ⟨n - 1, by omega⟩
    have hp : 2 ^ m ≤ 2147483648 := Nat.pow_le_pow_right (n := 2) (j := 31) (by omega) (by omega)
    have e : 2 ^ (m + 1) = 2 ^ m * 2 := Nat.pow_succ 2 m
    rcases Nat.lt_or_ge v (2 ^ m) with h | h
    · rw [sign_pos _ _ h]; omega
    · rw [sign_neg _ _ h0 h]
      have e2 : ((2 : Int) ^ (m + 1)) = ((2 ^ (m + 1) : Nat) : Int) := by simp
      rw [e2]
      omega

theorem ipow (n : Nat) (h : n ≤ 32) : (0 : Int) < 2 ^ n ∧ (2 : Int) ^ n ≤ 4294967296 := by
  have h1 := pow31 n h
  have h2 := Nat.two_pow_pos n
  rw [show (2 : Int) ^ n = ((2 ^ n : Nat) : Int) by simp]
  omega

set_option maxHeartbeats 400000 in
theorem rsigned (w : World) (b : Nat) (s : ByteArray) (n : Nat) (σ : Option (List Bool)) (hs : s.size ≤ 6000) (hn : n ≤ 32) (h : St 86 w b s σ) :
    Calls Try.prog 93 #[.pointer (some ⟨b, 0, none⟩), .int .i64 n] w fun e w' =>
      ∃ (v : Nat) (σ' : Option (List Bool)), e = .returned (.int .i64 (sign n v)) ∧ v < 2 ^ n ∧ w.grownBy w' (some b) ∧ St 86 w' b s σ' ∧ Ends (pSigned n) σ (sign n v) σ' := by
  go_enter Try.func93, Try.ntmps93
  go_wp2_with fail
  refine (rnum _ _ _ _ _ hs (by omega) h).mono ?_
  rintro e w' ⟨v, σ', rfl, hv, hg, hst, hends⟩
  rcases Nat.eq_zero_or_pos n with rfl | h0
  · go_wp2
    go_ret
    exact ⟨v, σ', ret_int (by rw [sign_zero v hv]; exact congrArg Int.ofNat (show v = 0 by simpa using hv)), hv, hg, hst, signed_ends hends⟩
  · have q1 := ipow (n - 1) (by omega)
    have q2 := ipow n (by omega)
    have q3 : (v : Int) < 2 ^ n := by rw [show (2 : Int) ^ n = ((2 ^ n : Nat) : Int) by simp]; omega
    by_cases hge : (2 : Int) ^ (n - 1) ≤ v
    · go_wp2
      go_ret
      exact ⟨v, σ', ret_int (by rw [sign_neg n v h0 (by rw [show (2 : Int) ^ (n - 1) = ((2 ^ (n - 1) : Nat) : Int) by simp] at hge; omega)]), hv, hg, hst, signed_ends hends⟩
    · go_wp2
      go_ret
      exact ⟨v, σ', ret_int (by rw [sign_pos n v (by rw [show (2 : Int) ^ (n - 1) = ((2 ^ (n - 1) : Nat) : Int) by simp] at hge; omega)]), hv, hg, hst, signed_ends hends⟩

theorem noughts_le : ∀ (l : List Bool) (q : Nat) (r : List Bool), pNoughts l = some (q, r) → q + r.length < l.length
  | [], _, _, h => by cases h
  | true :: l, q, r, h => by
    have h' : some (0, l) = some (q, r) := h
    injection h' with h'
    injection h' with h1 h2
    subst h1 h2
    simp
  | false :: l, q, r, h => by
    have h' : (pNoughts l).map (fun (q, r) => (q + 1, r)) = some (q, r) := h
    cases hp : pNoughts l with
    | none => rw [hp] at h'; cases h'
    | some x =>
      obtain ⟨q', r'⟩ := x
      rw [hp] at h'
      injection h' with h'
      injection h' with h1 h2
      subst h1 h2
      have := noughts_le l q' r' hp
      simp
      omega

/-- so many bits 0 have been read -/
theorem noughts_step (l l' : List Bool) (k : Nat) (h : pNoughts l = (pNoughts l').map fun (q, r) => (q + k, r)) (c : Bool) (m : List Bool) (e : l' = c :: m) :
    pNoughts l = if c then some (k, m) else (pNoughts m).map fun (q, r) => (q + (k + 1), r) := by
  subst e
  cases c with
  | true =>
    rw [h]
    show some (0 + k, m) = _
    simp
  | false =>
    rw [h]
    show Option.map _ (Option.map _ (pNoughts m)) = _
    rw [Option.map_map]
    congr 1
    funext x
    obtain ⟨q, r⟩ := x
    simp
    omega

theorem Live.length {t : TypeId} {w : World} {b : Nat} {s : ByteArray} {l : List Bool} (h : Live t w b s l) : l.length ≤ 8 * s.size := by
  obtain ⟨a, ha, hl, _⟩ := h
  rw [hl, List.length_drop, total_bits]
  omega

set_option maxHeartbeats 400000 in
theorem rnoughts (w : World) (b : Nat) (s : ByteArray) (σ : Option (List Bool)) (hs : s.size ≤ 6000) (h : St 86 w b s σ) :
    Calls Try.prog 92 #[.pointer (some ⟨b, 0, none⟩)] w fun e w' =>
      ∃ (q : Nat) (σ' : Option (List Bool)), e = .returned (.int .i64 q) ∧ q ≤ 48000 ∧ w.grownBy w' (some b) ∧ St 86 w' b s σ' ∧ Ends pNoughts σ q σ' := by
  go_enter Try.func92, Try.ntmps92
  go_wp2
  go_loopw [3] (fun i wr => ∃ (k : Nat) (σ' : Option (List Bool)), i = .int .i64 k ∧ k ≤ 48001 ∧ w.grownBy wr (some b) ∧ St 86 wr b s σ' ∧
      ((∃ l l' : List Bool, σ = some l ∧ σ' = some l' ∧ k + l'.length ≤ 48000 ∧ pNoughts l = (pNoughts l').map fun (q, r) => (q + k, r)) ∨ (σ' = none ∧ Ends pNoughts σ 0 none)))
    (fun i _ => 48002 - (intOf i).toNat)
  case atStart =>
    refine ⟨0, σ, rfl, by omega, grown_refl _ _, h, ?_⟩
    cases σ with
    | none => exact .inr ⟨rfl, rfl⟩
    | some l =>
      refine .inl ⟨l, l, rfl, rfl, ?_, ?_⟩
      · have := Live.length h; omega
      · cases pNoughts l <;> rfl
  case round =>
    obtain ⟨k, σ', rfl, hk, hg, hst, ⟨l, l', rfl, rfl, hkl, hno⟩ | ⟨rfl, hends⟩⟩ := hrel
    · have hm : wr.cell? ⟨b, 2, none⟩ = some (.bool false) := Live.mark hst
      have HNO : Hid (pNoughts l = (pNoughts l').map fun (q, r) => (q + k, r)) := hno
      clear hno
      rcases l' with _ | ⟨c, m⟩
      · go_wp2_with (go_at_call 91; refine (rbit_nil _ _ _ hs hst).mono ?_; rintro e w' ⟨rfl, hdead, hg'⟩)
        go_roundw
        case rel => exact ⟨k + 1, none, by go_num, by simp at hkl; omega, grown_trans hg hg', hdead, .inr ⟨rfl, Ends.fail (fun l0 e => by cases e; rw [HNO.out]; rfl)⟩⟩
        case measure => simp at hkl; simp [intOf]; omega
      · simp only [List.length_cons] at hkl
        rcases c with _ | _
        · go_wp2_with (go_at_call 91; refine (rbit_cons _ _ _ _ _ hs hst).mono ?_; rintro e w' ⟨rfl, hlive, hg'⟩)
          go_roundw
          case rel => exact ⟨k + 1, some m, by go_num, by omega, grown_trans hg hg', hlive, .inl ⟨l, m, rfl, rfl, by omega, noughts_step l _ k HNO.out false m rfl⟩⟩
          case measure => simp [intOf]; omega
        · go_wp2_with (go_at_call 91; refine (rbit_cons _ _ _ _ _ hs hst).mono ?_; rintro e w' ⟨rfl, hlive, hg'⟩)
          go_ret
          refine ⟨k, some m, rfl, by omega, grown_trans hg hg', hlive, ?_⟩
          have := noughts_step l _ k HNO.out true m rfl
          simp [Ends, this]
    · have hm : wr.cell? ⟨b, 2, none⟩ = some (.bool true) := Dead.mark hst
      go_wp2
      go_ret
      exact ⟨0, none, rfl, by omega, hg, hst, hends⟩
end Go.Proofs.Ytncmgnmcggkhnaa

namespace Go.Proofs.Ytncmgnmcggkhnaa
open Go.RowKit

theorem St.drew {t : TypeId} {w : World} {b : Nat} {s : ByteArray} {σ : Option (List Bool)} (h : St t w b s σ) : St t w.drew b s σ :=
  h.kept (grown_drew (grown_refl _ none)) (by simp)

theorem Ends.yes {α : Type} {σ : Option (List Bool)} {y : α} {c : Prop} [Decidable c] (h : c) : Ends (fun l => if c then some (y, l) else none) σ y σ := by
  unfold Ends
  cases σ with
  | none => rfl
  | some l => simp [h]

theorem Ends.no {α : Type} {σ : Option (List Bool)} {y x : α} {c : Prop} [Decidable c] (h : ¬ c) : Ends (fun l => if c then some (y, l) else none) σ x none :=
  Ends.fail (fun _ _ => if_neg h)

theorem rice_ends {σ σ1 σ2 : Option (List Bool)} {k q v : Nat} (h1 : Ends pNoughts σ q σ1) (h2 : Ends (pNum k) σ1 v σ2) (hlt : q * 2 ^ k + v < 2 ^ 32) :
    Ends (pRice k) σ (unfold1 (q * 2 ^ k + v)) σ2 :=
  Ends.bind h1 (q := fun q r => (pNum k r).bind fun (v, r') => if q * 2 ^ k + v < 2 ^ 32 then some (unfold1 (q * 2 ^ k + v), r') else none)
    (Ends.bind h2 (q := fun v r' => if q * 2 ^ k + v < 2 ^ 32 then some (unfold1 (q * 2 ^ k + v), r') else none) (Ends.yes hlt))

theorem rice_fail {σ σ1 σ2 : Option (List Bool)} {k q v : Nat} {x : Int} (h1 : Ends pNoughts σ q σ1) (h2 : Ends (pNum k) σ1 v σ2) (hlt : ¬ q * 2 ^ k + v < 2 ^ 32) :
    Ends (pRice k) σ x none :=
  Ends.bind h1 (q := fun q r => (pNum k r).bind fun (v, r') => if q * 2 ^ k + v < 2 ^ 32 then some (unfold1 (q * 2 ^ k + v), r') else none)
    (Ends.bind h2 (q := fun v r' => if q * 2 ^ k + v < 2 ^ 32 then some (unfold1 (q * 2 ^ k + v), r') else none) (Ends.no hlt))

theorem rice_bound (q k v : Nat) (hq : q ≤ 48000) (hk : k ≤ 30) (hv : v < 2 ^ k) : q * 2 ^ k + v < 70368744177664 := by
  have h : 2 ^ k ≤ 1073741824 := Nat.pow_le_pow_right (n := 2) (j := 30) (by omega) hk
  have : q * 2 ^ k ≤ 48000 * 1073741824 := Nat.mul_le_mul hq h
  omega

theorem unfold1_even (u : Nat) (h : u % 2 = 0) : unfold1 u = (u : Int) / 2 := by unfold unfold1; rw [if_pos h]
theorem unfold1_odd (u : Nat) (h : ¬ u % 2 = 0) : unfold1 u = -(((u : Int) + 1) / 2) := by unfold unfold1; rw [if_neg h]

theorem odd_half (u : Nat) (h : u < 70368744177664) : wrap64 (-((u : Int) + 1).tdiv 2) = -(((u : Int) + 1) / 2) := by
  rw [Int.tdiv_eq_ediv_of_nonneg (by omega), IntWalk.wrap64_in _ ⟨by omega, by omega⟩]

set_option maxHeartbeats 400000 in
set_option maxRecDepth 20000 in
theorem rrice (w : World) (b : Nat) (s : ByteArray) (k : Nat) (σ : Option (List Bool)) (hs : s.size ≤ 6000) (hk : k ≤ 30) (h : St 86 w b s σ) :
    Calls Try.prog 134 #[.pointer (some ⟨b, 0, none⟩), .int .i64 k] w fun e w' =>
      ∃ (x : Int) (σ' : Option (List Bool)), e = .returned (.int .i64 x) ∧ -70368744177664 ≤ x ∧ x ≤ 70368744177664 ∧ w.grownBy w' (some b) ∧ St 86 w' b s σ' ∧ Ends (pRice k) σ x σ' := by
  go_enter Try.func134, Try.ntmps134
  go_wp2_with fail
  refine (rnoughts _ _ _ _ hs h).mono ?_
  rintro e w1 ⟨q, σ1, rfl, hq, hg1, hst1, hends1⟩
  have hm0 : (0 : Int) ≤ (q : Int) * 2 ^ k := by rw [show (q : Int) * 2 ^ k = ((q * 2 ^ k : Nat) : Int) by simp]; omega
  have hm1 : (q : Int) * 2 ^ k ≤ 70368744177664 := by
    have := rice_bound q k 0 hq hk (Nat.two_pow_pos _)
    rw [show (q : Int) * 2 ^ k = ((q * 2 ^ k : Nat) : Int) by simp]; omega
  go_wp2
  go_region_with (go_at_call 64; refine (rnum _ _ _ _ _ hs (by omega) hst1.drew).mono ?_; rintro e w2 ⟨v, σ2, rfl, hv, hg2, hst2, hends2⟩)
  have hub := rice_bound q k v hq hk hv
  have hu0 : IntKind.i64.wrap (IntKind.i64.wrap ((q : Int) * 2 ^ k) + (v : Int)) = ((q * 2 ^ k + v : Nat) : Int) := by
    rw [show (q : Int) * 2 ^ k = ((q * 2 ^ k : Nat) : Int) by simp, IntKind.wrap_i64, IntKind.wrap_i64]
    omega
  rw [hu0]
  have hgg : w.grownBy w2 (some b) := grown_trans (grown_drew hg1) hg2
  have HY : Hid (q * 2 ^ k + v < 2 ^ 32 → Ends (pRice k) σ (unfold1 (q * 2 ^ k + v)) σ2) := rice_ends hends1 hends2
  have HN : Hid (∀ x, ¬ q * 2 ^ k + v < 2 ^ 32 → Ends (pRice k) σ x none) := fun x => rice_fail hends1 hends2
  clear hu0 hends1 hends2 hg1 hg2 hst1 hm0 hm1 hv
  generalize q * 2 ^ k + v = u at hub HY HN ⊢
  generalize IntKind.i64.wrap ((q : Int) * 2 ^ k) = z
  have hf := hst2.fz 2
  have hc := hst2.mark
  by_cases hlt : u < 4294967296
  · have hd : decide ((4294967296 : Int) ≤ (u : Int)) = false := decide_eq_false (by omega)
    have HL : Hid (u < 2 ^ 32) := hlt
    clear hlt
    by_cases hev : u % 2 = 0
    · have hev' : ((u : Int) % 2 == 0) = true := by simp; omega
      have HE : Hid (u % 2 = 0) := hev
      clear hev
      go_wp2
      go_ret
      exact ⟨_, σ2, rfl, by omega, by omega, hgg, hst2, by rw [← unfold1_even u HE.out]; exact HY.out HL.out⟩
    · have hev' : ((u : Int) % 2 == 0) = false := by simp; omega
      have HE : Hid (¬ u % 2 = 0) := hev
      clear hev
      go_wp2
      go_ret
      exact ⟨_, σ2, ret_int (odd_half u hub), by omega, by omega, hgg, hst2, by rw [← unfold1_odd u HE.out]; exact HY.out HL.out⟩
  · have hd : decide ((4294967296 : Int) ≤ (u : Int)) = true := decide_eq_true (by omega)
    have HL : Hid (¬ u < 2 ^ 32) := hlt
    clear hlt
    by_cases hev : u % 2 = 0
    · have hev' : ((u : Int) % 2 == 0) = true := by simp; omega
      have HE : Hid (u % 2 = 0) := hev
      clear hev
      go_wp2
      go_ret
      exact ⟨_, none, rfl, by omega, by omega, grown_trans hgg (grown_set _ _ _ _), hst2.kill hs, HN.out _ HL.out⟩
    · have hev' : ((u : Int) % 2 == 0) = false := by simp; omega
      have HE : Hid (¬ u % 2 = 0) := hev
      clear hev
      go_wp2
      go_ret
      exact ⟨_, none, ret_int (odd_half u hub), by omega, by omega, grown_trans hgg (grown_set _ _ _ _), hst2.kill hs, HN.out _ HL.out⟩
end Go.Proofs.Ytncmgnmcggkhnaa

namespace Go.Proofs.Ytncmgnmcggkhnaa
open Go.RowKit

/-- a list of ints in memory of the call's own -/
def Own (w : World) (base : Nat) (v : Value) (xs : List Int) : Prop := w.ownsRow base 3 1 v xs.length (xs.map (Value.int .i64))

theorem Try.info3 : (Try.prog.info? 3).map (fun i => (i.zero, i.size, i.bytes)) = some (some (.int .i64 0), 1, 8) := by kernel_rfl

theorem Own.nil (w : World) (base : Nat) : Own w base (.slice none 0 0) [] := World.ownsRow_nil _ _ _ _

theorem Own.lt {w : World} {base : Nat} {v : Value} {xs : List Int} (h : Own w base v xs) : ∀ k, v.ownBlock = some k → base ≤ k ∧ k < w.heap.size := World.ownsRow.lt h

theorem Own.kept {w w' : World} {base b : Nat} {v : Value} {xs : List Int} (h : Own w base v xs) (hg : w.grownBy w' (some b)) (hb : b < base) : Own w' base v xs := by
  refine World.ownsRow.kept h hg ?_
  cases hv : v.ownBlock with
  | none => exact .inl rfl
  | some k =>
    refine .inr (fun e => ?_)
    injection e with e
    have := (h.lt k hv).1
    omega

theorem Own.step {w w' : World} {base : Nat} {v v' : Value} {xs : List Int} {x : Int} (_h : Own w base v xs)
    (h' : w'.ownsRow base 3 1 v' (xs.length + 1) (xs.map (Value.int .i64) ++ [.int .i64 x])) : Own w' base v' (xs ++ [x]) := by
  unfold Own
  rw [List.length_append, List.length_singleton, List.map_append]
  exact h'

/-- a step that writes one block of the call's own -/
theorem grown_own {w wr w1 : World} {b : Nat} {row : Option Nat} (h : w.grownBy wr (some b)) (hg : wr.grownBy w1 row) (hr : ∀ g, row = some g → w.heap.size ≤ g) : w.grownBy w1 (some b) :=
  ⟨hg.os.trans h.os, hg.tape.trans h.tape, hg.output.trans h.output, Nat.le_trans h.size hg.size,
    fun i hi hib => (hg.block i (Nat.lt_of_lt_of_le hi h.size) (fun e => by have := hr i e.symm; omega)).trans (h.block i hi hib)⟩

theorem grown_from_alloc {w w' : World} {o : Obj} {row : Option Nat} (h : (w.alloc o).grownBy w' row) (_hr : ∀ g, row = some g → g < w.heap.size) : w.grownBy w' row :=
  grown_trans (grown_alloc (grown_refl w row) o) h

theorem one_new (w : World) (x : Int) (ty : TypeId) : ∀ j u, [Value.int .i64 x][j]? = some u → (w.alloc (.cells #[.int .i64 x] ty)).cell? ((⟨w.heap.size, 0, none⟩ : Addr).add j) = some u := by
  intro j u hj
  match j, hj with
  | 0, hj => simp at hj; subst hj; simp [Addr.add]

theorem one_cell (x : Int) : ∀ u ∈ [Value.int .i64 x], u.oneCell' = true := by
  intro u hu
  simp at hu
  subst hu
  rfl

theorem Ends.cases {α : Type} {p : P α} {l : List Bool} {x : α} {σ' : Option (List Bool)} (h : Ends p (some l) x σ') :
    (∃ r, p l = some (x, r) ∧ σ' = some r) ∨ (p l = none ∧ σ' = none) := by
  unfold Ends at h
  cases hp : p l with
  | none => simp [hp] at h; exact .inr ⟨rfl, h⟩
  | some yr =>
    obtain ⟨y, r⟩ := yr
    simp [hp] at h
    exact .inl ⟨r, by rw [h.1], h.2⟩

theorem Ends.of {α : Type} {p : P α} {l : List Bool} {x : α} {r : List Bool} (h : p l = some (x, r)) : Ends p (some l) x (some r) := by
  unfold Ends
  simp [h]

/-! lists that are read one by one -/

def Upto (f : P Int) (n k : Nat) (xs : List Int) (σ σ' : Option (List Bool)) : Prop :=
  (∃ l l' : List Bool, σ = some l ∧ σ' = some l' ∧ xs.length = k ∧ pList f n l = (pList f (n - k) l').map fun (ys, r) => (xs ++ ys, r)) ∨
  (σ' = none ∧ ∀ ys, Ends (pList f n) σ ys none)

theorem Upto.start (f : P Int) (n : Nat) (σ : Option (List Bool)) : Upto f n 0 [] σ σ := by
  cases σ with
  | none => exact .inr ⟨rfl, fun _ => rfl⟩
  | some l =>
    refine .inl ⟨l, l, rfl, rfl, rfl, ?_⟩
    rw [Nat.sub_zero]
    cases pList f n l <;> rfl

theorem Upto.live {f : P Int} {n k : Nat} {xs : List Int} {σ σ' : Option (List Bool)} (h : Upto f n k xs σ σ') (l' : List Bool) (e : σ' = some l') : xs.length = k := by
  rcases h with ⟨_, _, _, _, h, _⟩ | ⟨h, _⟩
  · exact h
  · rw [h] at e; cases e

theorem Upto.next {f : P Int} {n k : Nat} {xs : List Int} {σ σ' σ'' : Option (List Bool)} {x : Int} (h : Upto f n k xs σ σ') (hk : k < n) (hl : σ' ≠ none) (hx : Ends f σ' x σ'') :
    Upto f n (k + 1) (xs ++ [x]) σ σ'' := by
  rcases h with ⟨l, l', rfl, rfl, hlen, hp⟩ | ⟨rfl, _⟩
  · obtain ⟨m, hm⟩ : ∃ m, n - k = m + 1 := ⟨n - k - 1, by omega⟩
    have hm' : n - (k + 1) = m := by omega
    rw [hm] at hp
    have e : pList f (m + 1) l' = (f l').bind fun (x, r) => (pList f m r).map fun (xs, r') => (x :: xs, r') := rfl
    rw [e] at hp
    rcases hx.cases with ⟨r, hf, rfl⟩ | ⟨hf, rfl⟩
    · rw [hf] at hp
      refine .inl ⟨l, r, rfl, rfl, by rw [List.length_append, List.length_singleton, hlen], ?_⟩
      rw [hp, hm']
      show ((pList f m r).map _).map _ = _
      rw [Option.map_map]
      congr 1
      funext z
      obtain ⟨z1, z2⟩ := z
      simp
    · rw [hf] at hp
      refine .inr ⟨rfl, fun ys => Ends.fail (fun l0 e0 => ?_)⟩
      cases e0
      exact hp
  · exact absurd rfl hl

theorem Upto.ends {f : P Int} {n : Nat} {xs : List Int} {σ σ' : Option (List Bool)} (h : Upto f n n xs σ σ') : Ends (pList f n) σ xs σ' := by
  rcases h with ⟨l, l', rfl, rfl, hlen, hp⟩ | ⟨rfl, h⟩
  · refine Ends.of ?_
    rw [hp, Nat.sub_self]
    show some (xs ++ [], l') = _
    simp
  · exact h xs

theorem Upto.dead {f : P Int} {n k : Nat} {xs : List Int} {σ : Option (List Bool)} (h : Upto f n k xs σ none) (ys : List Int) : Ends (pList f n) σ ys none := by
  rcases h with ⟨l, l', rfl, h, _⟩ | ⟨_, h⟩
  · cases h
  · exact h ys

/-- all are numbers of so many signed bits -/
def Signs (wide : Nat) (xs : List Int) : Prop := ∀ x ∈ xs, ∃ v, v < 2 ^ wide ∧ x = sign wide v

theorem Signs.nil (wide : Nat) : Signs wide [] := fun x hx => by cases hx

theorem Signs.snoc {wide : Nat} {xs : List Int} {v : Nat} (h : Signs wide xs) (hv : v < 2 ^ wide) : Signs wide (xs ++ [sign wide v]) := by
  intro y hy
  rcases List.mem_append.1 hy with hy | hy
  · exact h y hy
  · exact ⟨v, hv, List.mem_singleton.1 hy⟩

/-- what a reading of a list leaves -/
def ListPost (w : World) (b : Nat) (s : ByteArray) (σ : Option (List Bool)) (p : P (List Int)) (lim : List Int → Prop) (e : Ending) (w' : World) : Prop :=
  ∃ (v : Value) (xs : List Int) (σ' : Option (List Bool)), e = .returned v ∧ Own w' w.heap.size v xs ∧ lim xs ∧ w.grownBy w' (some b) ∧ St 86 w' b s σ' ∧ Ends p σ xs σ'

set_option maxHeartbeats 1000000 in
set_option maxRecDepth 20000 in
theorem rplain (w : World) (b : Nat) (s : ByteArray) (n wide : Nat) (σ : Option (List Bool)) (hs : s.size ≤ 6000) (hn : n ≤ 256) (hw : wide ≤ 32) (h : St 86 w b s σ) :
    Calls Try.prog 94 #[.pointer (some ⟨b, 0, none⟩), .int .i64 n, .int .i64 wide] w (ListPost w b s σ (pList (pSigned wide) n) fun xs => xs.length ≤ n ∧ Signs wide xs) := by
  obtain ⟨i0, hi, hz0, hz1, hz2⟩ := info_parts Try.info3
  have hblt := h.lt
  go_enter Try.func94, Try.ntmps94
  go_wp2
  go_loopw [7, 8] (fun o i wr => ∃ (k : Nat) (xs : List Int) (σ' : Option (List Bool)), k ≤ n ∧ i = .int .i64 k ∧ Own wr w.heap.size o xs ∧ xs.length ≤ k ∧ Signs wide xs ∧ w.grownBy wr (some b) ∧ St 86 wr b s σ' ∧ Upto (pSigned wide) n k xs σ σ')
    (fun _ i _ => n - (intOf i).toNat)
  case atStart => exact ⟨0, [], σ, Nat.zero_le _, rfl, Own.nil _ _, Nat.le_refl _, Signs.nil _, grown_refl _ _, h, Upto.start _ _ _⟩
  case round =>
    obtain ⟨k, xs, σ', hk, rfl, hown, hxl, hsm, hg, hst, hup⟩ := hrel
    have hm := hst.mark
    by_cases hlt : k < n
    · rcases σ' with _ | l'
      · have hm' : wr.cell? ⟨b, 2, none⟩ = some (.bool true) := hm
        clear hm
        go_wp2
        go_ret
        exact ⟨_, xs, none, rfl, hown, ⟨by omega, hsm⟩, hg, hst, hup.dead xs⟩
      · have hm' : wr.cell? ⟨b, 2, none⟩ = some (.bool false) := hm
        clear hm
        go_wp2_with fail
        refine (rsigned _ _ _ _ _ hs hw hst).mono ?_
        rintro e w1 ⟨v, σ1, rfl, hv, hg1, hst1, hends⟩
        have hown1 := hown.kept hg1 hblt
        have hsb := sign_bounds wide v hw hv
        go_wp2_with (first
          | (at_builtin; refine wpList_append_own _ rfl _ _ 30 rfl w.heap.size 3 i0 (.int .i64 0) 1 8 Try.underlying30 hi hz0 hz1 hz2 rfl (by decide) _ _ _ rfl (hown1.alloc _) ⟨w1.heap.size, 0, none⟩ 1 1 [.int .i64 (sign wide v)] rfl rfl ?c1 ?c2 ?c3 ?c4 ?c5 ?_))
        case c1 => exact one_new _ _ _
        case c2 => exact one_cell _
        case c3 => unfold maxLen; omega
        case c4 => omega
        case c5 => have := hg.size; have := hg1.size; simp; omega
        intro v' w2 hown' hgrow _
        have hown2 := hown1.step hown'
        have hgrow2 : w1.grownBy w2 u7.ownBlock := grown_from_alloc hgrow (fun g hg' => (hown1.lt g hg').2)
        have hg2 : w.grownBy w2 (some b) := grown_own (grown_trans hg hg1) hgrow2 (fun g hg' => (hown1.lt g hg').1)
        have hst2 : St 86 w2 b s σ1 := hst1.kept hgrow2 (fun e => by have := (hown1.lt b e.symm).1; omega)
        clear hown' hgrow hgrow2 hown hown1 hst hst1
        go_wp2
        go_roundw
        case rel => exact ⟨k + 1, xs ++ [sign wide v], σ1, by omega, by go_num, hown2, by simp; omega, hsm.snoc hv, hg2, hst2, hup.next hlt (by simp) hends⟩
        case measure => simp [intOf]; omega
    · obtain rfl : k = n := by omega
      go_wp2
      go_ret
      exact ⟨_, xs, σ', rfl, hown, ⟨hxl, hsm⟩, hg, hst, hup.ends⟩
end Go.Proofs.Ytncmgnmcggkhnaa
