import Derived.Test.YtncmgnmcggkhnaaBackProofJ1
namespace Go.Proofs.Ytncmgnmcggkhnaa
open Go.RowKit

set_option maxHeartbeats 400000 in
theorem rbit_end (w : World) (b : Nat) (s : ByteArray) (a : Nat) (m : Bool) (hs : s.size ≤ 6000) (ha : 8 * s.size ≤ a) (_ha2 : a ≤ 1099511627776) (h : Rd 86 w b s a m) :
    Calls Try.prog 91 #[.pointer (some ⟨b, 0, none⟩)] w fun e w' => e = .returned (.int .i64 0) ∧ Rd 86 w' b s a true ∧ w.grownBy w' (some b) := by
  have c0 := h.c0
  have c1 := h.c1
  have c2 := h.c2
  have f2 := h.fz 2
  go_enter Try.func91, Try.ntmps91
  go_wp2
  go_quiet (fail)
  go_wp2
  go_ret
  exact ⟨rfl, (h.drewN _).set2 true, grown_trans (grown_drewN (grown_refl _ _) _) (grown_set _ _ _ _)⟩

set_option maxHeartbeats 400000 in
theorem rbit_next (w : World) (b : Nat) (s : ByteArray) (a : Nat) (hs : s.size ≤ 6000) (ha : a < 8 * s.size) (h : Rd 86 w b s a false) :
    Calls Try.prog 91 #[.pointer (some ⟨b, 0, none⟩)] w fun e w' => e = .returned (.int .i64 (((bitsOf s.data.toList)[a]'(by rw [total_bits]; exact ha)).toNat : Nat)) ∧ Rd 86 w' b s (a + 1) false ∧ w.grownBy w' (some b) := by
  have c0 := h.c0
  have c1 := h.c1
  have c2 := h.c2
  have f1 := h.fz 1
  have h8 : a / 8 < s.size := by omega
  have hbyte : s[a / 8].toNat < 256 := s[a / 8].toNat_lt
  have hq0 : (0 : Int) ≤ (a : Int) / 8 := by omega
  have hq1 : (a : Int) / 8 < (s.size : Int) := by omega
  have hq2 : IntKind.i64.wrap ((a : Int) / 8) = (a : Int) / 8 := by rw [IntKind.wrap_i64]; omega
  go_enter Try.func91, Try.ntmps91
  go_wp2
  go_quiet (fail)
  go_wp2
  go_quiet (fail)
  go_wp2
  go_ret
  exact ⟨ret_int (bit_read s a ha h8), (h.drewN _).set1 (a + 1), grown_trans (grown_drewN (grown_refl _ _) _) (grown_set _ _ _ _)⟩

theorem rbit_cons (w : World) (b : Nat) (s : ByteArray) (c : Bool) (l : List Bool) (hs : s.size ≤ 6000) (h : Live 86 w b s (c :: l)) :
    Calls Try.prog 91 #[.pointer (some ⟨b, 0, none⟩)] w fun e w' => e = .returned (.int .i64 (c.toNat : Nat)) ∧ Live 86 w' b s l ∧ w.grownBy w' (some b) := by
  obtain ⟨a, ha, hl, h⟩ := h
  have hlt : a < 8 * s.size := by
    rcases Nat.lt_or_ge a (8 * s.size) with h1 | h1
    · exact h1
    · rw [List.drop_of_length_le (by rw [total_bits]; exact h1)] at hl
      cases hl
  rw [List.drop_eq_getElem_cons (by rw [total_bits]; exact hlt)] at hl
  injection hl with hc hl
  refine (rbit_next w b s a hs hlt h).mono ?_
  rintro e w' ⟨rfl, h', hg⟩
  exact ⟨by rw [hc], ⟨a + 1, by omega, hl, h'⟩, hg⟩

theorem rbit_nil (w : World) (b : Nat) (s : ByteArray) (hs : s.size ≤ 6000) (h : Live 86 w b s []) :
    Calls Try.prog 91 #[.pointer (some ⟨b, 0, none⟩)] w fun e w' => e = .returned (.int .i64 0) ∧ Dead 86 w' b s ∧ w.grownBy w' (some b) := by
  obtain ⟨a, ha, hl, h⟩ := h
  have h0 := congrArg List.length hl
  rw [List.length_drop, total_bits, List.length_nil] at h0
  refine (rbit_end w b s a false hs (by omega) (by omega) h).mono ?_
  rintro e w' ⟨rfl, h', hg⟩
  exact ⟨rfl, ⟨a, by omega, h'⟩, hg⟩

/-- what a reader's state holds in its mark -/
theorem Live.mark {t : TypeId} {w : World} {b : Nat} {s : ByteArray} {l : List Bool} (h : Live t w b s l) : w.cell? ⟨b, 2, none⟩ = some (.bool false) := by
  obtain ⟨a, _, _, h⟩ := h
  exact h.c2
theorem Dead.mark {t : TypeId} {w : World} {b : Nat} {s : ByteArray} (h : Dead t w b s) : w.cell? ⟨b, 2, none⟩ = some (.bool true) := by
  obtain ⟨a, _, h⟩ := h
  exact h.c2

theorem val_take_succ (l : List Bool) (k : Nat) (h : k < l.length) : val (l.take (k + 1)) = 2 * val (l.take k) + (l[k]).toNat := by
  rw [List.take_succ_eq_append_getElem h, val_snoc]

theorem pow48 (k : Nat) (h : k ≤ 48) : 2 ^ k ≤ 281474976710656 := Nat.pow_le_pow_right (n := 2) (by omega) h

set_option maxHeartbeats 1000000 in
theorem rnum_live (w : World) (b : Nat) (s : ByteArray) (n : Nat) (l : List Bool) (hs : s.size ≤ 6000) (hn : n ≤ 48) (h : Live 86 w b s l) :
    Calls Try.prog 64 #[.pointer (some ⟨b, 0, none⟩), .int .i64 n] w fun e w' =>
      ∃ v : Nat, e = .returned (.int .i64 v) ∧ v < 2 ^ n ∧ w.grownBy w' (some b) ∧
        ((n ≤ l.length ∧ v = val (l.take n) ∧ Live 86 w' b s (l.drop n)) ∨ (l.length < n ∧ Dead 86 w' b s)) := by
  go_enter Try.func64, Try.ntmps64
  go_wp2
  go_loopw [5, 6] (fun o i wr => ∃ k v : Nat, k ≤ n ∧ i = .int .i64 k ∧ o = .int .i64 v ∧ v < 2 ^ k ∧ w.grownBy wr (some b) ∧
      ((k ≤ l.length ∧ v = val (l.take k) ∧ Live 86 wr b s (l.drop k)) ∨ (l.length < n ∧ Dead 86 wr b s)))
    (fun _ i _ => n - (intOf i).toNat)
  case atStart => exact ⟨0, 0, Nat.zero_le _, rfl, rfl, by decide, grown_refl _ _, .inl ⟨Nat.zero_le _, rfl, h⟩⟩
  case round =>
    obtain ⟨k, v, hk, rfl, rfl, hv, hg, hst⟩ := hrel
    have hp := pow48 k (by omega)
    by_cases hlt : k < n
    · rcases hst with ⟨hkl, hval, hlive⟩ | ⟨hsh, hdead⟩
      · have hm := hlive.mark
        have HV : Hid (v = val (l.take k)) := hval
        clear hval
        rcases Nat.lt_or_ge k l.length with hk2 | hk2
        · rw [List.drop_eq_getElem_cons hk2] at hlive
          have hone : (l[k]).toNat ≤ 1 := Bool.toNat_le _
          go_wp2_with (go_at_call 91; refine (rbit_cons _ _ _ _ _ hs hlive).mono ?_; rintro e w' ⟨rfl, hlive', hg'⟩)
          go_roundw
          case rel => exact ⟨k + 1, 2 * v + (l[k]).toNat, by omega, by go_num, by go_num, by rw [Nat.pow_succ]; omega, grown_trans hg hg', .inl ⟨by omega, by rw [val_take_succ l k hk2, HV.out], hlive'⟩⟩
          case measure => simp [intOf]; omega
        · rw [List.drop_of_length_le hk2] at hlive
          go_wp2_with (go_at_call 91; refine (rbit_nil _ _ _ hs hlive).mono ?_; rintro e w' ⟨rfl, hdead, hg'⟩)
          go_roundw
          case rel => exact ⟨k + 1, 2 * v, by omega, by go_num, by go_num, by rw [Nat.pow_succ]; omega, grown_trans hg hg', .inr ⟨by omega, hdead⟩⟩
          case measure => simp [intOf]; omega
      · have hm := hdead.mark
        go_wp2
        go_ret
        exact ⟨v, rfl, Nat.lt_of_lt_of_le hv (Nat.pow_le_pow_right (by omega) hk), hg, .inr ⟨hsh, hdead⟩⟩
    · obtain rfl : k = n := by omega
      go_wp2
      go_ret
      exact ⟨v, rfl, hv, hg, hst⟩
end Go.Proofs.Ytncmgnmcggkhnaa

namespace Go.Proofs.Ytncmgnmcggkhnaa
open Go.RowKit

/-- how a reading ends: dead stays dead; else as the parser says -/
def Ends {α : Type} (p : P α) (σ : Option (List Bool)) (x : α) (σ' : Option (List Bool)) : Prop :=
  match σ with
  | none => σ' = none
  | some l => match p l with
    | some (y, r) => x = y ∧ σ' = some r
    | none => σ' = none

theorem Ends.bind {α β : Type} {p : P α} {q : α → P β} {σ σ' σ'' : Option (List Bool)} {x : α} {y : β} (h : Ends p σ x σ') (k : Ends (q x) σ' y σ'') :
    Ends (fun l => (p l).bind fun (x, r) => q x r) σ y σ'' := by
  unfold Ends at *
  cases σ with
  | none => subst h; exact k
  | some l =>
    simp only at h ⊢
    cases hp : p l with
    | none => rw [hp] at h; subst h; exact k
    | some xr =>
      obtain ⟨x', r⟩ := xr
      rw [hp] at h
      obtain ⟨rfl, rfl⟩ := h
      exact k

theorem Ends.map {α β : Type} {p : P α} {f : α → β} {σ σ' : Option (List Bool)} {x : α} (h : Ends p σ x σ') :
    Ends (fun l => (p l).map fun (x, r) => (f x, r)) σ (f x) σ' := by
  unfold Ends at *
  cases σ with
  | none => exact h
  | some l =>
    simp only at h ⊢
    cases hp : p l with
    | none => rw [hp] at h; exact h
    | some xr =>
      obtain ⟨x', r⟩ := xr
      rw [hp] at h
      obtain ⟨rfl, rfl⟩ := h
      exact ⟨rfl, rfl⟩

theorem Ends.fail {α : Type} {p : P α} {σ : Option (List Bool)} {x : α} (h : ∀ l, σ = some l → p l = none) : Ends p σ x none := by
  unfold Ends
  cases σ with
  | none => rfl
  | some l =>
    show match p l with | some (y, r) => x = y ∧ none = some r | none => none = none
    rw [h l rfl]

theorem Ends.dead {α : Type} {p : P α} {x : α} : Ends p none x none := rfl

theorem Ends.dead_any {α : Type} {p : P α} {σ : Option (List Bool)} {x : α} (y : α) (h : Ends p σ x none) : Ends p σ y none := by
  unfold Ends at *
  cases σ with
  | none => rfl
  | some l =>
    show match p l with | some (z, r) => y = z ∧ none = some r | none => none = none
    have h' : match p l with | some (z, r) => x = z ∧ none = some r | none => none = none := h
    cases hp : p l with
    | none => rfl
    | some xr =>
      obtain ⟨x', r⟩ := xr
      rw [hp] at h'
      cases h'.2

theorem St.kept {t : TypeId} {w w' : World} {b : Nat} {s : ByteArray} {σ : Option (List Bool)} {row : Option Nat} (h : St t w b s σ) (hg : w.grownBy w' row) (hne : some b ≠ row) : St t w' b s σ := by
  cases σ with
  | none => obtain ⟨a, ha, h⟩ := h; exact ⟨a, ha, h.kept hg hne⟩
  | some l => obtain ⟨a, ha, hl, h⟩ := h; exact ⟨a, ha, hl, h.kept hg hne⟩

theorem St.lt {t : TypeId} {w : World} {b : Nat} {s : ByteArray} {σ : Option (List Bool)} (h : St t w b s σ) : b < w.heap.size := by
  cases σ with
  | none => obtain ⟨a, ha, h⟩ := h; exact h.lt
  | some l => obtain ⟨a, ha, hl, h⟩ := h; exact h.lt

/-- the mark, in one form -/
theorem St.mark {t : TypeId} {w : World} {b : Nat} {s : ByteArray} {σ : Option (List Bool)} (h : St t w b s σ) : w.cell? ⟨b, 2, none⟩ = some (.bool σ.isNone) := by
  cases σ with
  | none => exact Dead.mark h
  | some l => exact Live.mark h

theorem St.fz {t : TypeId} {w : World} {b : Nat} {s : ByteArray} {σ : Option (List Bool)} (h : St t w b s σ) (i : Nat) : w.frozen? ⟨b, i, none⟩ = false := by
  cases σ with
  | none => obtain ⟨a, ha, h⟩ := h; exact h.fz i
  | some l => obtain ⟨a, ha, hl, h⟩ := h; exact h.fz i

theorem St.str {t : TypeId} {w : World} {b : Nat} {s : ByteArray} {σ : Option (List Bool)} (h : St t w b s σ) : w.cell? ⟨b, 0, none⟩ = some (.string s) := by
  cases σ with
  | none => obtain ⟨a, ha, h⟩ := h; exact h.c0
  | some l => obtain ⟨a, ha, hl, h⟩ := h; exact h.c0

/-- the mark is set -/
theorem St.kill {t : TypeId} {w : World} {b : Nat} {s : ByteArray} {σ : Option (List Bool)} (hs : s.size ≤ 6000) (h : St t w b s σ) : St t (w.setCell ⟨b, 2, none⟩ (.bool true)) b s none := by
  cases σ with
  | none => obtain ⟨a, ha, h⟩ := h; exact ⟨a, ha, h.set2 true⟩
  | some l => obtain ⟨a, ha, hl, h⟩ := h; exact ⟨a, by omega, h.set2 true⟩

/-- the mark is laid as it was -/
theorem St.same {t : TypeId} {w : World} {b : Nat} {s : ByteArray} {l : List Bool} (h : St t w b s (some l)) : St t (w.setCell ⟨b, 2, none⟩ (.bool false)) b s (some l) := by
  obtain ⟨a, ha, hl, h⟩ := h
  exact ⟨a, ha, hl, h.set2 false⟩

theorem St.drewN {t : TypeId} {w : World} {b : Nat} {s : ByteArray} {σ : Option (List Bool)} (h : St t w b s σ) (n : Nat) : St t (w.drewN n) b s σ :=
  h.kept (grown_drewN (grown_refl _ none) n) (by simp)

set_option maxHeartbeats 400000 in
theorem rnum_dead (w : World) (b : Nat) (s : ByteArray) (n : Nat) (hn : n ≤ 48) (h : Dead 86 w b s) :
    Calls Try.prog 64 #[.pointer (some ⟨b, 0, none⟩), .int .i64 n] w fun e w' => e = .returned (.int .i64 0) ∧ w' = w := by
  have hm := h.mark
  by_cases h0 : 0 < n
  · go_enter Try.func64, Try.ntmps64
    go_wp2
    go_loop [5, 6] (fun o i => o = .int .i64 0 ∧ i = .int .i64 0) (fun _ _ => 0)
    case atStart => exact ⟨rfl, rfl⟩
    case round =>
      obtain ⟨rfl, rfl⟩ := hrel
      go_wp2
      go_ret
      exact ⟨rfl, rfl⟩
  · obtain rfl : n = 0 := by omega
    go_enter Try.func64, Try.ntmps64
    go_wp2
    go_loop [5, 6] (fun o i => o = .int .i64 0 ∧ i = .int .i64 0) (fun _ _ => 0)
    case atStart => exact ⟨rfl, rfl⟩
    case round =>
      obtain ⟨rfl, rfl⟩ := hrel
      go_wp2
      go_ret
      exact ⟨rfl, rfl⟩

theorem rnum (w : World) (b : Nat) (s : ByteArray) (n : Nat) (σ : Option (List Bool)) (hs : s.size ≤ 6000) (hn : n ≤ 48) (h : St 86 w b s σ) :
    Calls Try.prog 64 #[.pointer (some ⟨b, 0, none⟩), .int .i64 n] w fun e w' =>
      ∃ (v : Nat) (σ' : Option (List Bool)), e = .returned (.int .i64 v) ∧ v < 2 ^ n ∧ w.grownBy w' (some b) ∧ St 86 w' b s σ' ∧ Ends (pNum n) σ v σ' := by
  cases σ with
  | none =>
    refine (rnum_dead w b s n hn h).mono ?_
    rintro e w' ⟨rfl, rfl⟩
    exact ⟨0, none, rfl, Nat.two_pow_pos _, grown_refl _ _, h, rfl⟩
  | some l =>
    refine (rnum_live w b s n l hs hn h).mono ?_
    rintro e w' ⟨v, rfl, hv, hg, ⟨hl, hval, hlive⟩ | ⟨hl, hdead⟩⟩
    · refine ⟨v, some (l.drop n), rfl, hv, hg, hlive, ?_⟩
      simp [Ends, pNum, hl, hval]
    · refine ⟨v, none, rfl, hv, hg, hdead, ?_⟩
      simp [Ends, pNum, show ¬ n ≤ l.length by omega]

theorem must_yes {σ σ' : Option (List Bool)} {n v : Nat} {want : Nat} (h : Ends (pNum n) σ v σ') (hv : v = want) : Ends (pMust n want) σ () σ' := by
  refine Ends.bind h (q := fun x r => if x = want then some ((), r) else none) ?_
  unfold Ends
  cases σ' with
  | none => rfl
  | some l => simp [hv]

theorem must_no {σ σ' : Option (List Bool)} {n v : Nat} {want : Nat} (h : Ends (pNum n) σ v σ') (hv : v ≠ want) : Ends (pMust n want) σ () none := by
  refine Ends.bind h (q := fun x r => if x = want then some ((), r) else none) ?_
  unfold Ends
  cases σ' with
  | none => rfl
  | some l => simp [hv]

set_option maxHeartbeats 400000 in
theorem rmust (w : World) (b : Nat) (s : ByteArray) (n want : Nat) (σ : Option (List Bool)) (hs : s.size ≤ 6000) (hn : n ≤ 48) (_hwant : want ≤ 65536) (h : St 86 w b s σ) :
    Calls Try.prog 63 #[.pointer (some ⟨b, 0, none⟩), .int .i64 n, .int .i64 want] w fun e w' =>
      ∃ σ' : Option (List Bool), e = .returned (.tuple #[]) ∧ w.grownBy w' (some b) ∧ St 86 w' b s σ' ∧ Ends (pMust n want) σ () σ' := by
  go_enter Try.func63, Try.ntmps63
  go_wp2_with fail
  refine (rnum _ _ _ _ _ hs hn h).mono ?_
  rintro e w' ⟨v, σ', rfl, hv, hg, hst, hends⟩
  have hf := hst.fz 2
  have hm := hst.mark
  rcases σ' with _ | l'
  · have hm' : w'.cell? ⟨b, 2, none⟩ = some (.bool true) := hm
    clear hm
    go_wp2
    go_end0
    exact ⟨none, rfl, grown_trans hg (grown_set _ _ _ _), hst.kill hs, by by_cases hw : v = want; exact must_yes hends hw; exact must_no hends hw⟩
  · have hm' : w'.cell? ⟨b, 2, none⟩ = some (.bool false) := hm
    clear hm
    by_cases hw : v = want
    · go_wp2
      go_end0
      exact ⟨some l', rfl, grown_trans hg (grown_set _ _ _ _), hst.same, must_yes hends hw⟩
    · have hne : ((v : Int) != (want : Int)) = true := by rw [ne_cast]; simpa using hw
      go_wp2
      go_end0
      exact ⟨none, rfl, grown_trans hg (grown_set _ _ _ _), hst.kill hs, must_no hends hw⟩

theorem signed_ends {σ σ' : Option (List Bool)} {n v : Nat} (h : Ends (pNum n) σ v σ') : Ends (pSigned n) σ (sign n v) σ' := Ends.map h

theorem sign_zero (v : Nat) (h : v < 2 ^ 0) : sign 0 v = 0 := by
  have : v = 0 := by simpa using h
  subst this
  rfl

theorem sign_neg (n v : Nat) (h0 : 0 < n) (h : 2 ^ (n - 1) ≤ v) : sign n v = (v : Int) - 2 ^ n := by
  unfold sign; rw [if_pos ⟨h0, h⟩]
theorem sign_pos (n v : Nat) (h : v < 2 ^ (n - 1)) : sign n v = v := by
  unfold sign; rw [if_neg (by omega)]

theorem pow31 (k : Nat) (h : k ≤ 32) : 2 ^ k ≤ 4294967296 := Nat.pow_le_pow_right (n := 2) (by omega) h

theorem sign_bounds (n v : Nat) (hn : n ≤ 32) (hv : v < 2 ^ n) : -2147483648 ≤ sign n v ∧ sign n v ≤ 2147483648 := by
  rcases Nat.eq_zero_or_pos n with rfl | h0
  · rw [sign_zero v hv]; omega
  · obtain ⟨m, rfl⟩ : ∃ m, n = m + 1 := ⟨n - 1, by omega⟩
    have hp : 2 ^ m ≤ 2147483648 := Nat.pow_le_pow_right (n := 2) (j := 31) (by omega) (by omega)
    have e : 2 ^ (m + 1) = 2 ^ m * 2 := Nat.pow_succ 2 m
    rcases Nat.lt_or_ge v (2 ^ m) with h | h
    · rw [sign_pos _ _ h]; omega
    · rw [sign_neg _ _ h0 h]
      have e2 : ((2 : Int) ^ (m + 1)) = ((2 ^ (m + 1) : Nat) : Int) := by simp
      rw [e2]
      omega

theorem ipow (n : Nat) (h : n ≤ 32) : (0 : Int) < 2 ^ n ∧ (2 : Int) ^ n ≤ 4294967296 := by
  have h1 := pow31 n h
  have h2 := Nat.two_pow_pos n
  rw [show (2 : Int) ^ n = ((2 ^ n : Nat) : Int) by simp]
  omega

set_option maxHeartbeats 400000 in
theorem rsigned (w : World) (b : Nat) (s : ByteArray) (n : Nat) (σ : Option (List Bool)) (hs : s.size ≤ 6000) (hn : n ≤ 32) (h : St 86 w b s σ) :
    Calls Try.prog 93 #[.pointer (some ⟨b, 0, none⟩), .int .i64 n] w fun e w' =>
      ∃ (v : Nat) (σ' : Option (List Bool)), e = .returned (.int .i64 (sign n v)) ∧ v < 2 ^ n ∧ w.grownBy w' (some b) ∧ St 86 w' b s σ' ∧ Ends (pSigned n) σ (sign n v) σ' := by
  go_enter Try.func93, Try.ntmps93
  go_wp2_with fail
  refine (rnum _ _ _ _ _ hs (by omega) h).mono ?_
  rintro e w' ⟨v, σ', rfl, hv, hg, hst, hends⟩
  rcases Nat.eq_zero_or_pos n with rfl | h0
  · go_wp2
    go_ret
    exact ⟨v, σ', ret_int (by rw [sign_zero v hv]; exact congrArg Int.ofNat (show v = 0 by simpa using hv)), hv, hg, hst, signed_ends hends⟩
  · have q1 := ipow (n - 1) (by omega)
    have q2 := ipow n (by omega)
    have q3 : (v : Int) < 2 ^ n := by rw [show (2 : Int) ^ n = ((2 ^ n : Nat) : Int) by simp]; omega
    by_cases hge : (2 : Int) ^ (n - 1) ≤ v
    · go_wp2
      go_ret
      exact ⟨v, σ', ret_int (by rw [sign_neg n v h0 (by rw [show (2 : Int) ^ (n - 1) = ((2 ^ (n - 1) : Nat) : Int) by simp] at hge; omega)]), hv, hg, hst, signed_ends hends⟩
    · go_wp2
      go_ret
      exact ⟨v, σ', ret_int (by rw [sign_pos n v (by rw [show (2 : Int) ^ (n - 1) = ((2 ^ (n - 1) : Nat) : Int) by simp] at hge; omega)]), hv, hg, hst, signed_ends hends⟩

theorem noughts_le : ∀ (l : List Bool) (q : Nat) (r : List Bool), pNoughts l = some (q, r) → q + r.length < l.length
  | [], _, _, h => by cases h
  | true :: l, q, r, h => by
    have h' : some (0, l) = some (q, r) := h
    injection h' with h'
    injection h' with h1 h2
    subst h1 h2
    simp
  | false :: l, q, r, h => by
    have h' : (pNoughts l).map (fun (q, r) => (q + 1, r)) = some (q, r) := h
    cases hp : pNoughts l with
    | none => rw [hp] at h'; cases h'
    | some x =>
      obtain ⟨q', r'⟩ := x
      rw [hp] at h'
      injection h' with h'
      injection h' with h1 h2
      subst h1 h2
      have := noughts_le l q' r' hp
      simp
      omega

/-- so many bits 0 have been read -/
theorem noughts_step (l l' : List Bool) (k : Nat) (h : pNoughts l = (pNoughts l').map fun (q, r) => (q + k, r)) (c : Bool) (m : List Bool) (e : l' = c :: m) :
    pNoughts l = if c then some (k, m) else (pNoughts m).map fun (q, r) => (q + (k + 1), r) := by
  subst e
  cases c with
  | true =>
    rw [h]
    show some (0 + k, m) = _
    simp
  | false =>
    rw [h]
    show Option.map _ (Option.map _ (pNoughts m)) = _
    rw [Option.map_map]
    congr 1
    funext x
    obtain ⟨q, r⟩ := x
    simp
    omega

theorem Live.length {t : TypeId} {w : World} {b : Nat} {s : ByteArray} {l : List Bool} (h : Live t w b s l) : l.length ≤ 8 * s.size := by
  obtain ⟨a, ha, hl, _⟩ := h
  rw [hl, List.length_drop, total_bits]
  omega

set_option maxHeartbeats 400000 in
theorem rnoughts (w : World) (b : Nat) (s : ByteArray) (σ : Option (List Bool)) (hs : s.size ≤ 6000) (h : St 86 w b s σ) :
    Calls Try.prog 92 #[.pointer (some ⟨b, 0, none⟩)] w fun e w' =>
      ∃ (q : Nat) (σ' : Option (List Bool)), e = .returned (.int .i64 q) ∧ q ≤ 48000 ∧ w.grownBy w' (some b) ∧ St 86 w' b s σ' ∧ Ends pNoughts σ q σ' := by
  go_enter Try.func92, Try.ntmps92
  go_wp2
  go_loopw [3] (fun i wr => ∃ (k : Nat) (σ' : Option (List Bool)), i = .int .i64 k ∧ k ≤ 48001 ∧ w.grownBy wr (some b) ∧ St 86 wr b s σ' ∧
      ((∃ l l' : List Bool, σ = some l ∧ σ' = some l' ∧ k + l'.length ≤ 48000 ∧ pNoughts l = (pNoughts l').map fun (q, r) => (q + k, r)) ∨ (σ' = none ∧ Ends pNoughts σ 0 none)))
    (fun i _ => 48002 - (intOf i).toNat)
  case atStart =>
    refine ⟨0, σ, rfl, by omega, grown_refl _ _, h, ?_⟩
    cases σ with
    | none => exact .inr ⟨rfl, rfl⟩
    | some l =>
      refine .inl ⟨l, l, rfl, rfl, ?_, ?_⟩
      · have := Live.length h; omega
      · cases pNoughts l <;> rfl
  case round =>
    obtain ⟨k, σ', rfl, hk, hg, hst, ⟨l, l', rfl, rfl, hkl, hno⟩ | ⟨rfl, hends⟩⟩ := hrel
    · have hm : wr.cell? ⟨b, 2, none⟩ = some (.bool false) := Live.mark hst
      have HNO : Hid (pNoughts l = (pNoughts l').map fun (q, r) => (q + k, r)) := hno
      clear hno
      rcases l' with _ | ⟨c, m⟩
      · go_wp2_with (go_at_call 91; refine (rbit_nil _ _ _ hs hst).mono ?_; rintro e w' ⟨rfl, hdead, hg'⟩)
        go_roundw
        case rel => exact ⟨k + 1, none, by go_num, by simp at hkl; omega, grown_trans hg hg', hdead, .inr ⟨rfl, Ends.fail (fun l0 e => by cases e; rw [HNO.out]; rfl)⟩⟩
        case measure => simp at hkl; simp [intOf]; omega
      · simp only [List.length_cons] at hkl
        rcases c with _ | _
        · go_wp2_with (go_at_call 91; refine (rbit_cons _ _ _ _ _ hs hst).mono ?_; rintro e w' ⟨rfl, hlive, hg'⟩)
          go_roundw
          case rel => exact ⟨k + 1, some m, by go_num, by omega, grown_trans hg hg', hlive, .inl ⟨l, m, rfl, rfl, by omega, noughts_step l _ k HNO.out false m rfl⟩⟩
          case measure => simp [intOf]; omega
        · go_wp2_with (go_at_call 91; refine (rbit_cons _ _ _ _ _ hs hst).mono ?_; rintro e w' ⟨rfl, hlive, hg'⟩)
          go_ret
          refine ⟨k, some m, rfl, by omega, grown_trans hg hg', hlive, ?_⟩
          have := noughts_step l _ k HNO.out true m rfl
          simp [Ends, this]
    · have hm : wr.cell? ⟨b, 2, none⟩ = some (.bool true) := Dead.mark hst
      go_wp2
      go_ret
      exact ⟨0, none, rfl, by omega, hg, hst, hends⟩
end Go.Proofs.Ytncmgnmcggkhnaa

namespace Go.Proofs.Ytncmgnmcggkhnaa
open Go.RowKit

/-- the program's reader: alive, or at the end with the mark set -/
def Sp (w : World) (b : Nat) (s : ByteArray) : Option (List Bool) → Prop
  | some l => Live 169 w b s l
  | none => Rd 169 w b s (8 * s.size) true

theorem Sp.lt {w : World} {b : Nat} {s : ByteArray} {σ : Option (List Bool)} (h : Sp w b s σ) : b < w.heap.size := by
  cases σ with
  | none => exact Rd.lt h
  | some l => obtain ⟨a, _, _, h⟩ := h; exact h.lt

theorem Sp.kept {w w' : World} {b : Nat} {s : ByteArray} {σ : Option (List Bool)} {row : Option Nat} (h : Sp w b s σ) (hg : w.grownBy w' row) (hne : some b ≠ row) : Sp w' b s σ := by
  cases σ with
  | none => exact Rd.kept h hg hne
  | some l => obtain ⟨a, ha, hl, h⟩ := h; exact ⟨a, ha, hl, h.kept hg hne⟩

theorem Sp.drewN {w : World} {b : Nat} {s : ByteArray} {σ : Option (List Bool)} (h : Sp w b s σ) (n : Nat) : Sp (w.drewN n) b s σ :=
  h.kept (grown_drewN (grown_refl _ none) n) (by simp)

/-- the place, in one form -/
theorem Sp.rd {w : World} {b : Nat} {s : ByteArray} {σ : Option (List Bool)} (h : Sp w b s σ) :
    ∃ a, a ≤ 8 * s.size ∧ Rd 169 w b s a σ.isNone ∧ (σ = none → a = 8 * s.size) ∧ ∀ l, σ = some l → l = (bitsOf s.data.toList).drop a ∧ a + l.length = 8 * s.size := by
  cases σ with
  | none => exact ⟨8 * s.size, Nat.le_refl _, h, fun _ => rfl, fun l e => by cases e⟩
  | some l =>
    obtain ⟨a, ha, hl, h⟩ := h
    refine ⟨a, ha, h, fun e => (by cases e), fun l' e => ?_⟩
    cases e
    refine ⟨hl, ?_⟩
    rw [hl, List.length_drop, total_bits]
    omega

set_option maxHeartbeats 400000 in
theorem qbit_next (w : World) (b : Nat) (s : ByteArray) (a : Nat) (hs : s.size ≤ 6000) (ha : a < 8 * s.size) (h : Rd 169 w b s a false) :
    Calls Try.prog 113 #[.pointer (some ⟨b, 0, none⟩)] w fun e w' => e = .returned (.int .i64 (((bitsOf s.data.toList)[a]'(by rw [total_bits]; exact ha)).toNat : Nat)) ∧ Rd 169 w' b s (a + 1) false ∧ w.grownBy w' (some b) := by
  have c0 := h.c0
  have c1 := h.c1
  have f1 := h.fz 1
  have h8 : a / 8 < s.size := by omega
  have hbyte : s[a / 8].toNat < 256 := s[a / 8].toNat_lt
  have hq0 : (0 : Int) ≤ (a : Int) / 8 := by omega
  have hq1 : (a : Int) / 8 < (s.size : Int) := by omega
  have hq2 : IntKind.i64.wrap ((a : Int) / 8) = (a : Int) / 8 := by rw [IntKind.wrap_i64]; omega
  go_enter Try.func113, Try.ntmps113
  go_wp2
  go_quiet (fail)
  go_wp2
  go_ret
  exact ⟨ret_int (bit_read s a ha h8), (h.drewN _).set1 (a + 1), grown_trans (grown_drewN (grown_refl _ _) _) (grown_set _ _ _ _)⟩

theorem qbit (w : World) (b : Nat) (s : ByteArray) (c : Bool) (l : List Bool) (hs : s.size ≤ 6000) (h : Sp w b s (some (c :: l))) :
    Calls Try.prog 113 #[.pointer (some ⟨b, 0, none⟩)] w fun e w' => e = .returned (.int .i64 (c.toNat : Nat)) ∧ Sp w' b s (some l) ∧ w.grownBy w' (some b) := by
  obtain ⟨a, ha, hl, h⟩ := h
  have hlt : a < 8 * s.size := by
    rcases Nat.lt_or_ge a (8 * s.size) with h1 | h1
    · exact h1
    · rw [List.drop_of_length_le (by rw [total_bits]; exact h1)] at hl
      cases hl
  rw [List.drop_eq_getElem_cons (by rw [total_bits]; exact hlt)] at hl
  injection hl with hc hl
  refine (qbit_next w b s a hs hlt h).mono ?_
  rintro e w' ⟨rfl, h', hg⟩
  exact ⟨by rw [hc], ⟨a + 1, by omega, hl, h'⟩, hg⟩

set_option maxHeartbeats 400000 in
theorem qleft (w : World) (b : Nat) (s : ByteArray) (a : Nat) (m : Bool) (hs : s.size ≤ 6000) (ha : a ≤ 8 * s.size) (h : Rd 169 w b s a m) :
    Calls Try.prog 111 #[.pointer (some ⟨b, 0, none⟩)] w fun e w' => e = .returned (.int .i64 ((8 * s.size - a : Nat) : Int)) ∧ ∃ d, w' = w.drewN d := by
  have c0 := h.c0
  have c1 := h.c1
  go_enter Try.func111, Try.ntmps111
  go_wp2
  go_quiet (fail)
  go_wp2
  go_ret
  exact ⟨ret_int (by omega), _, rfl⟩

set_option maxHeartbeats 400000 in
theorem qend (w : World) (b : Nat) (s : ByteArray) (a : Nat) (m : Bool) (hs : s.size ≤ 6000) (h : Rd 169 w b s a m) :
    Calls Try.prog 112 #[.pointer (some ⟨b, 0, none⟩)] w fun e w' => e = .returned (.tuple #[]) ∧ Sp w' b s none ∧ w.grownBy w' (some b) := by
  have c0 := h.c0
  have c1 := h.c1
  have c2 := h.c2
  have f1 := h.fz 1
  have f2 := h.fz 2
  go_enter Try.func112, Try.ntmps112
  go_wp2
  go_end0
  exact ⟨rfl, (h.set1 (8 * s.size)).set2 true, grown_trans (grown_set _ _ _ _) (grown_set _ _ _ _)⟩

theorem or_bit (v c : Nat) (hv : 2 * v < 9223372036854775808) (hc : c ≤ 1) : bits .or .i64 ((v : Int) * 2) (c : Int) = ((2 * v + c : Nat) : Int) := by
  rw [show ((v : Int) * 2) = ((2 * v : Nat) : Int) by omega]
  have e0 : 2 * v + c = 2 * v ||| c := Nat.two_pow_add_eq_or_of_lt (i := 1) (b := c) (by omega) v
  have h1 : (BitVec.ofInt 64 ((2 * v : Nat) : Int)).toNat = 2 * v := by
    rw [BitVec.ofInt_natCast, BitVec.toNat_ofNat]; exact Nat.mod_eq_of_lt (by omega)
  have h2 : (BitVec.ofInt 64 (c : Int)).toNat = c := by
    rw [BitVec.ofInt_natCast, BitVec.toNat_ofNat]; exact Nat.mod_eq_of_lt (by omega)
  show IntKind.i64.wrap ((BitVec.ofInt 64 ((2 * v : Nat) : Int) ||| BitVec.ofInt 64 (c : Int)).toNat : Int) = _
  rw [BitVec.toNat_or, h1, h2, IntKind.wrap_i64, ← e0]
  omega

def NumPost (w : World) (b : Nat) (s : ByteArray) (n : Nat) (σ : Option (List Bool)) (e : Ending) (w' : World) : Prop :=
  ∃ (v : Nat) (σ' : Option (List Bool)), e = .returned (.int .i64 v) ∧ v < 2 ^ n ∧ (σ' = none → v = 0) ∧ w.grownBy w' (some b) ∧ Sp w' b s σ' ∧ Ends (pNum n) σ v σ'

set_option maxHeartbeats 1000000 in
theorem qnum (w : World) (b : Nat) (s : ByteArray) (n : Nat) (σ : Option (List Bool)) (hs : s.size ≤ 6000) (hn : n ≤ 48) (h : Sp w b s σ) :
    Calls Try.prog 89 #[.pointer (some ⟨b, 0, none⟩), .int .i64 n] w (NumPost w b s n σ) := by
  obtain ⟨a, ha, hrd, hnone, hsome⟩ := h.rd
  go_enter Try.func89, Try.ntmps89
  go_wp2_with fail
  refine (qleft _ _ _ _ _ hs ha hrd).mono ?_
  rintro e w1 ⟨rfl, d, rfl⟩
  have hrd1 := hrd.drewN d
  have hg1 : w.grownBy (w.drewN d) (some b) := grown_drewN (grown_refl _ _) d
  by_cases hlt : 8 * s.size - a < n
  · go_wp2_with fail
    refine (qend _ _ _ _ _ hs hrd1).mono ?_
    rintro e w2 ⟨rfl, hsp, hg2⟩
    go_wp2
    go_ret
    refine ⟨0, none, rfl, Nat.two_pow_pos _, fun _ => rfl, grown_trans hg1 hg2, hsp, Ends.fail (fun l e => ?_)⟩
    have := (hsome l e).2
    unfold pNum
    rw [if_neg (by omega)]
  · cases σ with
    | none =>
      have hdead : Sp (w.drewN d) b s none := by show Rd _ _ _ _ _ _; rw [← hnone rfl]; exact hrd1
      have := hnone rfl
      clear hnone hsome
      obtain rfl : n = 0 := by omega
      go_wp2
      go_loop [5, 13] (fun o i => o = .int .i64 0 ∧ i = .int .i64 0) (fun _ _ => 0)
      case atStart => exact ⟨rfl, rfl⟩
      case round =>
        obtain ⟨rfl, rfl⟩ := hrel
        go_wp2
        go_ret
        exact ⟨0, none, rfl, Nat.two_pow_pos _, fun _ => rfl, hg1, hdead, rfl⟩
    | some l =>
      have hl := (hsome l rfl).2
      have hnl : n ≤ l.length := by omega
      have hsp1 : Sp (w.drewN d) b s (some l) := ⟨a, ha, (hsome l rfl).1, hrd1⟩
      clear hrd hrd1 hnone hsome h
      go_wp2
      go_loopw [5, 13] (fun o i wr => ∃ k v : Nat, k ≤ n ∧ i = .int .i64 k ∧ o = .int .i64 v ∧ v < 2 ^ k ∧ w.grownBy wr (some b) ∧ Hid (v = val (l.take k)) ∧ Sp wr b s (some (l.drop k)))
        (fun _ i _ => n - (intOf i).toNat)
      case atStart => exact ⟨0, 0, Nat.zero_le _, rfl, rfl, by decide, hg1, rfl, hsp1⟩
      case round =>
        obtain ⟨k, v, hk, rfl, rfl, hv, hg, HV, hsp⟩ := hrel
        have hp := pow48 k (by omega)
        by_cases hkn : k < n
        · have hk2 : k < l.length := by omega
          rw [List.drop_eq_getElem_cons hk2] at hsp
          have hone : (l[k]).toNat ≤ 1 := Bool.toNat_le _
          have hor := or_bit v (l[k]).toNat (by omega) hone
          go_wp2_with (go_at_call 113; refine (qbit _ _ _ _ _ hs hsp).mono ?_; rintro e w' ⟨rfl, hsp', hg'⟩)
          refine ⟨⟨k + 1, 2 * v + (l[k]).toNat, by omega, by go_num, by go_num, by rw [Nat.pow_succ]; omega, grown_trans hg hg', (by rw [val_take_succ l k hk2, HV.out] : 2 * v + (l[k]).toNat = val (l.take (k + 1))), hsp'⟩, by simp [intOf]; omega⟩
        · obtain rfl : k = n := by omega
          go_wp2
          go_ret
          refine ⟨v, some (l.drop k), rfl, hv, fun e => (by cases e), hg, hsp, ?_⟩
          simp [Ends, pNum, hnl, HV.out]
end Go.Proofs.Ytncmgnmcggkhnaa
