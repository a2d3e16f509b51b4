import Derived.Test.YtncmgnmcggkhnaaDecProofJ12
import Derived.Test.YtncmgnmcggkhnaaDecProofJ2
import Derived.Test.YtncmgnmcggkhnaaDecProofJ13
namespace Go.Proofs.Ytncmgnmcggkhnaa
set_option maxRecDepth 100000 in
theorem empty_dec : decode [102, 76, 97, 67, 128, 0, 0, 34, 0, 16, 0, 16, 0, 0, 0, 0, 0, 0, 0, 0, 16, 112, 0, 0, 0, 0, 0, 0, 0, 0, 0, 0, 0, 0, 0, 0, 0, 0, 0, 0, 0, 0] = .sound 1 8 [[]] := by
  kernel_rfl
end Go.Proofs.Ytncmgnmcggkhnaa

namespace Go.Proofs.Ytncmgnmcggkhnaa
open Go.RowKit

/-- the program's reader: alive, or at the end with the mark set -/
def Sp (w : World) (b : Nat) (s : ByteArray) : Option (List Bool) → Prop
  | some l => Live 169 w b s l
  | none => Rd 169 w b s (8 * s.size) true

theorem Sp.lt {w : World} {b : Nat} {s : ByteArray} {σ : Option (List Bool)} (h : Sp w b s σ) : b < w.heap.size := by
  cases σ with
  | none => exact Rd.lt h
  | some l => obtain ⟨a, _, _, h⟩ := h; exact h.lt

theorem Sp.kept {w w' : World} {b : Nat} {s : ByteArray} {σ : Option (List Bool)} {row : Option Nat} (h : Sp w b s σ) (hg : w.grownBy w' row) (hne : some b ≠ row) : Sp w' b s σ := by
  cases σ with
  | none => exact Rd.kept h hg hne
  | some l => obtain ⟨a, ha, hl, h⟩ := h; exact ⟨a, ha, hl, h.kept hg hne⟩

theorem Sp.drewN {w : World} {b : Nat} {s : ByteArray} {σ : Option (List Bool)} (h : Sp w b s σ) (n : Nat) : Sp (w.drewN n) b s σ :=
  h.kept (grown_drewN (grown_refl _ none) n) (by simp)

/-- the place, in one form -/
theorem Sp.rd {w : World} {b : Nat} {s : ByteArray} {σ : Option (List Bool)} (h : Sp w b s σ) :
    ∃ a, a ≤ 8 * s.size ∧ Rd 169 w b s a σ.isNone ∧ (σ = none → a = 8 * s.size) ∧ ∀ l, σ = some l → l = (bitsOf s.data.toList).drop a ∧ a + l.length = 8 * s.size := by
  cases σ with
  | none => exact ⟨8 * s.size, Nat.le_refl _, h, fun _ => rfl, fun l e => by cases e⟩
  | some l =>
    obtain ⟨a, ha, hl, h⟩ := h
    refine ⟨a, ha, h, fun e => (by cases e), fun l' e => ?_⟩
    cases e
    refine ⟨hl, ?_⟩
    rw [hl, List.length_drop, total_bits]
    omega

set_option maxHeartbeats 400000 in
theorem qbit_next (w : World) (b : Nat) (s : ByteArray) (a : Nat) (hs : s.size ≤ 6000) (ha : a < 8 * s.size) (h : Rd 169 w b s a false) :
    Calls Try.prog 113 #[.pointer (some ⟨b, 0, none⟩)] w fun e w' => e = .returned (.int .i64 (((bitsOf s.data.toList)[a]'(by rw [total_bits]; exact ha)).toNat : Nat)) ∧ Rd 169 w' b s (a + 1) false ∧ w.grownBy w' (some b) := by
  have c0 := h.c0
  have c1 := h.c1
  have f1 := h.fz 1
  have h8 : a / 8 < s.size := by omega
  have hbyte : s[a / 8].toNat < 256 := s[a / 8].toNat_lt
  have hq0 : (0 : Int) ≤ (a : Int) / 8 := by omega
  have hq1 : (a : Int) / 8 < (s.size : Int) := by omega
  have hq2 : IntKind.i64.wrap ((a : Int) / 8) = (a : Int) / 8 := by rw [IntKind.wrap_i64]; omega
  go_enter Try.func113, Try.ntmps113
  go_wp2
  go_quiet (fail)
  go_wp2
  go_ret
  exact ⟨ret_int (bit_read s a ha h8), (h.drewN _).set1 (a + 1), grown_trans (grown_drewN (grown_refl _ _) _) (grown_set _ _ _ _)⟩

theorem qbit (w : World) (b : Nat) (s : ByteArray) (c : Bool) (l : List Bool) (hs : s.size ≤ 6000) (h : Sp w b s (some (c :: l))) :
    Calls Try.prog 113 #[.pointer (some ⟨b, 0, none⟩)] w fun e w' => e = .returned (.int .i64 (c.toNat : Nat)) ∧ Sp w' b s (some l) ∧ w.grownBy w' (some b) := by
  obtain ⟨a, ha, hl, h⟩ := h
  have hlt : a < 8 * s.size := by
    rcases Nat.lt_or_ge a (8 * s.size) with h1 | h1
    · exact h1
    · rw [List.drop_of_length_le (by rw [total_bits]; exact h1)] at hl
      cases hl
  rw [List.drop_eq_getElem_cons (by rw [total_bits]; exact hlt)] at hl
  injection hl with hc hl
  refine (qbit_next w b s a hs hlt h).mono ?_
  rintro e w' ⟨rfl, h', hg⟩
  exact ⟨by rw [hc], ⟨a + 1, by omega, hl, h'⟩, hg⟩

set_option maxHeartbeats 400000 in
theorem qleft (w : World) (b : Nat) (s : ByteArray) (a : Nat) (m : Bool) (hs : s.size ≤ 6000) (ha : a ≤ 8 * s.size) (h : Rd 169 w b s a m) :
    Calls Try.prog 111 #[.pointer (some ⟨b, 0, none⟩)] w fun e w' => e = .returned (.int .i64 ((8 * s.size - a : Nat) : Int)) ∧ ∃ d, w' = w.drewN d := by
  have c0 := h.c0
  have c1 := h.c1
  go_enter Try.func111, Try.ntmps111
  go_wp2
  go_quiet (fail)
  go_wp2
  go_ret
  exact ⟨ret_int (by omega), _, rfl⟩

set_option maxHeartbeats 400000 in
theorem qend (w : World) (b : Nat) (s : ByteArray) (a : Nat) (m : Bool) (hs : s.size ≤ 6000) (h : Rd 169 w b s a m) :
    Calls Try.prog 112 #[.pointer (some ⟨b, 0, none⟩)] w fun e w' => e = .returned (.tuple #[]) ∧ Sp w' b s none ∧ w.grownBy w' (some b) := by
  have c0 := h.c0
  have c1 := h.c1
  have c2 := h.c2
  have f1 := h.fz 1
  have f2 := h.fz 2
  go_enter Try.func112, Try.ntmps112
  go_wp2
  go_end0
  exact ⟨rfl, (h.set1 (8 * s.size)).set2 true, grown_trans (grown_set _ _ _ _) (grown_set _ _ _ _)⟩

theorem or_bit (v c : Nat) (hv : 2 * v < 9223372036854775808) (hc : c ≤ 1) : bits .or .i64 ((v : Int) * 2) (c : Int) = ((2 * v + c : Nat) : Int) := by
  rw [show ((v : Int) * 2) = ((2 * v : Nat) : Int) by omega]
  have e0 : 2 * v + c = 2 * v ||| c := Nat.two_pow_add_eq_or_of_lt (i := 1) (b := c) (by omega) v
  have h1 : (BitVec.ofInt 64 ((2 * v : Nat) : Int)).toNat = 2 * v := by
    rw [BitVec.ofInt_natCast, BitVec.toNat_ofNat]; exact Nat.mod_eq_of_lt (by omega)
  have h2 : (BitVec.ofInt 64 (c : Int)).toNat = c := by
    rw [BitVec.ofInt_natCast, BitVec.toNat_ofNat]; exact Nat.mod_eq_of_lt (by omega)
  show IntKind.i64.wrap ((BitVec.ofInt 64 ((2 * v : Nat) : Int) ||| BitVec.ofInt 64 (c : Int)).toNat : Int) = _
  rw [BitVec.toNat_or, h1, h2, IntKind.wrap_i64, ← e0]
  omega

def NumPost (w : World) (b : Nat) (s : ByteArray) (n : Nat) (σ : Option (List Bool)) (e : Ending) (w' : World) : Prop :=
  ∃ (v : Nat) (σ' : Option (List Bool)), e = .returned (.int .i64 v) ∧ v < 2 ^ n ∧ (σ' = none → v = 0) ∧ w.grownBy w' (some b) ∧ Sp w' b s σ' ∧ Ends (pNum n) σ v σ'

set_option maxHeartbeats 1000000 in
theorem qnum (w : World) (b : Nat) (s : ByteArray) (n : Nat) (σ : Option (List Bool)) (hs : s.size ≤ 6000) (hn : n ≤ 48) (h : Sp w b s σ) :
    Calls Try.prog 89 #[.pointer (some ⟨b, 0, none⟩), .int .i64 n] w (NumPost w b s n σ) := by
  obtain ⟨a, ha, hrd, hnone, hsome⟩ := h.rd
  go_enter Try.func89, Try.ntmps89
  go_wp2_with fail
  refine (qleft _ _ _ _ _ hs ha hrd).mono ?_
  rintro e w1 ⟨rfl, d, rfl⟩
  have hrd1 := hrd.drewN d
  have hg1 : w.grownBy (w.drewN d) (some b) := grown_drewN (grown_refl _ _) d
  by_cases hlt : 8 * s.size - a < n
  · go_wp2_with fail
    refine (qend _ _ _ _ _ hs hrd1).mono ?_
    rintro e w2 ⟨rfl, hsp, hg2⟩
    go_wp2
    go_ret
    refine ⟨0, none, rfl, Nat.two_pow_pos _, fun _ => rfl, grown_trans hg1 hg2, hsp, Ends.fail (fun l e => ?_)⟩
    have := (hsome l e).2
    unfold pNum
    rw [if_neg (by omega)]
  · cases σ with
    | none =>
      have hdead : Sp (w.drewN d) b s none := by show Rd _ _ _ _ _ _; rw [← hnone rfl]; exact hrd1
      have := hnone rfl
      clear hnone hsome
      obtain rfl : n = 0 := by omega
      go_wp2
      go_loop [5, 13] (fun o i => o = .int .i64 0 ∧ i = .int .i64 0) (fun _ _ => 0)
      case atStart => exact ⟨rfl, rfl⟩
      case round =>
        obtain ⟨rfl, rfl⟩ := hrel
        go_wp2
        go_ret
        exact ⟨0, none, rfl, Nat.two_pow_pos _, fun _ => rfl, hg1, hdead, rfl⟩
    | some l =>
      have hl := (hsome l rfl).2
      have hnl : n ≤ l.length := by omega
      have hsp1 : Sp (w.drewN d) b s (some l) := ⟨a, ha, (hsome l rfl).1, hrd1⟩
      clear hrd hrd1 hnone hsome h
      go_wp2
      go_loopw [5, 13] (fun o i wr => ∃ k v : Nat, k ≤ n ∧ i = .int .i64 k ∧ o = .int .i64 v ∧ v < 2 ^ k ∧ w.grownBy wr (some b) ∧ Hid (v = val (l.take k)) ∧ Sp wr b s (some (l.drop k)))
        (fun _ i _ => n - (intOf i).toNat)
      case atStart => exact ⟨0, 0, Nat.zero_le _, rfl, rfl, by decide, hg1, rfl, hsp1⟩
      case round =>
        obtain ⟨k, v, hk, rfl, rfl, hv, hg, HV, hsp⟩ := hrel
        have hp := pow48 k (by omega)
        by_cases hkn : k < n
        · have hk2 : k < l.length := by omega
          rw [List.drop_eq_getElem_cons hk2] at hsp
          have hone : (l[k]).toNat ≤ 1 := Bool.toNat_le _
          have hor := or_bit v (l[k]).toNat (by omega) hone
          go_wp2_with (go_at_call 113; refine (qbit _ _ _ _ _ hs hsp).mono ?_; rintro e w' ⟨rfl, hsp', hg'⟩)
          refine ⟨⟨k + 1, 2 * v + (l[k]).toNat, by omega, by go_num, by go_num, by rw [Nat.pow_succ]; omega, grown_trans hg hg', (by rw [val_take_succ l k hk2, HV.out] : 2 * v + (l[k]).toNat = val (l.take (k + 1))), hsp'⟩, by simp [intOf]; omega⟩
        · obtain rfl : k = n := by omega
          go_wp2
          go_ret
          refine ⟨v, some (l.drop k), rfl, hv, fun e => (by cases e), hg, hsp, ?_⟩
          simp [Ends, pNum, hnl, HV.out]
end Go.Proofs.Ytncmgnmcggkhnaa

namespace Go.Proofs.Ytncmgnmcggkhnaa
open Go.RowKit

theorem div_one_iff (n v : Nat) (hn : 0 < n) (hv : v < 2 ^ n) : ((v : Int) / 2 ^ (n - 1) == 1) = decide (2 ^ (n - 1) ≤ v) := by
  obtain ⟨m, rfl⟩ : ∃ m, n = m + 1 := ⟨n - 1, by omega⟩
  have hp := Nat.two_pow_pos m
  rw [Nat.pow_succ] at hv
  have e : ((v : Int) / 2 ^ (m + 1 - 1)) = ((v / 2 ^ m : Nat) : Int) := by simp
  rw [e, Bool.eq_iff_iff]
  simp only [beq_iff_eq, decide_eq_true_eq, Nat.add_sub_cancel]
  have h1 : v / 2 ^ m < 2 := by rw [Nat.div_lt_iff_lt_mul hp]; omega
  constructor
  · intro h
    have h2 : v / 2 ^ m = 1 := by omega
    rcases Nat.lt_or_ge v (2 ^ m) with h3 | h3
    · rw [Nat.div_eq_of_lt h3] at h2; omega
    · exact h3
  · intro h
    have : 1 ≤ v / 2 ^ m := (Nat.le_div_iff_mul_le hp).2 (by omega)
    omega

def SgnPost (w : World) (b : Nat) (s : ByteArray) (n : Nat) (σ : Option (List Bool)) (e : Ending) (w' : World) : Prop :=
  ∃ (v : Nat) (σ' : Option (List Bool)), e = .returned (.int .i64 (sign n v)) ∧ v < 2 ^ n ∧ (σ' = none → v = 0) ∧ w.grownBy w' (some b) ∧ Sp w' b s σ' ∧ Ends (pSigned n) σ (sign n v) σ'

set_option maxHeartbeats 400000 in
theorem qsigned (w : World) (b : Nat) (s : ByteArray) (n : Nat) (σ : Option (List Bool)) (hs : s.size ≤ 6000) (hn : n ≤ 32) (h : Sp w b s σ) :
    Calls Try.prog 130 #[.pointer (some ⟨b, 0, none⟩), .int .i64 n] w (SgnPost w b s n σ) := by
  go_enter Try.func130, Try.ntmps130
  go_wp2_with fail
  refine (qnum _ _ _ _ _ hs (by omega) h).mono ?_
  rintro e w' ⟨v, σ', rfl, hv, hz, hg, hsp, hends⟩
  have HZ : Hid (σ' = none → v = 0) := hz
  clear hz
  rcases Nat.eq_zero_or_pos n with rfl | h0
  · go_wp2
    go_ret
    exact ⟨v, σ', ret_int (by rw [sign_zero v hv]; exact congrArg Int.ofNat (show v = 0 by simpa using hv)), hv, HZ.out, hg, hsp, signed_ends hends⟩
  · have q1 := ipow (n - 1) (by omega)
    have q2 := ipow n (by omega)
    have q3 : (v : Int) < 2 ^ n := by rw [show (2 : Int) ^ n = ((2 ^ n : Nat) : Int) by simp]; omega
    have hdiv := div_one_iff n v h0 hv
    have hq : IntKind.i64.wrap ((v : Int) - 2 ^ n) = (v : Int) - 2 ^ n := by rw [IntKind.wrap_i64]; omega
    by_cases hge : 2 ^ (n - 1) ≤ v
    · rw [decide_eq_true hge] at hdiv
      have HGE : Hid (2 ^ (n - 1) ≤ v) := hge
      clear hge
      go_wp2
      go_ret
      exact ⟨v, σ', ret_int (by rw [sign_neg n v h0 HGE.out]), hv, HZ.out, hg, hsp, signed_ends hends⟩
    · rw [decide_eq_false hge] at hdiv
      have HGE : Hid (v < 2 ^ (n - 1)) := by show _ < _; omega
      clear hge
      go_wp2
      go_ret
      exact ⟨v, σ', ret_int (by rw [sign_pos n v HGE.out]), hv, HZ.out, hg, hsp, signed_ends hends⟩

def ZerPost (w : World) (b : Nat) (s : ByteArray) (σ : Option (List Bool)) (e : Ending) (w' : World) : Prop :=
  ∃ (q : Nat) (σ' : Option (List Bool)), e = .returned (.int .i64 q) ∧ q ≤ 48000 ∧ (σ' = none → q = 0) ∧ w.grownBy w' (some b) ∧ Sp w' b s σ' ∧ Ends pNoughts σ q σ'

theorem noughts_nil (l : List Bool) (k : Nat) (h : pNoughts l = (pNoughts []).map fun (q, r) => (q + k, r)) : pNoughts l = none := h

set_option maxHeartbeats 400000 in
theorem qzeros (w : World) (b : Nat) (s : ByteArray) (σ : Option (List Bool)) (hs : s.size ≤ 6000) (h : Sp w b s σ) :
    Calls Try.prog 122 #[.pointer (some ⟨b, 0, none⟩)] w (ZerPost w b s σ) := by
  obtain ⟨a, ha, hrd, hnone, hsome⟩ := h.rd
  go_enter Try.func122, Try.ntmps122
  go_wp2_with fail
  refine (qleft _ _ _ _ _ hs ha hrd).mono ?_
  rintro e w1 ⟨rfl, d, rfl⟩
  have hrd1 := hrd.drewN d
  have hsp1 := h.drewN d
  have hg1 : w.grownBy (w.drewN d) (some b) := grown_drewN (grown_refl _ _) d
  obtain ⟨L, hL⟩ : ∃ L, 8 * s.size - a = L := ⟨_, rfl⟩
  have hL2 : L ≤ 48000 := by omega
  have HS0 : Hid (∃ l', (match σ with | some l => l' = l | none => l' = []) ∧ l'.length = L) := by
    cases σ with
    | none => exact ⟨[], rfl, by have := hnone rfl; simp; omega⟩
    | some l => exact ⟨l, rfl, by have := (hsome l rfl).2; omega⟩
  rw [hL]
  clear hrd hrd1 hnone hsome h hL
  go_wp2_with fail
  go_loopw [6] (fun i wr => ∃ k : Nat, i = .int .i64 k ∧ k ≤ L ∧ w.grownBy wr (some b) ∧
      ((∃ l l' : List Bool, σ = some l ∧ Sp wr b s (some l') ∧ l'.length + k = L ∧ pNoughts l = (pNoughts l').map fun (q, r) => (q + k, r)) ∨ (σ = none ∧ L = 0 ∧ Sp wr b s none)))
    (fun i _ => L - (intOf i).toNat)
  case atStart =>
    refine ⟨0, rfl, by omega, hg1, ?_⟩
    obtain ⟨l', h1, h2⟩ := HS0.out
    cases σ with
    | none => exact .inr ⟨rfl, by rw [← h2, h1]; rfl, hsp1⟩
    | some l => exact .inl ⟨l, l, rfl, hsp1, by rw [← h2, h1]; rfl, by cases pNoughts l <;> rfl⟩
  case round =>
    obtain ⟨k, rfl, hk, hg, ⟨l, l', rfl, hsp, hkl, hno⟩ | ⟨rfl, rfl, hsp⟩⟩ := hrel
    · have HNO : Hid (pNoughts l = (pNoughts l').map fun (q, r) => (q + k, r)) := hno
      clear hno
      rcases l' with _ | ⟨c, m⟩
      · obtain ⟨a2, ha2, hrd2, _, _⟩ := hsp.rd
        simp at hkl
        have hkL : decide ((k : Int) < (L : Int)) = false := decide_eq_false (by omega)
        go_wp2_with (go_at_call 112; refine (qend _ _ _ _ _ hs hrd2).mono ?_; rintro e w' ⟨rfl, hsp', hg'⟩)
        go_ret
        exact ⟨0, none, rfl, by omega, fun _ => rfl, grown_trans hg hg', hsp', Ends.fail (fun l0 e => by cases e; exact noughts_nil _ _ HNO.out)⟩
      · simp only [List.length_cons] at hkl
        rcases c with _ | _
        · go_wp2_with (go_at_call 113; refine (qbit _ _ _ _ _ hs hsp).mono ?_; rintro e w' ⟨rfl, hsp', hg'⟩)
          go_roundw
          case rel => exact ⟨k + 1, by go_num, by omega, grown_trans hg hg', .inl ⟨l, m, rfl, hsp', by omega, noughts_step l _ k HNO.out false m rfl⟩⟩
          case measure => simp [intOf]; omega
        · go_wp2_with (go_at_call 113; refine (qbit _ _ _ _ _ hs hsp).mono ?_; rintro e w' ⟨rfl, hsp', hg'⟩)
          go_ret
          refine ⟨k, some m, rfl, by omega, fun e => (by cases e), grown_trans hg hg', hsp', ?_⟩
          have := noughts_step l _ k HNO.out true m rfl
          simp [Ends, this]
    · obtain ⟨a2, ha2, hrd2, _, _⟩ := hsp.rd
      have hkL : decide ((k : Int) < 0) = false := decide_eq_false (by omega)
      go_wp2_with (go_at_call 112; refine (qend _ _ _ _ _ hs hrd2).mono ?_; rintro e w' ⟨rfl, hsp', hg'⟩)
      go_ret
      exact ⟨0, none, rfl, by omega, fun _ => rfl, grown_trans hg hg', hsp', Ends.dead⟩

set_option maxHeartbeats 400000 in
theorem qover (w : World) (b : Nat) (s : ByteArray) (σ : Option (List Bool)) (h : Sp w b s σ) :
    Calls Try.prog 90 #[.pointer (some ⟨b, 0, none⟩)] w fun e w' => e = .returned (.bool σ.isNone) ∧ w' = w := by
  obtain ⟨a, ha, hrd, _, _⟩ := h.rd
  have c2 := hrd.c2
  go_enter Try.func90, Try.ntmps90
  go_wp2
  go_ret
  exact ⟨rfl, rfl⟩

set_option maxHeartbeats 400000 in
theorem qbytes (w : World) (b : Nat) (s : ByteArray) (a : Nat) (m : Bool) (hs : s.size ≤ 6000) (ha : a ≤ 8 * s.size) (h : Rd 169 w b s a m) :
    Calls Try.prog 88 #[.pointer (some ⟨b, 0, none⟩)] w fun e w' => e = .returned (.int .i64 (((a + 7) / 8 : Nat) : Int)) ∧ w' = w := by
  have c1 := h.c1
  go_enter Try.func88, Try.ntmps88
  go_wp2
  go_ret
  exact ⟨ret_int (by omega), rfl⟩

theorem Box_new (w : World) (cs : Array Value) (t : TypeId) : (w.alloc (.cells cs t)).heap[w.heap.size]? = some (.cells cs t (0, 0)) := by
  show (w.heap.push _)[w.heap.size]? = _
  simp

set_option maxHeartbeats 400000 in
theorem qnew (w : World) (s : ByteArray) :
    Calls Try.prog 85 #[.string s] w fun e w' => e = .returned (.pointer (some ⟨w.heap.size, 0, none⟩)) ∧ Sp w' w.heap.size s (some (bitsOf s.data.toList)) ∧ w.grownBy w' none ∧ w'.heap.size = w.heap.size + 1 := by
  go_enter Try.func85, Try.ntmps85
  go_wp2
  go_ret
  refine ⟨rfl, ⟨0, Nat.zero_le _, rfl, ?_⟩, grown_alloc (grown_refl _ _) _, by simp⟩
  exact Box_new _ _ _

/-- bits up to a byte's end -/
def AlnPost (w : World) (b : Nat) (s : ByteArray) (l : List Bool) (e : Ending) (w' : World) : Prop :=
  ∃ ok : Bool, e = .returned (.bool ok) ∧ w.grownBy w' (some b) ∧ Sp w' b s (some (l.drop (l.length % 8))) ∧ pMust (l.length % 8) 0 l = if ok = true then some ((), l.drop (l.length % 8)) else none

theorem aln_fin {m v : Nat} {l : List Bool} {σ' : Option (List Bool)} (h : Ends (pNum m) (some l) v σ') (hm : m ≤ l.length) :
    σ' = some (l.drop m) ∧ pMust m 0 l = if ((v : Int) == 0) = true then some ((), l.drop m) else none := by
  have e : pNum m l = some (val (l.take m), l.drop m) := by unfold pNum; rw [if_pos hm]
  rcases h.cases with ⟨r, e1, rfl⟩ | ⟨e1, _⟩
  · rw [e] at e1
    injection e1 with e1
    injection e1 with e1 e2
    subst e1
    subst e2
    refine ⟨rfl, ?_⟩
    unfold pMust
    rw [e]
    show (if _ then _ else _) = _
    by_cases h0 : val (l.take m) = 0
    · rw [if_pos h0, if_pos (by simpa using h0)]
    · rw [if_neg h0, if_neg (by simpa using h0)]
  · rw [e] at e1; cases e1

set_option maxHeartbeats 1000000 in
theorem qalign (w : World) (b : Nat) (s : ByteArray) (l : List Bool) (hs : s.size ≤ 6000) (h : Sp w b s (some l)) :
    Calls Try.prog 87 #[.pointer (some ⟨b, 0, none⟩)] w (AlnPost w b s l) := by
  obtain ⟨a, ha, hrd, _, hsome⟩ := h.rd
  have hl := (hsome l rfl).2
  have c1 := hrd.c1
  have hr0 : IntKind.i64.wrap (IntKind.i64.wrap (8 * (((a : Int) + 7) / 8)) - (a : Int)) = ((l.length % 8 : Nat) : Int) := by
    rw [show IntKind.i64.wrap (8 * (((a : Int) + 7) / 8)) = 8 * (((a : Int) + 7) / 8) by rw [IntKind.wrap_i64]; omega, IntKind.wrap_i64]
    omega
  have HR : Hid (IntKind.i64.wrap (IntKind.i64.wrap (8 * (((a : Int) + 7) / 8)) - (a : Int)) = ((l.length % 8 : Nat) : Int)) := hr0
  clear hr0
  have hspd : Sp w.drew b s (some l) := h.drewN 1
  have hrdd : Rd 169 w.drew b s a false := hrd.drew
  have hcall := qnum w.drew b s (l.length % 8) (some l) hs (by omega) hspd
  have hmod : l.length % 8 ≤ l.length := Nat.mod_le _ _
  clear hsome h
  go_enter Try.func87, Try.ntmps87
  go_wp2
  go_region_with (first
    | (go_at_call 88; refine (qbytes _ _ _ _ _ hs ha hrdd).mono ?_; rintro e w1 ⟨rfl, rfl⟩)
    | (go_at_call 89; rw [HR.out]; refine hcall.mono ?_; rintro e w1 ⟨v, σ', rfl, hv, hz, hg, hsp, hends⟩))
  all_goals
    go_wp2
    go_ret
    obtain ⟨h1, h2⟩ := aln_fin hends hmod
    subst h1
    exact ⟨_, rfl, grown_trans (grown_drew (grown_refl _ _)) hg, hsp, h2⟩
end Go.Proofs.Ytncmgnmcggkhnaa

namespace Go.Proofs.Ytncmgnmcggkhnaa
open Go.RowKit

/-- so many of a list have been read; what is read next goes behind them -/
def Goes (f : P Int) (n k : Nat) (xs : List Int) (σ σ' : Option (List Bool)) : Prop :=
  ∀ ys σ'', Ends (pList f (n - k)) σ' ys σ'' → Ends (pList f n) σ (xs ++ ys) σ''

theorem list_cons_ends {f : P Int} {m : Nat} {x : Int} {ys : List Int} {σ σ1 σ2 : Option (List Bool)} (h1 : Ends f σ x σ1) (h2 : Ends (pList f m) σ1 ys σ2) : Ends (pList f (m + 1)) σ (x :: ys) σ2 := by
  have h3 : Ends (fun r => (pList f m r).map fun (xs, r') => (x :: xs, r')) σ1 (x :: ys) σ2 := Ends.map (f := fun xs => x :: xs) h2
  exact Ends.bind (p := f) (q := fun (x : Int) r => (pList f m r).map fun (xs, r') => (x :: xs, r')) h1 h3

theorem Goes.start (f : P Int) (n : Nat) (σ : Option (List Bool)) : Goes f n 0 [] σ σ := fun _ _ h => h

theorem Goes.next {f : P Int} {n k : Nat} {xs : List Int} {x : Int} {σ σ' σ1 : Option (List Bool)} (h : Goes f n k xs σ σ') (hk : k < n) (hx : Ends f σ' x σ1) : Goes f n (k + 1) (xs ++ [x]) σ σ1 := by
  intro ys σ'' hy
  rw [List.append_assoc]
  refine h _ _ ?_
  rw [show n - k = (n - (k + 1)) + 1 by omega]
  exact list_cons_ends hx hy

theorem list_zero_ends (f : P Int) (σ : Option (List Bool)) : Ends (pList f 0) σ [] σ := by
  cases σ with
  | none => rfl
  | some l => exact ⟨rfl, rfl⟩

theorem Goes.ends {f : P Int} {n : Nat} {xs : List Int} {σ σ' : Option (List Bool)} (h : Goes f n n xs σ σ') : Ends (pList f n) σ xs σ' := by
  have := h [] σ' (by rw [Nat.sub_self]; exact list_zero_ends f σ')
  rwa [List.append_nil] at this

/-- the list, as far as it has been filled -/
def fill (n : Nat) (xs : List Int) : List Int := xs ++ List.replicate (n - xs.length) 0

theorem fill_set (n : Nat) (xs : List Int) (x : Int) (h : xs.length < n) : (fill n xs).set xs.length x = fill n (xs ++ [x]) := by
  unfold fill
  obtain ⟨m, hm⟩ : ∃ m, n - xs.length = m + 1 := ⟨n - xs.length - 1, by omega⟩
  rw [List.set_append_right _ _ (Nat.le_refl _), Nat.sub_self, hm, List.replicate_succ, List.set_cons_zero, List.length_append, List.length_singleton, List.append_assoc, show n - (xs.length + 1) = m by omega]
  rfl

theorem fill_full (n : Nat) (xs : List Int) (h : xs.length = n) : fill n xs = xs := by
  unfold fill
  rw [h, Nat.sub_self]
  simp

/-- a row that make made -/
theorem made_row {w' : World} {base g n : Nat} (h : w'.ownsRow base 3 1 (.slice (some ⟨g, 0, none⟩) n n) n (madeCells #[Value.int .i64 0] n).toList) : Row w' base g n n (fill n []) := by
  unfold Row fill
  have e : (madeCells #[Value.int .i64 0] n).toList = List.replicate n (Value.int .i64 0) := toList_madeCells_one _ _
  rw [e] at h
  simpa using h

def QList (w : World) (b : Nat) (s : ByteArray) (σ : Option (List Bool)) (n : Nat) (p : P (List Int)) (lim : List Int → Prop) (e : Ending) (w' : World) : Prop :=
  ∃ (g : Nat) (xs : List Int) (σ' : Option (List Bool)), e = .returned (.slice (some ⟨g, 0, none⟩) n n) ∧ Row w' w.heap.size g n n xs ∧ lim xs ∧ w.grownBy w' (some b) ∧ Sp w' b s σ' ∧ Ends p σ xs σ'

set_option maxHeartbeats 1000000 in
set_option maxRecDepth 20000 in
theorem qlist (w : World) (b : Nat) (s : ByteArray) (n wide : Nat) (σ : Option (List Bool)) (hs : s.size ≤ 6000) (hn : n ≤ 256) (hw : wide ≤ 32) (h : Sp w b s σ) :
    Calls Try.prog 131 #[.pointer (some ⟨b, 0, none⟩), .int .i64 n, .int .i64 wide] w (QList w b s σ n (pList (pSigned wide) n) (Signs wide)) := by
  obtain ⟨i0, hi, hz0, hz1, hz2⟩ := info_parts Try.info3
  have hblt := h.lt
  go_enter Try.func131, Try.ntmps131
  go_wp2_with (first
    | (at_make; refine wpList_make_full _ rfl _ _ 30 rfl w.heap.size 3 i0 (.int .i64 0) 1 Try.underlying30 hi hz0 hz1 _ _ _ _ n rfl rfl rfl rfl ?m1 ?m2 ?m3 ?_))
  case m1 => rw [hz2]; omega
  case m2 => unfold maxLen; omega
  case m3 => exact Nat.le_refl _
  intro w1 hmade hg1
  have hrow1 := made_row hmade
  have hsp1 := h.kept hg1 (by simp)
  obtain ⟨g, hg⟩ : ∃ g, w.heap.size = g := ⟨_, rfl⟩
  rw [hg] at hrow1
  rw [hg]
  have hgg1 : w.grownBy w1 (some b) := grown_own (grown_refl _ _) hg1 (fun q e => by cases e)
  have hbg : b < g := by omega
  clear hmade hi hz0 hz1 hz2 hg1 h
  go_wp2_with fail
  go_loopw [13] (fun i wr => ∃ (k : Nat) (xs : List Int) (σ' : Option (List Bool)), k ≤ n ∧ i = .int .i64 k ∧ xs.length = k ∧ Row wr g g n n (fill n xs) ∧ Signs wide xs ∧ w.grownBy wr (some b) ∧ Sp wr b s σ' ∧ Goes (pSigned wide) n k xs σ σ')
    (fun i _ => n - (intOf i).toNat)
  case atStart => exact ⟨0, [], σ, Nat.zero_le _, rfl, rfl, hrow1, Signs.nil _, hgg1, hsp1, Goes.start _ _ _⟩
  case round =>
    obtain ⟨k, xs, σ', hk, rfl, hxl, hrow, hsm, hgr, hsp, hgo⟩ := hrel
    have HXL : Hid (xs.length = k) := hxl
    clear hxl hrow1 hsp1 hgg1
    by_cases hlt : k < n
    · go_wp2_with fail
      refine (qsigned _ _ _ _ _ hs hw hsp).mono ?_
      rintro e w2 ⟨v, σ1, rfl, hv, -, hg2, hsp2, hends⟩
      have hrow2 := hrow.kept hg2 (fun e => by injection e with e; omega)
      have hsb := sign_bounds wide v hw hv
      have c1 := hrow2.cell k hlt
      have f1 := hrow2.fz k
      have hst := grown_set w2 g k (.int .i64 (sign wide v))
      have hrow3 := hrow2.stored k (sign wide v)
      rw [show (fill n xs).set k (sign wide v) = fill n (xs ++ [sign wide v]) by rw [← HXL.out]; exact fill_set n xs _ (by rw [HXL.out]; exact hlt)] at hrow3
      have hgg3 : w.grownBy (w2.setCell ⟨g, k, none⟩ (.int .i64 (sign wide v))) (some b) := grown_own (grown_trans hgr hg2) hst (fun q e => by injection e with e; omega)
      have hsp3 := hsp2.kept hst (fun e => by injection e with e; omega)
      have hgo3 := hgo.next hlt hends
      clear hst hrow2 hrow hsp hsp2 hgo hends hg2 hgr
      go_wp2
      go_roundw
      case rel => exact ⟨k + 1, xs ++ [sign wide v], σ1, by omega, by go_num, by rw [List.length_append, List.length_singleton, HXL.out], hrow3, hsm.snoc hv, hgg3, hsp3, hgo3⟩
      case measure => simp [intOf]; omega
    · obtain rfl : k = n := by omega
      rw [fill_full _ _ HXL.out] at hrow
      go_wp2
      go_ret
      exact ⟨g, xs, σ', rfl, by rw [hg]; exact hrow, hsm, hgr, hsp, hgo.ends⟩

set_option maxHeartbeats 400000 in
theorem qunfold (w : World) (u : Nat) (hu : u < 9223372036854775807) :
    Calls Try.prog 137 #[.int .i64 u] w fun e w' => e = .returned (.int .i64 (unfold1 u)) ∧ w' = w := by
  by_cases h : u % 2 = 0
  · have t : (((u : Int) % 2) == 0) = true := by simp; omega
    have hu1 : unfold1 u = (u : Int) / 2 := by unfold unfold1; rw [if_pos h]
    rw [hu1]
    clear h hu1
    go_enter Try.func137, Try.ntmps137
    go_wp2
    go_ret
    exact ⟨rfl, rfl⟩
  · have t : (((u : Int) % 2) == 0) = false := by simp; omega
    have hu1 : unfold1 u = -(((u : Int) + 1) / 2) := by unfold unfold1; rw [if_neg h]
    rw [hu1]
    have hdiv : (-((u : Int) + 1)).tdiv 2 = -(((u : Int) + 1) / 2) := by
      rw [Int.neg_tdiv, Int.tdiv_eq_ediv_of_nonneg (by omega)]
    clear hu1
    go_enter Try.func137, Try.ntmps137
    go_wp2
    go_ret
    exact ⟨by first | rfl | exact ret_int (by omega), rfl⟩

set_option maxHeartbeats 400000 in
theorem qkbits (w : World) (m : Nat) (hm : m < 4) :
    Calls Try.prog 115 #[.int .i64 m] w fun e w' => e = .returned (.int .i64 ((4 + m : Nat) : Int)) ∧ w' = w := by
  go_enter Try.func115, Try.ntmps115
  go_wp2
  go_ret
  exact ⟨by first | rfl | exact ret_int (by omega), rfl⟩
end Go.Proofs.Ytncmgnmcggkhnaa
