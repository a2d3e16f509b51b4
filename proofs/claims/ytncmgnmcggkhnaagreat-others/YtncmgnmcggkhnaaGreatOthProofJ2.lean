import Derived.Test.YtncmgnmcggkhnaaGreatOthProofJ1
namespace Go.Proofs.YtncmgnmcggkhnaaGreat
open Go.RowKit

/-- the program's reader: alive, or at the end with the mark set -/
def Sp (w : World) (b : Nat) (s : ByteArray) : Option (List Bool) → Prop
  | some l => Live 130 w b s l
  | none => Rd 130 w b s (8 * s.size) true

theorem Sp.lt {w : World} {b : Nat} {s : ByteArray} {σ : Option (List Bool)} (h : Sp w b s σ) : b < w.heap.size := by
  cases σ with
  | none => exact Rd.lt h
  | some l => obtain ⟨a, _, _, h⟩ := h; exact h.lt

theorem Sp.kept {w w' : World} {b : Nat} {s : ByteArray} {σ : Option (List Bool)} {row : Option Nat} (h : Sp w b s σ) (hg : w.grownBy w' row) (hne : some b ≠ row) : Sp w' b s σ := by
  cases σ with
  | none => exact Rd.kept h hg hne
  | some l => obtain ⟨a, ha, hl, h⟩ := h; exact ⟨a, ha, hl, h.kept hg hne⟩

theorem Sp.drewN {w : World} {b : Nat} {s : ByteArray} {σ : Option (List Bool)} (h : Sp w b s σ) (n : Nat) : Sp (w.drewN n) b s σ :=
  h.kept (grown_drewN (grown_refl _ none) n) (by simp)

/-- the place, in one form -/
theorem Sp.rd {w : World} {b : Nat} {s : ByteArray} {σ : Option (List Bool)} (h : Sp w b s σ) :
    ∃ a, a ≤ 8 * s.size ∧ Rd 130 w b s a σ.isNone ∧ (σ = none → a = 8 * s.size) ∧ ∀ l, σ = some l → l = (bitsOf s.data.toList).drop a ∧ a + l.length = 8 * s.size := by
  cases σ with
  | none => exact ⟨8 * s.size, Nat.le_refl _, h, fun _ => rfl, fun l e => by cases e⟩
  | some l =>
    obtain ⟨a, ha, hl, h⟩ := h
    refine ⟨a, ha, h, fun e => (by cases e), fun l' e => ?_⟩
    cases e
    refine ⟨hl, ?_⟩
    rw [hl, List.length_drop, total_bits]
    omega

set_option maxHeartbeats 400000 in
theorem qbit_next (w : World) (b : Nat) (s : ByteArray) (a : Nat) (hs : s.size ≤ 6000) (ha : a < 8 * s.size) (h : Rd 130 w b s a false) :
    Calls Tryz.prog 70 #[.pointer (some ⟨b, 0, none⟩)] w fun e w' => e = .returned (.int .i64 (((bitsOf s.data.toList)[a]'(by rw [total_bits]; exact ha)).toNat : Nat)) ∧ Rd 130 w' b s (a + 1) false ∧ w.grownBy w' (some b) := by
  have c0 := h.c0
  have c1 := h.c1
  have f1 := h.fz 1
  have h8 : a / 8 < s.size := by omega
  have hbyte : s[a / 8].toNat < 256 := s[a / 8].toNat_lt
  have hq0 : (0 : Int) ≤ (a : Int) / 8 := by omega
  have hq1 : (a : Int) / 8 < (s.size : Int) := by omega
  have hq2 : IntKind.i64.wrap ((a : Int) / 8) = (a : Int) / 8 := by rw [IntKind.wrap_i64]; omega
  go_enter Tryz.func70, Tryz.ntmps70
  go_wp2
  go_quiet (fail)
  go_wp2
  go_ret
  exact ⟨ret_int (bit_read s a ha h8), (h.drewN _).set1 (a + 1), grown_trans (grown_drewN (grown_refl _ _) _) (grown_set _ _ _ _)⟩

theorem qbit (w : World) (b : Nat) (s : ByteArray) (c : Bool) (l : List Bool) (hs : s.size ≤ 6000) (h : Sp w b s (some (c :: l))) :
    Calls Tryz.prog 70 #[.pointer (some ⟨b, 0, none⟩)] w fun e w' => e = .returned (.int .i64 (c.toNat : Nat)) ∧ Sp w' b s (some l) ∧ w.grownBy w' (some b) := by
  obtain ⟨a, ha, hl, h⟩ := h
  have hlt : a < 8 * s.size := by
    rcases Nat.lt_or_ge a (8 * s.size) with h1 | h1
    · exact h1
    · rw [List.drop_of_length_le (by rw [total_bits]; exact h1)] at hl
      cases hl
  rw [List.drop_eq_getElem_cons (by rw [total_bits]; exact hlt)] at hl
  injection hl with hc hl
  refine (qbit_next w b s a hs hlt h).mono ?_
  rintro e w' ⟨rfl, h', hg⟩
  exact ⟨by rw [hc], ⟨a + 1, by omega, hl, h'⟩, hg⟩

set_option maxHeartbeats 400000 in
theorem qleft (w : World) (b : Nat) (s : ByteArray) (a : Nat) (m : Bool) (hs : s.size ≤ 6000) (ha : a ≤ 8 * s.size) (h : Rd 130 w b s a m) :
    Calls Tryz.prog 68 #[.pointer (some ⟨b, 0, none⟩)] w fun e w' => e = .returned (.int .i64 ((8 * s.size - a : Nat) : Int)) ∧ ∃ d, w' = w.drewN d := by
  have c0 := h.c0
  have c1 := h.c1
  go_enter Tryz.func68, Tryz.ntmps68
  go_wp2
  go_quiet (fail)
  go_wp2
  go_ret
  exact ⟨ret_int (by omega), _, rfl⟩

set_option maxHeartbeats 400000 in
theorem qend (w : World) (b : Nat) (s : ByteArray) (a : Nat) (m : Bool) (hs : s.size ≤ 6000) (h : Rd 130 w b s a m) :
    Calls Tryz.prog 69 #[.pointer (some ⟨b, 0, none⟩)] w fun e w' => e = .returned (.tuple #[]) ∧ Sp w' b s none ∧ w.grownBy w' (some b) := by
  have c0 := h.c0
  have c1 := h.c1
  have c2 := h.c2
  have f1 := h.fz 1
  have f2 := h.fz 2
  go_enter Tryz.func69, Tryz.ntmps69
  go_wp2
  go_end0
  exact ⟨rfl, (h.set1 (8 * s.size)).set2 true, grown_trans (grown_set _ _ _ _) (grown_set _ _ _ _)⟩

theorem or_bit (v c : Nat) (hv : 2 * v < 9223372036854775808) (hc : c ≤ 1) : bits .or .i64 ((v : Int) * 2) (c : Int) = ((2 * v + c : Nat) : Int) := by
  rw [show ((v : Int) * 2) = ((2 * v : Nat) : Int) by omega]
  have e0 : 2 * v + c = 2 * v ||| c := Nat.two_pow_add_eq_or_of_lt (i := 1) (b := c) (by omega) v
  have h1 : (BitVec.ofInt 64 ((2 * v : Nat) : Int)).toNat = 2 * v := by
    rw [BitVec.ofInt_natCast, BitVec.toNat_ofNat]; exact Nat.mod_eq_of_lt (by omega)
  have h2 : (BitVec.ofInt 64 (c : Int)).toNat = c := by
    rw [BitVec.ofInt_natCast, BitVec.toNat_ofNat]; exact Nat.mod_eq_of_lt (by omega)
  show IntKind.i64.wrap ((BitVec.ofInt 64 ((2 * v : Nat) : Int) ||| BitVec.ofInt 64 (c : Int)).toNat : Int) = _
  rw [BitVec.toNat_or, h1, h2, IntKind.wrap_i64, ← e0]
  omega

def NumPost (w : World) (b : Nat) (s : ByteArray) (n : Nat) (σ : Option (List Bool)) (e : Ending) (w' : World) : Prop :=
  ∃ (v : Nat) (σ' : Option (List Bool)), e = .returned (.int .i64 v) ∧ v < 2 ^ n ∧ (σ' = none → v = 0) ∧ w.grownBy w' (some b) ∧ Sp w' b s σ' ∧ Ends (pNum n) σ v σ'

set_option maxHeartbeats 1000000 in
theorem qnum (w : World) (b : Nat) (s : ByteArray) (n : Nat) (σ : Option (List Bool)) (hs : s.size ≤ 6000) (hn : n ≤ 48) (h : Sp w b s σ) :
    Calls Tryz.prog 52 #[.pointer (some ⟨b, 0, none⟩), .int .i64 n] w (NumPost w b s n σ) := by
  obtain ⟨a, ha, hrd, hnone, hsome⟩ := h.rd
  go_enter Tryz.func52, Tryz.ntmps52
  go_wp2_with fail
  refine (qleft _ _ _ _ _ hs ha hrd).mono ?_
  rintro e w1 ⟨rfl, d, rfl⟩
  have hrd1 := hrd.drewN d
  have hg1 : w.grownBy (w.drewN d) (some b) := grown_drewN (grown_refl _ _) d
  by_cases hlt : 8 * s.size - a < n
  · go_wp2_with fail
    refine (qend _ _ _ _ _ hs hrd1).mono ?_
    rintro e w2 ⟨rfl, hsp, hg2⟩
    go_wp2
    go_ret
    refine ⟨0, none, rfl, Nat.two_pow_pos _, fun _ => rfl, grown_trans hg1 hg2, hsp, Ends.fail (fun l e => ?_)⟩
    have := (hsome l e).2
    unfold pNum
    rw [if_neg (by omega)]
  · cases σ with
    | none =>
      have hdead : Sp (w.drewN d) b s none := by show Rd _ _ _ _ _ _; rw [← hnone rfl]; exact hrd1
      have := hnone rfl
      clear hnone hsome
      obtain rfl : n = 0 := by omega
      go_wp2
      go_loop [5, 13] (fun o i => o = .int .i64 0 ∧ i = .int .i64 0) (fun _ _ => 0)
      case atStart => exact ⟨rfl, rfl⟩
      case round =>
        obtain ⟨rfl, rfl⟩ := hrel
        go_wp2
        go_ret
        exact ⟨0, none, rfl, Nat.two_pow_pos _, fun _ => rfl, hg1, hdead, rfl⟩
    | some l =>
      have hl := (hsome l rfl).2
      have hnl : n ≤ l.length := by omega
      have hsp1 : Sp (w.drewN d) b s (some l) := ⟨a, ha, (hsome l rfl).1, hrd1⟩
      clear hrd hrd1 hnone hsome h
      go_wp2
      go_loopw [5, 13] (fun o i wr => ∃ k v : Nat, k ≤ n ∧ i = .int .i64 k ∧ o = .int .i64 v ∧ v < 2 ^ k ∧ w.grownBy wr (some b) ∧ Hid (v = val (l.take k)) ∧ Sp wr b s (some (l.drop k)))
        (fun _ i _ => n - (intOf i).toNat)
      case atStart => exact ⟨0, 0, Nat.zero_le _, rfl, rfl, by decide, hg1, rfl, hsp1⟩
      case round =>
        obtain ⟨k, v, hk, rfl, rfl, hv, hg, HV, hsp⟩ := hrel
        have hp := pow48 k (by omega)
        by_cases hkn : k < n
        · have hk2 : k < l.length := by omega
          rw [List.drop_eq_getElem_cons hk2] at hsp
          have hone : (l[k]).toNat ≤ 1 := Bool.toNat_le _
          have hor := or_bit v (l[k]).toNat (by omega) hone
          go_wp2_with (go_at_call 70; refine (qbit _ _ _ _ _ hs hsp).mono ?_; rintro e w' ⟨rfl, hsp', hg'⟩)
          refine ⟨⟨k + 1, 2 * v + (l[k]).toNat, by omega, by go_num, by go_num, by rw [Nat.pow_succ]; omega, grown_trans hg hg', (by rw [val_take_succ l k hk2, HV.out] : 2 * v + (l[k]).toNat = val (l.take (k + 1))), hsp'⟩, by simp [intOf]; omega⟩
        · obtain rfl : k = n := by omega
          go_wp2
          go_ret
          refine ⟨v, some (l.drop k), rfl, hv, fun e => (by cases e), hg, hsp, ?_⟩
          simp [Ends, pNum, hnl, HV.out]
end Go.Proofs.YtncmgnmcggkhnaaGreat

namespace Go.Proofs.YtncmgnmcggkhnaaGreat
open Go.RowKit

theorem St.drew {t : TypeId} {w : World} {b : Nat} {s : ByteArray} {σ : Option (List Bool)} (h : St t w b s σ) : St t w.drew b s σ :=
  h.kept (grown_drew (grown_refl _ none)) (by simp)

theorem Ends.yes {α : Type} {σ : Option (List Bool)} {y : α} {c : Prop} [Decidable c] (h : c) : Ends (fun l => if c then some (y, l) else none) σ y σ := by
  unfold Ends
  cases σ with
  | none => rfl
  | some l => simp [h]

theorem Ends.no {α : Type} {σ : Option (List Bool)} {y x : α} {c : Prop} [Decidable c] (h : ¬ c) : Ends (fun l => if c then some (y, l) else none) σ x none :=
  Ends.fail (fun _ _ => if_neg h)

theorem rice_ends {σ σ1 σ2 : Option (List Bool)} {k q v : Nat} (h1 : Ends pNoughts σ q σ1) (h2 : Ends (pNum k) σ1 v σ2) (hlt : q * 2 ^ k + v < 2 ^ 32) :
    Ends (pRice k) σ (unfold1 (q * 2 ^ k + v)) σ2 :=
  Ends.bind h1 (q := fun q r => (pNum k r).bind fun (v, r') => if q * 2 ^ k + v < 2 ^ 32 then some (unfold1 (q * 2 ^ k + v), r') else none)
    (Ends.bind h2 (q := fun v r' => if q * 2 ^ k + v < 2 ^ 32 then some (unfold1 (q * 2 ^ k + v), r') else none) (Ends.yes hlt))

theorem rice_fail {σ σ1 σ2 : Option (List Bool)} {k q v : Nat} {x : Int} (h1 : Ends pNoughts σ q σ1) (h2 : Ends (pNum k) σ1 v σ2) (hlt : ¬ q * 2 ^ k + v < 2 ^ 32) :
    Ends (pRice k) σ x none :=
  Ends.bind h1 (q := fun q r => (pNum k r).bind fun (v, r') => if q * 2 ^ k + v < 2 ^ 32 then some (unfold1 (q * 2 ^ k + v), r') else none)
    (Ends.bind h2 (q := fun v r' => if q * 2 ^ k + v < 2 ^ 32 then some (unfold1 (q * 2 ^ k + v), r') else none) (Ends.no hlt))

theorem rice_bound (q k v : Nat) (hq : q ≤ 48000) (hk : k ≤ 30) (hv : v < 2 ^ k) : q * 2 ^ k + v < 70368744177664 := by
  have h : 2 ^ k ≤ 1073741824 := Nat.pow_le_pow_right (n := 2) (j := 30) (by omega) hk
  have : q * 2 ^ k ≤ 48000 * 1073741824 := Nat.mul_le_mul hq h
  omega

theorem unfold1_even (u : Nat) (h : u % 2 = 0) : unfold1 u = (u : Int) / 2 := by unfold unfold1; rw [if_pos h]
theorem unfold1_odd (u : Nat) (h : ¬ u % 2 = 0) : unfold1 u = -(((u : Int) + 1) / 2) := by unfold unfold1; rw [if_neg h]

theorem odd_half (u : Nat) (h : u < 70368744177664) : wrap64 (-((u : Int) + 1).tdiv 2) = -(((u : Int) + 1) / 2) := by
  rw [Int.tdiv_eq_ediv_of_nonneg (by omega), IntWalk.wrap64_in _ ⟨by omega, by omega⟩]

end Go.Proofs.YtncmgnmcggkhnaaGreat

namespace Go.Proofs.YtncmgnmcggkhnaaGreat
open Go.RowKit

/-- a list of ints in memory of the call's own -/
def Own (w : World) (base : Nat) (v : Value) (xs : List Int) : Prop := w.ownsRow base 3 1 v xs.length (xs.map (Value.int .i64))

theorem Tryz.info3 : (Tryz.prog.info? 3).map (fun i => (i.zero, i.size, i.bytes)) = some (some (.int .i64 0), 1, 8) := by kernel_rfl

theorem Own.nil (w : World) (base : Nat) : Own w base (.slice none 0 0) [] := World.ownsRow_nil _ _ _ _

theorem Own.lt {w : World} {base : Nat} {v : Value} {xs : List Int} (h : Own w base v xs) : ∀ k, v.ownBlock = some k → base ≤ k ∧ k < w.heap.size := World.ownsRow.lt h

theorem Own.kept {w w' : World} {base b : Nat} {v : Value} {xs : List Int} (h : Own w base v xs) (hg : w.grownBy w' (some b)) (hb : b < base) : Own w' base v xs := by
  refine World.ownsRow.kept h hg ?_
  cases hv : v.ownBlock with
  | none => exact .inl rfl
  | some k =>
    refine .inr (fun e => ?_)
    injection e with e
    have := (h.lt k hv).1
    omega

theorem Own.step {w w' : World} {base : Nat} {v v' : Value} {xs : List Int} {x : Int} (_h : Own w base v xs)
    (h' : w'.ownsRow base 3 1 v' (xs.length + 1) (xs.map (Value.int .i64) ++ [.int .i64 x])) : Own w' base v' (xs ++ [x]) := by
  unfold Own
  rw [List.length_append, List.length_singleton, List.map_append]
  exact h'

/-- a step that writes one block of the call's own -/
theorem grown_own {w wr w1 : World} {b : Nat} {row : Option Nat} (h : w.grownBy wr (some b)) (hg : wr.grownBy w1 row) (hr : ∀ g, row = some g → w.heap.size ≤ g) : w.grownBy w1 (some b) :=
  ⟨hg.os.trans h.os, hg.tape.trans h.tape, hg.output.trans h.output, Nat.le_trans h.size hg.size,
    fun i hi hib => (hg.block i (Nat.lt_of_lt_of_le hi h.size) (fun e => by have := hr i e.symm; omega)).trans (h.block i hi hib)⟩

theorem grown_from_alloc {w w' : World} {o : Obj} {row : Option Nat} (h : (w.alloc o).grownBy w' row) (_hr : ∀ g, row = some g → g < w.heap.size) : w.grownBy w' row :=
  grown_trans (grown_alloc (grown_refl w row) o) h

theorem one_new (w : World) (x : Int) (ty : TypeId) : ∀ j u, [Value.int .i64 x][j]? = some u → (w.alloc (.cells #[.int .i64 x] ty)).cell? ((⟨w.heap.size, 0, none⟩ : Addr).add j) = some u := by
  intro j u hj
  match j, hj with
  | 0, hj => simp at hj; subst hj; simp [Addr.add]

theorem one_cell (x : Int) : ∀ u ∈ [Value.int .i64 x], u.oneCell' = true := by
  intro u hu
  simp at hu
  subst hu
  rfl

theorem Ends.cases {α : Type} {p : P α} {l : List Bool} {x : α} {σ' : Option (List Bool)} (h : Ends p (some l) x σ') :
    (∃ r, p l = some (x, r) ∧ σ' = some r) ∨ (p l = none ∧ σ' = none) := by
  unfold Ends at h
  cases hp : p l with
  | none => simp [hp] at h; exact .inr ⟨rfl, h⟩
  | some yr =>
    obtain ⟨y, r⟩ := yr
    simp [hp] at h
    exact .inl ⟨r, by rw [h.1], h.2⟩

theorem Ends.of {α : Type} {p : P α} {l : List Bool} {x : α} {r : List Bool} (h : p l = some (x, r)) : Ends p (some l) x (some r) := by
  unfold Ends
  simp [h]

/-! lists that are read one by one -/

def Upto (f : P Int) (n k : Nat) (xs : List Int) (σ σ' : Option (List Bool)) : Prop :=
  (∃ l l' : List Bool, σ = some l ∧ σ' = some l' ∧ xs.length = k ∧ pList f n l = (pList f (n - k) l').map fun (ys, r) => (xs ++ ys, r)) ∨
  (σ' = none ∧ ∀ ys, Ends (pList f n) σ ys none)

theorem Upto.start (f : P Int) (n : Nat) (σ : Option (List Bool)) : Upto f n 0 [] σ σ := by
  cases σ with
  | none => exact .inr ⟨rfl, fun _ => rfl⟩
  | some l =>
    refine .inl ⟨l, l, rfl, rfl, rfl, ?_⟩
    rw [Nat.sub_zero]
    cases pList f n l <;> rfl

theorem Upto.live {f : P Int} {n k : Nat} {xs : List Int} {σ σ' : Option (List Bool)} (h : Upto f n k xs σ σ') (l' : List Bool) (e : σ' = some l') : xs.length = k := by
  rcases h with ⟨_, _, _, _, h, _⟩ | ⟨h, _⟩
  · exact h
  · rw [h] at e; cases e

theorem Upto.next {f : P Int} {n k : Nat} {xs : List Int} {σ σ' σ'' : Option (List Bool)} {x : Int} (h : Upto f n k xs σ σ') (hk : k < n) (hl : σ' ≠ none) (hx : Ends f σ' x σ'') :
    Upto f n (k + 1) (xs ++ [x]) σ σ'' := by
  rcases h with ⟨l, l', rfl, rfl, hlen, hp⟩ | ⟨rfl, _⟩
  · obtain ⟨m, hm⟩ : ∃ m, n - k = m + 1 := ⟨n - k - 1, by omega⟩
    have hm' : n - (k + 1) = m := by omega
    rw [hm] at hp
    have e : pList f (m + 1) l' = (f l').bind fun (x, r) => (pList f m r).map fun (xs, r') => (x :: xs, r') := rfl
    rw [e] at hp
    rcases hx.cases with ⟨r, hf, rfl⟩ | ⟨hf, rfl⟩
    · rw [hf] at hp
      refine .inl ⟨l, r, rfl, rfl, by rw [List.length_append, List.length_singleton, hlen], ?_⟩
      rw [hp, hm']
      show ((pList f m r).map _).map _ = _
      rw [Option.map_map]
      congr 1
      funext z
      obtain ⟨z1, z2⟩ := z
      simp
    · rw [hf] at hp
      refine .inr ⟨rfl, fun ys => Ends.fail (fun l0 e0 => ?_)⟩
      cases e0
      exact hp
  · exact absurd rfl hl

theorem Upto.ends {f : P Int} {n : Nat} {xs : List Int} {σ σ' : Option (List Bool)} (h : Upto f n n xs σ σ') : Ends (pList f n) σ xs σ' := by
  rcases h with ⟨l, l', rfl, rfl, hlen, hp⟩ | ⟨rfl, h⟩
  · refine Ends.of ?_
    rw [hp, Nat.sub_self]
    show some (xs ++ [], l') = _
    simp
  · exact h xs

theorem Upto.dead {f : P Int} {n k : Nat} {xs : List Int} {σ : Option (List Bool)} (h : Upto f n k xs σ none) (ys : List Int) : Ends (pList f n) σ ys none := by
  rcases h with ⟨l, l', rfl, h, _⟩ | ⟨_, h⟩
  · cases h
  · exact h ys

/-- all are numbers of so many signed bits -/
def Signs (wide : Nat) (xs : List Int) : Prop := ∀ x ∈ xs, ∃ v, v < 2 ^ wide ∧ x = sign wide v

theorem Signs.nil (wide : Nat) : Signs wide [] := fun x hx => by cases hx

theorem Signs.snoc {wide : Nat} {xs : List Int} {v : Nat} (h : Signs wide xs) (hv : v < 2 ^ wide) : Signs wide (xs ++ [sign wide v]) := by
  intro y hy
  rcases List.mem_append.1 hy with hy | hy
  · exact h y hy
  · exact ⟨v, hv, List.mem_singleton.1 hy⟩

end Go.Proofs.YtncmgnmcggkhnaaGreat

namespace Go.Proofs.YtncmgnmcggkhnaaGreat
open Go.RowKit

def UptoP (method many order total k : Nat) (xs : List Int) (σ σ' : Option (List Bool)) : Prop :=
  (∃ l l' : List Bool, σ = some l ∧ σ' = some l' ∧ pParts method many order total l = (pParts method many (if k = 0 then order else 0) (total - k) l').map fun (ys, r) => (xs ++ ys, r)) ∨
  (σ' = none ∧ ∀ ys, Ends (pParts method many order total) σ ys none)

theorem UptoP.start (method many order total : Nat) (σ : Option (List Bool)) : UptoP method many order total 0 [] σ σ := by
  cases σ with
  | none => exact .inr ⟨rfl, fun _ => rfl⟩
  | some l =>
    refine .inl ⟨l, l, rfl, rfl, ?_⟩
    rw [Nat.sub_zero, if_pos rfl]
    cases pParts method many order total l <;> rfl

theorem UptoP.next {method many order total k : Nat} {xs ys : List Int} {σ σ' σ'' : Option (List Bool)} (h : UptoP method many order total k xs σ σ') (hk : k < total) (hl : σ' ≠ none)
    (hx : Ends (pPart method (many - (if k = 0 then order else 0))) σ' ys σ'') : UptoP method many order total (k + 1) (xs ++ ys) σ σ'' := by
  rcases h with ⟨l, l', rfl, rfl, hp⟩ | ⟨rfl, _⟩
  · obtain ⟨m, hm⟩ : ∃ m, total - k = m + 1 := ⟨total - k - 1, by omega⟩
    have hm' : total - (k + 1) = m := by omega
    rw [hm] at hp
    generalize (if k = 0 then order else 0) = less at hp hx
    have e : pParts method many less (m + 1) l' = (pPart method (many - less) l').bind fun (xs, r) => (pParts method many 0 m r).map fun (ys, r') => (xs ++ ys, r') := rfl
    rw [e] at hp
    rcases hx.cases with ⟨r, hf, rfl⟩ | ⟨hf, rfl⟩
    · rw [hf] at hp
      refine .inl ⟨l, r, rfl, rfl, ?_⟩
      rw [hp, hm', if_neg (by omega)]
      show ((pParts method many 0 m r).map _).map _ = _
      rw [Option.map_map]
      congr 1
      funext z
      obtain ⟨z1, z2⟩ := z
      simp
    · rw [hf] at hp
      refine .inr ⟨rfl, fun ys => Ends.fail (fun l0 e0 => ?_)⟩
      cases e0
      exact hp
  · exact absurd rfl hl

theorem UptoP.ends {method many order total : Nat} {xs : List Int} {σ σ' : Option (List Bool)} (h : UptoP method many order total total xs σ σ') : Ends (pParts method many order total) σ xs σ' := by
  rcases h with ⟨l, l', rfl, rfl, hp⟩ | ⟨rfl, h⟩
  · refine Ends.of ?_
    rw [hp, Nat.sub_self]
    show some (xs ++ [], l') = _
    simp
  · exact h xs

theorem UptoP.dead {method many order total k : Nat} {xs : List Int} {σ : Option (List Bool)} (h : UptoP method many order total k xs σ none) (ys : List Int) : Ends (pParts method many order total) σ ys none := by
  rcases h with ⟨l, l', rfl, h, _⟩ | ⟨_, h⟩
  · cases h
  · exact h ys

/-- how a part's numbers are read -/
def reads (method k m : Nat) : P Int := if k = 15 + 16 * method then pSigned m else pRice k

theorem part_plain {method cnt k m : Nat} {ys : List Int} {σ σ1 σ2 σ3 : Option (List Bool)} (h1 : Ends (pNum (4 + method)) σ k σ1) (hk : k = 15 + 16 * method)
    (h2 : Ends (pNum 5) σ1 m σ2) (h3 : Ends (pList (reads method k m) cnt) σ2 ys σ3) : Ends (pPart method cnt) σ ys σ3 := by
  unfold reads at h3
  rw [if_pos hk] at h3
  refine Ends.bind h1 (q := fun k r => if k = 15 + 16 * method then (pNum 5 r).bind fun (m, r') => pList (pSigned m) cnt r' else pList (pRice k) cnt r) ?_
  have e : (fun r => if k = 15 + 16 * method then (pNum 5 r).bind fun (m, r') => pList (pSigned m) cnt r' else pList (pRice k) cnt r) = fun r => (pNum 5 r).bind fun (m, r') => pList (pSigned m) cnt r' := by
    funext r; rw [if_pos hk]
  rw [e]
  exact Ends.bind h2 (q := fun m r' => pList (pSigned m) cnt r') h3

theorem part_rice {method cnt k m : Nat} {ys : List Int} {σ σ1 σ3 : Option (List Bool)} (h1 : Ends (pNum (4 + method)) σ k σ1) (hk : ¬ k = 15 + 16 * method)
    (h3 : Ends (pList (reads method k m) cnt) σ1 ys σ3) : Ends (pPart method cnt) σ ys σ3 := by
  unfold reads at h3
  rw [if_neg hk] at h3
  refine Ends.bind h1 (q := fun k r => if k = 15 + 16 * method then (pNum 5 r).bind fun (m, r') => pList (pSigned m) cnt r' else pList (pRice k) cnt r) ?_
  have e : (fun r => if k = 15 + 16 * method then (pNum 5 r).bind fun (m, r') => pList (pSigned m) cnt r' else pList (pRice k) cnt r) = fun r => pList (pRice k) cnt r := by
    funext r; rw [if_neg hk]
  rw [e]
  exact h3

theorem residue_yes {n order method p : Nat} {xs : List Int} {σ σ1 σ2 σ3 : Option (List Bool)} (h1 : Ends (pNum 2) σ method σ1) (h2 : Ends (pNum 4) σ1 p σ2)
    (hc : method ≤ 1 ∧ n % 2 ^ p = 0 ∧ order ≤ n / 2 ^ p) (h3 : Ends (pParts method (n / 2 ^ p) order (2 ^ p)) σ2 xs σ3) : Ends (pResidue n order) σ xs σ3 := by
  refine Ends.bind h1 (q := fun method r => (pNum 4 r).bind fun (p, r') => if method ≤ 1 ∧ n % 2 ^ p = 0 ∧ order ≤ n / 2 ^ p then pParts method (n / 2 ^ p) order (2 ^ p) r' else none) ?_
  refine Ends.bind h2 (q := fun p r' => if method ≤ 1 ∧ n % 2 ^ p = 0 ∧ order ≤ n / 2 ^ p then pParts method (n / 2 ^ p) order (2 ^ p) r' else none) ?_
  have e : (fun r' => if method ≤ 1 ∧ n % 2 ^ p = 0 ∧ order ≤ n / 2 ^ p then pParts method (n / 2 ^ p) order (2 ^ p) r' else none) = pParts method (n / 2 ^ p) order (2 ^ p) := by
    funext r; rw [if_pos hc]
  rw [e]
  exact h3

theorem residue_no {n order method p : Nat} {xs : List Int} {σ σ1 σ2 : Option (List Bool)} (h1 : Ends (pNum 2) σ method σ1) (h2 : Ends (pNum 4) σ1 p σ2)
    (hc : ¬ (method ≤ 1 ∧ n % 2 ^ p = 0 ∧ order ≤ n / 2 ^ p)) : Ends (pResidue n order) σ xs none := by
  refine Ends.bind h1 (q := fun method r => (pNum 4 r).bind fun (p, r') => if method ≤ 1 ∧ n % 2 ^ p = 0 ∧ order ≤ n / 2 ^ p then pParts method (n / 2 ^ p) order (2 ^ p) r' else none) ?_
  refine Ends.bind h2 (q := fun p r' => if method ≤ 1 ∧ n % 2 ^ p = 0 ∧ order ≤ n / 2 ^ p then pParts method (n / 2 ^ p) order (2 ^ p) r' else none) ?_
  exact Ends.fail (fun _ _ => if_neg hc)

theorem residue_dead {n order method p : Nat} {xs : List Int} {σ σ1 : Option (List Bool)} (h1 : Ends (pNum 2) σ method σ1) (h2 : Ends (pNum 4) σ1 p none) : Ends (pResidue n order) σ xs none := by
  refine Ends.bind h1 (q := fun method r => (pNum 4 r).bind fun (p, r') => if method ≤ 1 ∧ n % 2 ^ p = 0 ∧ order ≤ n / 2 ^ p then pParts method (n / 2 ^ p) order (2 ^ p) r' else none) ?_
  exact Ends.bind h2 (q := fun p r' => if method ≤ 1 ∧ n % 2 ^ p = 0 ∧ order ≤ n / 2 ^ p then pParts method (n / 2 ^ p) order (2 ^ p) r' else none) Ends.dead

/-! how many numbers there are -/

theorem pList_length (f : P Int) : ∀ (n : Nat) (l : List Bool) (xs : List Int) (r : List Bool), pList f n l = some (xs, r) → xs.length = n
  | 0, l, xs, r, h => by
    have h' : some (([] : List Int), l) = some (xs, r) := h
    injection h' with h'
    injection h' with h1 h2
    rw [← h1]; rfl
  | n + 1, l, xs, r, h => by
    have h' : ((f l).bind fun (x, r) => (pList f n r).map fun (xs, r') => (x :: xs, r')) = some (xs, r) := h
    cases hf : f l with
    | none => rw [hf] at h'; cases h'
    | some y =>
      obtain ⟨y, r1⟩ := y
      rw [hf] at h'
      have h2 : (pList f n r1).map (fun (xs, r') => (y :: xs, r')) = some (xs, r) := h'
      cases hp : pList f n r1 with
      | none => rw [hp] at h2; cases h2
      | some z =>
        obtain ⟨z, r2⟩ := z
        rw [hp] at h2
        injection h2 with h2
        injection h2 with h3 h4
        rw [← h3, List.length_cons, pList_length f n r1 z r2 hp]

theorem pPart_length (method many : Nat) (l : List Bool) (xs : List Int) (r : List Bool) (h : pPart method many l = some (xs, r)) : xs.length = many := by
  unfold pPart at h
  cases hk : pNum (4 + method) l with
  | none => rw [hk] at h; cases h
  | some k =>
    obtain ⟨k, r1⟩ := k
    rw [hk] at h
    simp only [Option.bind_some] at h
    split at h
    · cases hm : pNum 5 r1 with
      | none => rw [hm] at h; cases h
      | some m =>
        obtain ⟨m, r2⟩ := m
        rw [hm] at h
        exact pList_length _ _ _ _ _ h
    · exact pList_length _ _ _ _ _ h

theorem pParts_length (method many : Nat) : ∀ (c less : Nat) (l : List Bool) (xs : List Int) (r : List Bool), (c = 0 → less = 0) → less ≤ many → pParts method many less c l = some (xs, r) → xs.length + less = c * many
  | 0, less, l, xs, r, h0, _, h => by
    have h' : some (([] : List Int), l) = some (xs, r) := h
    injection h' with h'
    injection h' with h1 h2
    rw [← h1, h0 rfl]; simp
  | c + 1, less, l, xs, r, _, hle, h => by
    have h' : ((pPart method (many - less) l).bind fun (xs, r) => (pParts method many 0 c r).map fun (ys, r') => (xs ++ ys, r')) = some (xs, r) := h
    cases hf : pPart method (many - less) l with
    | none => rw [hf] at h'; cases h'
    | some y =>
      obtain ⟨y, r1⟩ := y
      rw [hf] at h'
      have h2 : (pParts method many 0 c r1).map (fun (ys, r') => (y ++ ys, r')) = some (xs, r) := h'
      cases hp : pParts method many 0 c r1 with
      | none => rw [hp] at h2; cases h2
      | some z =>
        obtain ⟨z, r2⟩ := z
        rw [hp] at h2
        injection h2 with h2
        injection h2 with h3 h4
        have e1 := pPart_length _ _ _ _ _ hf
        have e2 := pParts_length method many c 0 r1 z r2 (fun _ => rfl) (Nat.zero_le _) hp
        rw [← h3, List.length_append, Nat.succ_mul, e1]
        omega

theorem pResidue_length (n order : Nat) (l : List Bool) (xs : List Int) (r : List Bool) (h : pResidue n order l = some (xs, r)) : xs.length + order = n := by
  unfold pResidue at h
  cases hk : pNum 2 l with
  | none => rw [hk] at h; cases h
  | some k =>
    obtain ⟨k, r1⟩ := k
    rw [hk] at h
    simp only [Option.bind_some] at h
    cases hm : pNum 4 r1 with
    | none => rw [hm] at h; cases h
    | some m =>
      obtain ⟨m, r2⟩ := m
      rw [hm] at h
      simp only [Option.bind_some] at h
      split at h
      · rename_i hc
        have hp := Nat.two_pow_pos m
        have e := pParts_length k (n / 2 ^ m) (2 ^ m) order r2 xs r (fun h0 => by omega) hc.2.2 h
        rw [e, Nat.mul_comm]
        exact Nat.div_mul_cancel (Nat.dvd_of_mod_eq_zero hc.2.1)
      · cases h

def Mid (xs : List Int) : Prop := ∀ x ∈ xs, -70368744177664 ≤ x ∧ x ≤ 70368744177664

theorem Mid.nil : Mid [] := fun x hx => by cases hx

theorem Mid.snoc {xs : List Int} {x : Int} (h : Mid xs) (hx : -70368744177664 ≤ x ∧ x ≤ 70368744177664) : Mid (xs ++ [x]) := by
  intro y hy
  rcases List.mem_append.1 hy with hy | hy
  · exact h y hy
  · rw [List.mem_singleton.1 hy]; exact hx

end Go.Proofs.YtncmgnmcggkhnaaGreat
