import Derived.Test.YtncmgnmcggkhnaaGreatGZ04
import Derived.Test.YtncmgnmcggkhnaaGreatGZ14
import Derived.Deep.RegionLaw
import Derived.BigRegion
import Derived.Test.YtncmgnmcggkhnaaGreatGZ00
namespace Go.Proofs.YtncmgnmcggkhnaaGreat
open Go.RowKit

/-- nothing but the blocks of `S` has changed, and new ones were made -/
structure Kp (w w' : World) (S : Nat → Prop) : Prop where
  os : w'.os = w.os
  tape : w'.tape = w.tape
  output : w'.output = w.output
  size : w.heap.size ≤ w'.heap.size
  block : ∀ b, b < w.heap.size → ¬ S b → w'.heap[b]? = w.heap[b]?

theorem Kp.of {w w' : World} {row : Option Nat} (h : w.grownBy w' row) : Kp w w' (fun b => some b = row) := ⟨h.os, h.tape, h.output, h.size, h.block⟩
theorem Kp.ofNone {w w' : World} {S : Nat → Prop} (h : w.grownBy w' none) : Kp w w' S := ⟨h.os, h.tape, h.output, h.size, fun b hb _ => h.block b hb (by simp)⟩
theorem Kp.refl (w : World) (S : Nat → Prop) : Kp w w S := ⟨rfl, rfl, rfl, Nat.le_refl _, fun _ _ _ => rfl⟩
/-- what the second may change was the first's, or is new -/
theorem Kp.trans {w w1 w2 : World} {S S1 : Nat → Prop} (h : Kp w w1 S) (h1 : Kp w1 w2 S1) (hs : ∀ b, S1 b → S b ∨ w.heap.size ≤ b) : Kp w w2 S := by
  refine ⟨h1.os.trans h.os, h1.tape.trans h.tape, h1.output.trans h.output, Nat.le_trans h.size h1.size, fun b hb hn => ?_⟩
  rw [h1.block b (Nat.lt_of_lt_of_le hb h.size) (fun e => by rcases hs b e with h2 | h2; exact hn h2; omega), h.block b hb hn]
theorem Kp.mono {w w' : World} {S S1 : Nat → Prop} (h : Kp w w' S) (hs : ∀ b, S b → S1 b ∨ w.heap.size ≤ b) : Kp w w' S1 :=
  ⟨h.os, h.tape, h.output, h.size, fun b hb hn => h.block b hb (fun e => by rcases hs b e with h2 | h2; exact hn h2; omega)⟩
/-- where all that may change is new, it is growth -/
theorem Kp.grown {w w' : World} {S : Nat → Prop} (h : Kp w w' S) (hs : ∀ b, S b → w.heap.size ≤ b) : w.grownBy w' none :=
  ⟨h.os, h.tape, h.output, h.size, fun b hb _ => h.block b hb (fun e => by have := hs b e; omega)⟩
theorem Box.kp {w w' : World} {g : Nat} {cs : Array Value} {t : TypeId} {S : Nat → Prop} (h : Box w g cs t) (hk : Kp w w' S) (hn : ¬ S g) : Box w' g cs t := by
  have hl := h.lt
  unfold Box at *
  rw [hk.block g hl hn, h]
theorem cell_kp {w w' : World} {S : Nat → Prop} {a : Addr} {u : Value} (h : w.cell? a = some u) (hk : Kp w w' S) (hl : a.block < w.heap.size) (hn : ¬ S a.block) : w'.cell? a = some u := by
  have e := hk.block a.block hl hn
  unfold World.cell? at *
  rw [e]
  exact h
theorem Own.kp {w w' : World} {base : Nat} {v : Value} {xs : List Int} {S : Nat → Prop} (h : Own w base v xs) (hk : Kp w w' S) (hn : ∀ q, v.ownBlock = some q → ¬ S q) : Own w' base v xs := by
  have hlt := fun q hq => (h.lt q hq).2
  unfold Own World.ownsRow at *
  refine ⟨h.1, ?_⟩
  rcases h.2 with hz | ⟨g, cap, cur, hv, hb, hg, r⟩
  · exact .inl hz
  · subst hv
    refine .inr ⟨g, cap, cur, rfl, hb, ?_, r⟩
    rw [hk.block g (hlt g rfl) (hn g rfl), hg]

theorem cell_lt {w : World} {a : Addr} {u : Value} (h : w.cell? a = some u) : a.block < w.heap.size := by
  rcases Nat.lt_or_ge a.block w.heap.size with h1 | h1
  · exact h1
  · unfold World.cell? at h
    rw [Array.getElem?_eq_none h1] at h
    cases h

theorem ownsRow_kp {w w' : World} {base t k n : Nat} {v : Value} {xs : List Value} {S : Nat → Prop} (h : w.ownsRow base t k v n xs) (hk : Kp w w' S) (hn : ∀ q, v.ownBlock = some q → ¬ S q) : w'.ownsRow base t k v n xs := by
  have hlt := fun q hq => (World.ownsRow.lt h q hq).2
  unfold World.ownsRow at *
  refine ⟨h.1, ?_⟩
  rcases h.2 with hz | ⟨g, cap, cur, hv, hb, hg, r⟩
  · exact .inl hz
  · subst hv
    refine .inr ⟨g, cap, cur, rfl, hb, ?_, r⟩
    rw [hk.block g (hlt g rfl) (hn g rfl), hg]
end Go.Proofs.YtncmgnmcggkhnaaGreat

namespace Go.Proofs.YtncmgnmcggkhnaaGreat
open Go.RowKit

/-- lists that are looked at: in blocks of `D` -/
def Views (w : World) (D : Nat → Prop) (v : Value) (ls : List (List Int)) : Prop :=
  ∃ lg lcap, v = .slice (some ⟨lg, 0, none⟩) ls.length lcap ∧ ls.length ≤ lcap ∧ D lg ∧ lg < w.heap.size ∧ ∀ i, i < ls.length → ∃ g off cap, D g ∧ g < w.heap.size ∧
    w.cell? ⟨lg, i, none⟩ = some (.slice (some ⟨g, off, none⟩) (ls.getD i []).length cap) ∧ (ls.getD i []).length ≤ cap ∧ ∀ j u, ((ls.getD i []).map (Value.int .i64))[j]? = some u → w.cell? ((⟨g, off, none⟩ : Addr).add j) = some u

theorem add_block (a : Addr) (j : Nat) : (a.add j).block = a.block := by
  unfold Addr.add
  split <;> rfl

theorem Views.kp {w w' : World} {D S : Nat → Prop} {v : Value} {ls : List (List Int)} (h : Views w D v ls) (hk : Kp w w' S) (hn : ∀ q, D q → ¬ S q) : Views w' D v ls := by
  obtain ⟨lg, lcap, rfl, hlc, hD, hlt, hc⟩ := h
  refine ⟨lg, lcap, rfl, hlc, hD, Nat.lt_of_lt_of_le hlt hk.size, fun i hi => ?_⟩
  obtain ⟨g, off, cap, hDg, hgl, h1, hcap, h2⟩ := hc i hi
  exact ⟨g, off, cap, hDg, Nat.lt_of_lt_of_le hgl hk.size, cell_kp h1 hk hlt (hn lg hD), hcap, fun j u hj => cell_kp (h2 j u hj) hk (by rw [add_block]; exact hgl) (by rw [add_block]; exact hn g hDg)⟩

/-- which blocks a list of lists owns -/
def ownsB (gC : Nat) (vs : List Value) (b : Nat) : Prop := b = gC ∨ ∃ i, i < vs.length ∧ (vs.getD i undef).ownBlock = some b

theorem CM.kp {w w' : World} {gC base : Nat} {vs : List Value} {xss : List (List Int)} {S : Nat → Prop} (h : CM w gC base vs xss) (hk : Kp w w' S) (hn : ∀ b, ownsB gC vs b → ¬ S b) : CM w' gC base vs xss :=
  ⟨h.row.kp hk (hn gC (.inl rfl)), h.len, fun i hi => (h.own i hi).kp hk (fun q hq => hn q (.inr ⟨i, hi, hq⟩)), h.apartV⟩

theorem CM.ownsLt {w : World} {gC base : Nat} {vs : List Value} {xss : List (List Int)} (h : CM w gC base vs xss) : ∀ b, ownsB gC vs b → b < w.heap.size := by
  intro b hb
  rcases hb with rfl | ⟨i, hi, hq⟩
  · exact h.row.lt
  · exact ((h.own i hi).lt b hq).2

/-- a frame's channels are such lists -/
theorem Subs.views {w : World} {base : Nat} {lv : Value} {vs : List Value} {xss : List (List Int)} (h : Subs w base lv vs xss) (hne : 0 < xss.length) (hl : ∀ j, j < xss.length → 1 ≤ (xss.getD j []).length) :
    Views w (fun q => base ≤ q ∧ q < w.heap.size) lv xss := by
  have hlen := h.len
  obtain ⟨lg, lcap, hv, hlb, hlt, hc⟩ := h.cell (by omega)
  have hcap : vs.length ≤ lcap := by
    have hr := h.row
    rw [hv] at hr
    rcases hr.2 with ⟨e, _⟩ | ⟨g, cap, cur, e, _, _, hnc, _⟩
    · cases e
    · injection e with _ _ e3
      omega
  refine ⟨lg, lcap, by rw [hv, hlen], by omega, ⟨hlb, hlt⟩, hlt, fun i hi => ?_⟩
  obtain ⟨g, cap, hvi, hrow⟩ := (h.own i (by omega)).full (hl i hi)
  obtain ⟨_, _, _, hcap', _⟩ := hrow.block
  exact ⟨g, 0, cap, hrow.lt, hrow.lt.2, by rw [hc i (by omega), hvi], hcap', row_news hrow⟩

theorem CM.grow {wr w1 : World} {gC base : Nat} {vs : List Value} {acc : List (List Int)} (hm : CM wr gC base vs acc) (hcb : gC < base) {i g cap n : Nat} {zs : List Int} (hi : i < vs.length)
    (hg : wr.grownBy w1 (vs.getD i undef).ownBlock) (hown : Own w1 base (.slice (some ⟨g, 0, none⟩) n cap) zs) (hat : (vs.getD i undef).ownBlock = some g ∨ g = wr.heap.size) :
    CM (w1.setCell ⟨gC, i, none⟩ (.slice (some ⟨g, 0, none⟩) n cap)) gC base (vs.set i (.slice (some ⟨g, 0, none⟩) n cap)) (acc.set i zs) ∧ w1.grownBy (w1.setCell ⟨gC, i, none⟩ (.slice (some ⟨g, 0, none⟩) n cap)) (some gC) := by
  have hal := hm.len
  have hvlt : ∀ j q, j < vs.length → (vs.getD j undef).ownBlock = some q → base ≤ q ∧ q < wr.heap.size := fun j q hj hq => (hm.own j hj).lt q hq
  have hne : ∀ k, k < base → some k ≠ (vs.getD i undef).ownBlock := fun k hk e => by have := (hvlt i k hi e.symm).1; omega
  have hs := grown_set w1 gC i (.slice (some ⟨g, 0, none⟩) n cap)
  have hgb : base ≤ g := (hown.lt g rfl).1
  refine ⟨⟨?_, ?_, ?_, ?_⟩, hs⟩
  · have := (hm.row.kept hg (hne gC hcb)).set i (.slice (some ⟨g, 0, none⟩) n cap)
    rw [List.setIfInBounds_toArray] at this
    exact this
  · rw [List.length_set, List.length_set]; exact hm.len
  · intro j hj
    rw [List.length_set] at hj
    by_cases hij : i = j
    · subst hij
      rw [getD_set_eq _ _ _ _ hi, getD_set_eq _ _ _ _ (by omega)]
      have hgc : Value.ownBlock (.slice (some ⟨g, 0, none⟩) n cap) ≠ some gC := fun e => by
        have e' : g = gC := by simpa [Value.ownBlock] using e
        omega
      exact World.ownsRow.kept hown hs (.inr hgc)
    · rw [getD_set_ne _ _ _ _ _ hij, getD_set_ne _ _ _ _ _ hij]
      have h1 := hm.own j hj
      have h2 : Own w1 base (vs.getD j undef) (acc.getD j []) := by
        refine World.ownsRow.kept h1 hg ?_
        cases hq : (vs.getD j undef).ownBlock with
        | none => exact .inl rfl
        | some q =>
          refine .inr (fun e => ?_)
          rcases Nat.lt_or_gt_of_ne hij with hlt | hlt
          · exact hm.apartV i j q hlt hj e.symm hq
          · exact hm.apartV j i q hlt hi hq e.symm
      refine World.ownsRow.kept h2 hs ?_
      cases hq : (vs.getD j undef).ownBlock with
      | none => exact .inl rfl
      | some q => exact .inr (fun e => by injection e with e; have := (hvlt j q hj hq).1; omega)
  · intro j k q hjk hk hq
    rw [List.length_set] at hk
    by_cases hij : i = j
    · subst hij
      rw [getD_set_eq _ _ _ _ (by omega)] at hq
      have e' : g = q := by simpa [Value.ownBlock] using hq
      subst e'
      rw [getD_set_ne _ _ _ _ _ (by omega)]
      intro e
      rcases hat with hat | hat
      · exact hm.apartV i k g hjk hk hat e
      · have := (hvlt k g hk e).2; omega
    · rw [getD_set_ne _ _ _ _ _ hij] at hq
      by_cases hik : i = k
      · subst hik
        rw [getD_set_eq _ _ _ _ hk]
        intro e
        have e' : g = q := by simpa [Value.ownBlock] using e
        subst e'
        rcases hat with hat | hat
        · exact hm.apartV j i g hjk hk hq hat
        · have := (hvlt j g (by omega) hq).2; omega
      · rw [getD_set_ne _ _ _ _ _ hik]
        exact hm.apartV j k q hjk hk hq

/-- join's loop, at channel `k` -/
structure JoinInv (w wq : World) (gC base n : Nat) (D : Nat → Prop) (v : Value) (vs : List Value) (acc chs : List (List Int)) (k : Nat) (vs' : List Value) (acc' : List (List Int)) : Prop where
  cm : CM wq gC base vs' acc'
  len : vs'.length = n
  kp : Kp w wq (ownsB gC vs)
  sub : ∀ b, ownsB gC vs' b → ownsB gC vs b ∨ w.heap.size ≤ b
  view : Views wq D v chs
  up : GrownUpto acc chs acc' n k

theorem join_step {w wq w1 : World} {gC base n k g cap m : Nat} {D : Nat → Prop} {v : Value} {vs vs' : List Value} {acc chs acc' : List (List Int)} (h : JoinInv w wq gC base n D v vs acc chs k vs' acc') (hcb : gC < base) (hk : k < n)
    (hD : ∀ q, D q → ¬ ownsB gC vs q ∧ q < w.heap.size)
    (hg : wq.grownBy w1 (vs'.getD k undef).ownBlock) (hown : Own w1 base (.slice (some ⟨g, 0, none⟩) m cap) (acc.getD k [] ++ chs.getD k [])) (hat : (vs'.getD k undef).ownBlock = some g ∨ g = wq.heap.size) :
    JoinInv w (w1.setCell ⟨gC, k, none⟩ (.slice (some ⟨g, 0, none⟩) m cap)) gC base n D v vs acc chs (k + 1) (vs'.set k (.slice (some ⟨g, 0, none⟩) m cap)) (acc'.set k (acc.getD k [] ++ chs.getD k [])) := by
  have hl := h.len
  have hstep := h.cm.grow hcb (zs := acc.getD k [] ++ chs.getD k []) (by omega) hg hown hat
  have hs := hstep.2
  have hsub1 : ∀ b, some b = (vs'.getD k undef).ownBlock → ownsB gC vs b ∨ w.heap.size ≤ b := fun b e => h.sub b (.inr ⟨k, by omega, e.symm⟩)
  have hk1 : Kp w w1 (ownsB gC vs) := h.kp.trans (Kp.of hg) hsub1
  have hk2 : Kp w (w1.setCell ⟨gC, k, none⟩ (.slice (some ⟨g, 0, none⟩) m cap)) (ownsB gC vs) := hk1.trans (Kp.of hs) (fun b e => by injection e with e; exact .inl (.inl e))
  refine ⟨hstep.1, by rw [List.length_set]; exact hl, hk2, ?_, ?_, h.up.step hk⟩
  · intro b hb
    rcases hb with hb | ⟨i, hi, hq⟩
    · exact .inl (.inl hb)
    · rw [List.length_set] at hi
      by_cases hik : k = i
      · subst hik
        rw [getD_set_eq _ _ _ _ (by omega)] at hq
        have e' : g = b := by simpa [Value.ownBlock] using hq
        subst e'
        rcases hat with hat | hat
        · exact h.sub g (.inr ⟨k, by omega, hat⟩)
        · exact .inr (by have := h.kp.size; omega)
      · rw [getD_set_ne _ _ _ _ _ hik] at hq
        exact h.sub b (.inr ⟨i, hi, hq⟩)
  · have hv1 := h.view.kp (Kp.of hg) (fun q hq e => by
      rcases hsub1 q e with h1 | h1
      · exact (hD q hq).1 h1
      · have := (hD q hq).2; omega)
    exact hv1.kp (Kp.of hs) (fun q hq e => by
      injection e with e
      exact (hD q hq).1 (.inl e))
end Go.Proofs.YtncmgnmcggkhnaaGreat

/-
  What is written: plain functions on lists of bits and bytes, and that it is read again. Nothing of the program is named here.
-/
namespace Go.Proofs.YtncmgnmcggkhnaaGreat
open Go.RowKit

/-! ### fields -/

/-- n bits of a number, the highest first -/
def numBits (v : Int) : Nat → List Bool
  | 0 => []
  | n + 1 => decide (v / 2 ^ n % 2 = 1) :: numBits v n

theorem numBits_length (v : Int) : ∀ n, (numBits v n).length = n
  | 0 => rfl
  | n + 1 => by simp [numBits, numBits_length v n]

theorem foldl_val : ∀ (l : List Bool) (a : Nat), l.foldl (fun a c => 2 * a + c.toNat) a = a * 2 ^ l.length + val l
  | [], a => by simp [val]
  | c :: l, a => by
    unfold val
    rw [List.foldl_cons, List.foldl_cons, foldl_val l, foldl_val l, List.length_cons, Nat.pow_succ]
    have e : (2 * a + c.toNat) * 2 ^ l.length = a * (2 ^ l.length * 2) + c.toNat * 2 ^ l.length := by
      rw [Nat.add_mul, Nat.mul_comm (2 ^ l.length) 2, ← Nat.mul_assoc, Nat.mul_comm a 2]
    rw [e]
    simp only [Nat.mul_zero, Nat.zero_add]
    omega

theorem val_cons2 (c : Bool) (l : List Bool) : val (c :: l) = c.toNat * 2 ^ l.length + val l := by
  conv => lhs; unfold val
  rw [List.foldl_cons, foldl_val]
  simp

theorem val_append (l m : List Bool) : val (l ++ m) = val l * 2 ^ m.length + val m := by
  conv => lhs; unfold val
  rw [List.foldl_append, foldl_val]
  rfl

theorem val_false (n : Nat) : val (List.replicate n false) = 0 := by
  induction n with
  | zero => rfl
  | succ n ih => rw [List.replicate_succ, val_cons2, ih]; simp

theorem val_numBits (v : Int) : ∀ n : Nat, (val (numBits v n) : Int) = v % 2 ^ n
  | 0 => by
    show ((0 : Nat) : Int) = v % 2 ^ 0
    have : (2 : Int) ^ 0 = 1 := rfl
    omega
  | n + 1 => by
    have ih := val_numBits v n
    show (val (decide (v / 2 ^ n % 2 = 1) :: numBits v n) : Int) = _
    rw [val_cons2, numBits_length, Int.natCast_add, ih, Int.natCast_mul, Int.pow_succ]
    have hp : (0 : Int) < 2 ^ n := Int.pow_pos (by omega)
    have h1 : v = 2 ^ n * (v / 2 ^ n) + v % 2 ^ n := (Int.mul_ediv_add_emod v (2 ^ n)).symm
    have h2 : v / 2 ^ n = 2 * (v / 2 ^ n / 2) + v / 2 ^ n % 2 := (Int.mul_ediv_add_emod (v / 2 ^ n) 2).symm
    have h3 : ((decide (v / 2 ^ n % 2 = 1)).toNat : Int) = v / 2 ^ n % 2 := by
      rcases Int.emod_two_eq (v / 2 ^ n) with h | h <;> simp [h]
    rw [h3]
    have hc : (((2 : Nat) ^ n : Nat) : Int) = (2 : Int) ^ n := by simp
    rw [hc]
    have h4 : v = (v / 2 ^ n / 2) * (2 ^ n * 2) + (v / 2 ^ n % 2 * 2 ^ n + v % 2 ^ n) := by
      conv => lhs; rw [h1]
      conv => lhs; lhs; rw [h2]
      rw [Int.mul_add, Int.mul_comm (2 ^ n) (2 * _), Int.mul_comm 2 (v / 2 ^ n / 2), Int.mul_assoc, Int.mul_comm (2 : Int) (2 ^ n), Int.mul_comm (2 ^ n) (v / 2 ^ n % 2), Int.add_assoc]
    have h5 : 0 ≤ v % 2 ^ n := Int.emod_nonneg _ (by omega)
    have h6 : v % 2 ^ n < 2 ^ n := Int.emod_lt_of_pos _ hp
    have h7 : 0 ≤ v / 2 ^ n % 2 * 2 ^ n + v % 2 ^ n ∧ v / 2 ^ n % 2 * 2 ^ n + v % 2 ^ n < 2 ^ n * 2 := by
      rcases Int.emod_two_eq (v / 2 ^ n) with h | h <;> rw [h] <;> omega
    conv => rhs; rw [h4]
    rw [Int.add_comm (v / 2 ^ n / 2 * (2 ^ n * 2)), Int.add_mul_emod_self_right, Int.emod_eq_of_lt h7.1 h7.2]

theorem pNum_append (l r : List Bool) : pNum l.length (l ++ r) = some (val l, r) := by
  unfold pNum
  rw [if_pos (by simp), List.take_left, List.drop_left]

theorem pNum_bits (v : Int) (n : Nat) (r : List Bool) : pNum n (numBits v n ++ r) = some ((v % 2 ^ n).toNat, r) := by
  have h := pNum_append (numBits v n) r
  rw [numBits_length] at h
  rw [h, ← val_numBits]
  simp

theorem pNum_bits_nat (v n : Nat) (r : List Bool) (h : v < 2 ^ n) : pNum n (numBits v n ++ r) = some (v, r) := by
  rw [pNum_bits]
  have e : ((v : Int) % 2 ^ n).toNat = v := by
    have hc : (2 : Int) ^ n = ((2 ^ n : Nat) : Int) := by simp
    rw [hc, ← Int.natCast_emod, Int.toNat_natCast, Nat.mod_eq_of_lt h]
  rw [e]

theorem pMust_bits (v n : Nat) (r : List Bool) (h : v < 2 ^ n) : pMust n v (numBits v n ++ r) = some ((), r) := by
  unfold pMust
  rw [pNum_bits_nat v n r h]
  simp

theorem pMust_false (n : Nat) (r : List Bool) : pMust n 0 (List.replicate n false ++ r) = some ((), r) := by
  have h := pNum_append (List.replicate n false) r
  rw [List.length_replicate, val_false] at h
  unfold pMust
  rw [h]
  simp

theorem sign_mod (n : Nat) (v : Int) (hn : 1 ≤ n) (h : fitsB n v = true) : sign n (v % 2 ^ n).toNat = v := by
  unfold fitsB at h
  simp only [Bool.and_eq_true, decide_eq_true_eq] at h
  obtain ⟨m, rfl⟩ : ∃ m, n = m + 1 := ⟨n - 1, by omega⟩
  rw [Nat.add_sub_cancel] at h
  unfold sign
  have hc : (2 : Int) ^ (m + 1) = 2 * ((2 ^ m : Nat) : Int) := by rw [Int.pow_succ]; simp; omega
  have hc2 : 2 ^ (m + 1) = 2 * 2 ^ m := by rw [Nat.pow_succ]; omega
  rw [Nat.add_sub_cancel]
  generalize 2 ^ m = p at *
  rw [hc]
  by_cases hv : 0 ≤ v
  · rw [Int.emod_eq_of_lt hv (by omega), if_neg (by omega)]
    omega
  · have e : v % (2 * (p : Int)) = v + 2 * p := by
      rw [← Int.add_emod_right, Int.emod_eq_of_lt (by omega) (by omega)]
    rw [e, if_pos (by omega)]
    omega

theorem pSigned_bits (v : Int) (n : Nat) (r : List Bool) (hn : 1 ≤ n) (h : fitsB n v = true) : pSigned n (numBits v n ++ r) = some (v, r) := by
  unfold pSigned
  rw [pNum_bits]
  show some (sign n _, r) = _
  rw [sign_mod n v hn h]

/-- so many bits 0, and a 1 -/
def zerosBits (q : Nat) : List Bool := List.replicate q false ++ [true]

theorem pNoughts_bits : ∀ (q : Nat) (r : List Bool), pNoughts (zerosBits q ++ r) = some (q, r)
  | 0, r => rfl
  | q + 1, r => by
    show pNoughts (false :: (zerosBits q ++ r)) = _
    show (pNoughts (zerosBits q ++ r)).map _ = _
    rw [pNoughts_bits q r]
    rfl

theorem pList_bits (f : P Int) (enc : Int → List Bool) : ∀ (l : List Int) (r : List Bool), (∀ x ∈ l, ∀ r, f (enc x ++ r) = some (x, r)) → pList f l.length (l.flatMap enc ++ r) = some (l, r)
  | [], r, _ => rfl
  | x :: l, r, h => by
    show (f ((x :: l).flatMap enc ++ r)).bind _ = _
    rw [List.flatMap_cons, List.append_assoc, h x (by simp)]
    show (pList f l.length (l.flatMap enc ++ r)).map _ = _
    rw [pList_bits f enc l r (fun y hy => h y (by simp [hy]))]
    rfl

/-! ### the residue -/

def fold1 (v : Int) : Nat := if 0 ≤ v then (2 * v).toNat else (-2 * v - 1).toNat

theorem unfold_fold (v : Int) : unfold1 (fold1 v) = v := by
  unfold unfold1 fold1
  by_cases h : 0 ≤ v
  · rw [if_pos h, if_pos (by omega)]; omega
  · rw [if_neg h, if_neg (by omega)]; omega

def riceBits (k : Nat) (v : Int) : List Bool := zerosBits (fold1 v / 2 ^ k) ++ numBits (fold1 v) k

theorem riceBits_length (k : Nat) (v : Int) : (riceBits k v).length = fold1 v / 2 ^ k + 1 + k := by
  unfold riceBits zerosBits
  simp [numBits_length]
  omega

theorem pRice_bits (k : Nat) (v : Int) (r : List Bool) (h : fold1 v < 2 ^ 32) : pRice k (riceBits k v ++ r) = some (v, r) := by
  unfold pRice riceBits
  rw [List.append_assoc, pNoughts_bits]
  show (pNum k _).bind _ = _
  rw [pNum_bits]
  have e : (((fold1 v : Nat) : Int) % 2 ^ k).toNat = fold1 v % 2 ^ k := by
    have hc : (2 : Int) ^ k = ((2 ^ k : Nat) : Int) := by simp
    rw [hc, ← Int.natCast_emod, Int.toNat_natCast]
  show (if _ then _ else _) = _
  rw [e, Nat.mul_comm, Nat.div_add_mod, if_pos h, unfold_fold]

/-- how many bits one part needs -/
def partLen (res : List Int) (k : Nat) : Nat := (res.map (fun v => fold1 v / 2 ^ k + 1 + k)).sum

theorem partLen_eq (k : Nat) : ∀ res : List Int, (res.flatMap (riceBits k)).length = partLen res k
  | [] => rfl
  | v :: res => by
    rw [List.flatMap_cons, List.length_append, partLen_eq k res, riceBits_length]
    unfold partLen
    simp

def bestAux (f : Nat → Nat) : Nat → Nat × Nat
  | 0 => (0, f 0)
  | k + 1 => if f (k + 1) < (bestAux f k).2 then (k + 1, f (k + 1)) else bestAux f k

theorem bestAux_spec (f : Nat → Nat) : ∀ m, (bestAux f m).1 ≤ m ∧ (bestAux f m).2 = f (bestAux f m).1 ∧ ∀ k, k ≤ m → (bestAux f m).2 ≤ f k
  | 0 => by
    refine ⟨Nat.le_refl _, rfl, fun k hk => ?_⟩
    have : k = 0 := by omega
    subst this
    exact Nat.le_refl _
  | m + 1 => by
    obtain ⟨h1, h2, h3⟩ := bestAux_spec f m
    unfold bestAux
    split
    · rename_i h
      refine ⟨Nat.le_refl _, rfl, fun k hk => ?_⟩
      rcases Nat.lt_or_ge m k with h4 | h4
      · have : k = m + 1 := by omega
        subst this; exact Nat.le_refl _
      · have := h3 k h4
        show f (m + 1) ≤ f k
        omega
    · rename_i h
      refine ⟨by omega, h2, fun k hk => ?_⟩
      rcases Nat.lt_or_ge m k with h4 | h4
      · have : k = m + 1 := by omega
        subst this; omega
      · exact h3 k h4

def bestK (res : List Int) : Nat := (bestAux (partLen res) 14).1
theorem bestK_le (res : List Int) : bestK res ≤ 14 := (bestAux_spec _ 14).1
theorem bestK_min (res : List Int) (k : Nat) (h : k ≤ 14) : partLen res (bestK res) ≤ partLen res k := by
  have := (bestAux_spec (partLen res) 14).2
  unfold bestK
  rw [← this.1]
  exact this.2 k h

def resBits (k : Nat) (res : List Int) : List Bool := numBits (0 : Nat) 2 ++ (numBits (0 : Nat) 4 ++ (numBits k 4 ++ res.flatMap (riceBits k)))

theorem resBits_length (k : Nat) (res : List Int) : (resBits k res).length = 10 + partLen res k := by
  unfold resBits
  simp only [List.length_append, numBits_length, partLen_eq]
  omega

theorem pResidue_bits (n order k : Nat) (res : List Int) (r : List Bool) (ho : order ≤ n) (hl : res.length = n - order) (hk : k ≤ 14) (hf : ∀ v ∈ res, fold1 v < 2 ^ 32) : pResidue n order (resBits k res ++ r) = some (res, r) := by
  unfold pResidue resBits
  rw [List.append_assoc, List.append_assoc, List.append_assoc, pNum_bits_nat 0 2 _ (by decide)]
  simp only [Option.bind_some]
  rw [pNum_bits_nat 0 4 _ (by decide)]
  simp only [Option.bind_some]
  rw [Nat.pow_zero, Nat.div_one, if_pos ⟨by omega, Nat.mod_one _, ho⟩]
  show (pPart 0 (n - order) _).bind _ = _
  unfold pPart
  rw [pNum_bits_nat k (4 + 0) _ (by show k < 16; omega)]
  simp only [Option.bind_some]
  rw [if_neg (by omega), ← hl, pList_bits (pRice k) (riceBits k) res r (fun x hx r => pRice_bits k x r (hf x hx))]
  simp [pParts]

/-! ### what a predictor does not foretell -/

def miss (factors : List Int) : List Int → List Int → List Int
  | _, [] => []
  | acc, x :: xs => (x - dot factors acc) :: miss factors (x :: acc) xs

theorem miss_length (factors : List Int) : ∀ (xs acc : List Int), (miss factors acc xs).length = xs.length
  | [], acc => rfl
  | x :: xs, acc => by simp [miss, miss_length factors xs]

theorem predict_miss (wide : Nat) (factors : List Int) : ∀ (xs acc : List Int), (∀ x ∈ xs, fitsB wide x = true) → predict wide factors 0 acc (miss factors acc xs) = some (acc.reverse ++ xs)
  | [], acc, _ => by simp [miss, predict]
  | x :: xs, acc, h => by
    have e : dot factors acc / 2 ^ 0 + (x - dot factors acc) = x := by
      rw [show (2 : Int) ^ 0 = 1 from rfl, Int.ediv_one]; omega
    show predict wide factors 0 acc ((x - dot factors acc) :: miss factors (x :: acc) xs) = _
    unfold predict
    rw [e, if_pos (h x (by simp)), predict_miss wide factors xs (x :: acc) (fun y hy => h y (by simp [hy]))]
    simp

/-! ### subframes -/

abbrev ESub : Type := Int ⊕ List Int ⊕ (List Int × List Int)
abbrev ESub.alike (x : Int) : ESub := Sum.inl x
abbrev ESub.plain (l : List Int) : ESub := Sum.inr (Sum.inl l)
abbrev ESub.fixed (first res : List Int) : ESub := Sum.inr (Sum.inr (first, res))

theorem ESub.each {motive : ESub → Prop} (alike : ∀ x, motive (.alike x)) (plain : ∀ l, motive (.plain l)) (fixed : ∀ f r, motive (.fixed f r)) : ∀ t : ESub, motive t
  | .inl x => alike x
  | .inr (.inl l) => plain l
  | .inr (.inr (f, r)) => fixed f r

def kindBits (k : Nat) : List Bool := numBits (0 : Nat) 1 ++ (numBits k 6 ++ numBits (0 : Nat) 1)

def listBits (wide : Nat) (l : List Int) : List Bool := l.flatMap (fun x => numBits x wide)

theorem listBits_length (wide : Nat) : ∀ l : List Int, (listBits wide l).length = l.length * wide
  | [] => by simp [listBits]
  | x :: l => by
    have := listBits_length wide l
    unfold listBits at *
    rw [List.flatMap_cons, List.length_append, this, numBits_length, List.length_cons, Nat.succ_mul]
    omega

def subBits (wide : Nat) : ESub → List Bool
  | .inl x => kindBits 0 ++ numBits x wide
  | .inr (.inl l) => kindBits 1 ++ listBits wide l
  | .inr (.inr (first, res)) => kindBits (8 + first.length) ++ (listBits wide first ++ resBits (bestK res) res)

/-- a subframe that holds samples -/
def Holds (wide : Nat) (l : List Int) : ESub → Prop
  | .inl x => l = List.replicate l.length x ∧ fitsB wide x = true
  | .inr (.inl l') => l' = l
  | .inr (.inr (first, res)) => ∃ o, o ≤ 4 ∧ o ≤ l.length ∧ first = l.take o ∧ res = miss (fixedFactors o) (l.take o).reverse (l.drop o) ∧ ∀ v ∈ res, fold1 v < 2 ^ 32

theorem pSub_bits (n wide k : Nat) (l : List Int) (body r : List Bool) (hw : 1 ≤ wide) (hk : k < 64) (hb : pKind k n wide (body ++ r) = some (l, r)) : pSubframe n wide ((kindBits k ++ body) ++ r) = some (l, r) := by
  unfold pSubframe kindBits
  rw [List.append_assoc, List.append_assoc, List.append_assoc, pMust_bits 0 1 _ (by decide)]
  simp only [Option.bind_some]
  rw [pNum_bits_nat k 6 _ hk]
  simp only [Option.bind_some]
  unfold pLess
  rw [pNum_bits_nat 0 1 _ (by decide)]
  simp only [Option.bind_some]
  rw [if_neg (by decide)]
  simp only [Option.bind_some]
  rw [if_pos (show 0 < wide by omega), Nat.sub_zero, hb]
  show some (l.map (fun x => x * 2 ^ 0), r) = _
  have : (fun x : Int => x * 2 ^ 0) = id := by
    funext x
    show x * 1 = x
    omega
  rw [this, List.map_id]

theorem pSubframe_bits (wide : Nat) (l : List Int) (s : ESub) (r : List Bool) (hw : 1 ≤ wide) (hf : ∀ x ∈ l, fitsB wide x = true) (hs : Holds wide l s) : pSubframe l.length wide (subBits wide s ++ r) = some (l, r) := by
  have hlist : ∀ (m : List Int) (r : List Bool), (∀ x ∈ m, fitsB wide x = true) → pList (pSigned wide) m.length (listBits wide m ++ r) = some (m, r) :=
    fun m r hm => pList_bits (pSigned wide) (fun x => numBits x wide) m r (fun x hx r => pSigned_bits x wide r hw (hm x hx))
  cases s using ESub.each with
  | alike x =>
    refine pSub_bits _ wide 0 l _ r hw (by decide) ?_
    unfold pKind
    rw [if_pos rfl, pSigned_bits x wide r hw hs.2]
    show some (List.replicate _ x, r) = _
    rw [← hs.1]
  | plain l' =>
    have e : l' = l := hs
    subst e
    refine pSub_bits _ wide 1 _ _ r hw (by decide) ?_
    unfold pKind
    rw [if_neg (by decide), if_pos rfl, hlist _ r hf]
  | fixed first res =>
    obtain ⟨o, ho4, hol, rfl, hres, hf32⟩ := hs
    have hlen : (l.take o).length = o := by rw [List.length_take]; omega
    show pSubframe _ _ ((kindBits (8 + (l.take o).length) ++ _) ++ r) = _
    refine pSub_bits _ wide _ l _ r hw (by rw [hlen]; omega) ?_
    rw [hlen]
    unfold pKind
    rw [if_neg (by omega), if_neg (by omega), if_pos (by omega), show 8 + o - 8 = o by omega]
    unfold pFixed
    rw [if_pos hol, List.append_assoc]
    have h1 := hlist (l.take o) (resBits (bestK res) res ++ r) (fun x hx => hf x (List.mem_of_mem_take hx))
    rw [hlen] at h1
    rw [h1]
    show pForetold l.length wide (l.take o) (fixedFactors o) 0 _ = _
    unfold pForetold
    rw [hlen, pResidue_bits l.length o (bestK res) res r hol (by rw [hres, miss_length, List.length_drop]) (bestK_le res) hf32]
    show (predict wide (fixedFactors o) 0 (l.take o).reverse res).map _ = _
    rw [hres, predict_miss wide (fixedFactors o) (l.drop o) (l.take o).reverse (fun x hx => hf x (List.mem_of_mem_drop hx)), List.reverse_reverse, List.take_append_drop]
    rfl
end Go.Proofs.YtncmgnmcggkhnaaGreat
