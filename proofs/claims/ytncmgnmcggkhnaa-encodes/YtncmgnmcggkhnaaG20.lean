import Derived.Test.YtncmgnmcggkhnaaG07
import Derived.Test.YtncmgnmcggkhnaaG19
import Derived.Deep.RegionLaw
import Derived.BigRegion
import Derived.Test.YtncmgnmcggkhnaaG18
import Derived.Test.YtncmgnmcggkhnaaG15
import Derived.BigQuiet
namespace Go.Proofs.Ytncmgnmcggkhnaa
open Go.RowKit

/-- nothing but the blocks of `S` has changed, and new ones were made -/
structure Kp (w w' : World) (S : Nat → Prop) : Prop where
  os : w'.os = w.os
  tape : w'.tape = w.tape
  output : w'.output = w.output
  size : w.heap.size ≤ w'.heap.size
  block : ∀ b, b < w.heap.size → ¬ S b → w'.heap[b]? = w.heap[b]?

theorem Kp.of {w w' : World} {row : Option Nat} (h : w.grownBy w' row) : Kp w w' (fun b => some b = row) := ⟨h.os, h.tape, h.output, h.size, h.block⟩
theorem Kp.ofNone {w w' : World} {S : Nat → Prop} (h : w.grownBy w' none) : Kp w w' S := ⟨h.os, h.tape, h.output, h.size, fun b hb _ => h.block b hb (by simp)⟩
theorem Kp.refl (w : World) (S : Nat → Prop) : Kp w w S := ⟨rfl, rfl, rfl, Nat.le_refl _, fun _ _ _ => rfl⟩
/-- what the second may change was the first's, or is new -/
theorem Kp.trans {w w1 w2 : World} {S S1 : Nat → Prop} (h : Kp w w1 S) (h1 : Kp w1 w2 S1) (hs : ∀ b, S1 b → S b ∨ w.heap.size ≤ b) : Kp w w2 S := by
  refine ⟨h1.os.trans h.os, h1.tape.trans h.tape, h1.output.trans h.output, Nat.le_trans h.size h1.size, fun b hb hn => ?_⟩
  rw [h1.block b (Nat.lt_of_lt_of_le hb h.size) (fun e => by rcases hs b e with h2 | h2; exact hn h2; omega), h.block b hb hn]
theorem Kp.mono {w w' : World} {S S1 : Nat → Prop} (h : Kp w w' S) (hs : ∀ b, S b → S1 b ∨ w.heap.size ≤ b) : Kp w w' S1 :=
  ⟨h.os, h.tape, h.output, h.size, fun b hb hn => h.block b hb (fun e => by rcases hs b e with h2 | h2; exact hn h2; omega)⟩
/-- where all that may change is new, it is growth -/
theorem Kp.grown {w w' : World} {S : Nat → Prop} (h : Kp w w' S) (hs : ∀ b, S b → w.heap.size ≤ b) : w.grownBy w' none :=
  ⟨h.os, h.tape, h.output, h.size, fun b hb _ => h.block b hb (fun e => by have := hs b e; omega)⟩
theorem Box.kp {w w' : World} {g : Nat} {cs : Array Value} {t : TypeId} {S : Nat → Prop} (h : Box w g cs t) (hk : Kp w w' S) (hn : ¬ S g) : Box w' g cs t := by
  have hl := h.lt
  unfold Box at *
  rw [hk.block g hl hn, h]
theorem cell_kp {w w' : World} {S : Nat → Prop} {a : Addr} {u : Value} (h : w.cell? a = some u) (hk : Kp w w' S) (hl : a.block < w.heap.size) (hn : ¬ S a.block) : w'.cell? a = some u := by
  have e := hk.block a.block hl hn
  unfold World.cell? at *
  rw [e]
  exact h
theorem Own.kp {w w' : World} {base : Nat} {v : Value} {xs : List Int} {S : Nat → Prop} (h : Own w base v xs) (hk : Kp w w' S) (hn : ∀ q, v.ownBlock = some q → ¬ S q) : Own w' base v xs := by
  have hlt := fun q hq => (h.lt q hq).2
  unfold Own World.ownsRow at *
  refine ⟨h.1, ?_⟩
  rcases h.2 with hz | ⟨g, cap, cur, hv, hb, hg, r⟩
  · exact .inl hz
  · subst hv
    refine .inr ⟨g, cap, cur, rfl, hb, ?_, r⟩
    rw [hk.block g (hlt g rfl) (hn g rfl), hg]

theorem cell_lt {w : World} {a : Addr} {u : Value} (h : w.cell? a = some u) : a.block < w.heap.size := by
  rcases Nat.lt_or_ge a.block w.heap.size with h1 | h1
  · exact h1
  · unfold World.cell? at h
    rw [Array.getElem?_eq_none h1] at h
    cases h

theorem ownsRow_kp {w w' : World} {base t k n : Nat} {v : Value} {xs : List Value} {S : Nat → Prop} (h : w.ownsRow base t k v n xs) (hk : Kp w w' S) (hn : ∀ q, v.ownBlock = some q → ¬ S q) : w'.ownsRow base t k v n xs := by
  have hlt := fun q hq => (World.ownsRow.lt h q hq).2
  unfold World.ownsRow at *
  refine ⟨h.1, ?_⟩
  rcases h.2 with hz | ⟨g, cap, cur, hv, hb, hg, r⟩
  · exact .inl hz
  · subst hv
    refine .inr ⟨g, cap, cur, rfl, hb, ?_, r⟩
    rw [hk.block g (hlt g rfl) (hn g rfl), hg]
end Go.Proofs.Ytncmgnmcggkhnaa

namespace Go.Proofs.Ytncmgnmcggkhnaa
open Go.RowKit

/-- lists that are looked at: in blocks of `D` -/
def Views (w : World) (D : Nat → Prop) (v : Value) (ls : List (List Int)) : Prop :=
  ∃ lg lcap, v = .slice (some ⟨lg, 0, none⟩) ls.length lcap ∧ ls.length ≤ lcap ∧ D lg ∧ lg < w.heap.size ∧ ∀ i, i < ls.length → ∃ g off cap, D g ∧ g < w.heap.size ∧
    w.cell? ⟨lg, i, none⟩ = some (.slice (some ⟨g, off, none⟩) (ls.getD i []).length cap) ∧ (ls.getD i []).length ≤ cap ∧ ∀ j u, ((ls.getD i []).map (Value.int .i64))[j]? = some u → w.cell? ((⟨g, off, none⟩ : Addr).add j) = some u

theorem add_block (a : Addr) (j : Nat) : (a.add j).block = a.block := by
  unfold Addr.add
  split <;> rfl

theorem Views.kp {w w' : World} {D S : Nat → Prop} {v : Value} {ls : List (List Int)} (h : Views w D v ls) (hk : Kp w w' S) (hn : ∀ q, D q → ¬ S q) : Views w' D v ls := by
  obtain ⟨lg, lcap, rfl, hlc, hD, hlt, hc⟩ := h
  refine ⟨lg, lcap, rfl, hlc, hD, Nat.lt_of_lt_of_le hlt hk.size, fun i hi => ?_⟩
  obtain ⟨g, off, cap, hDg, hgl, h1, hcap, h2⟩ := hc i hi
  exact ⟨g, off, cap, hDg, Nat.lt_of_lt_of_le hgl hk.size, cell_kp h1 hk hlt (hn lg hD), hcap, fun j u hj => cell_kp (h2 j u hj) hk (by rw [add_block]; exact hgl) (by rw [add_block]; exact hn g hDg)⟩

/-- which blocks a list of lists owns -/
def ownsB (gC : Nat) (vs : List Value) (b : Nat) : Prop := b = gC ∨ ∃ i, i < vs.length ∧ (vs.getD i undef).ownBlock = some b

theorem CM.kp {w w' : World} {gC base : Nat} {vs : List Value} {xss : List (List Int)} {S : Nat → Prop} (h : CM w gC base vs xss) (hk : Kp w w' S) (hn : ∀ b, ownsB gC vs b → ¬ S b) : CM w' gC base vs xss :=
  ⟨h.row.kp hk (hn gC (.inl rfl)), h.len, fun i hi => (h.own i hi).kp hk (fun q hq => hn q (.inr ⟨i, hi, hq⟩)), h.apartV⟩

theorem CM.ownsLt {w : World} {gC base : Nat} {vs : List Value} {xss : List (List Int)} (h : CM w gC base vs xss) : ∀ b, ownsB gC vs b → b < w.heap.size := by
  intro b hb
  rcases hb with rfl | ⟨i, hi, hq⟩
  · exact h.row.lt
  · exact ((h.own i hi).lt b hq).2

/-- a frame's channels are such lists -/
theorem Subs.views {w : World} {base : Nat} {lv : Value} {vs : List Value} {xss : List (List Int)} (h : Subs w base lv vs xss) (hne : 0 < xss.length) (hl : ∀ j, j < xss.length → 1 ≤ (xss.getD j []).length) :
    Views w (fun q => base ≤ q ∧ q < w.heap.size) lv xss := by
  have hlen := h.len
  obtain ⟨lg, lcap, hv, hlb, hlt, hc⟩ := h.cell (by omega)
  have hcap : vs.length ≤ lcap := by
    have hr := h.row
    rw [hv] at hr
    rcases hr.2 with ⟨e, _⟩ | ⟨g, cap, cur, e, _, _, hnc, _⟩
    · cases e
    · injection e with _ _ e3
      omega
  refine ⟨lg, lcap, by rw [hv, hlen], by omega, ⟨hlb, hlt⟩, hlt, fun i hi => ?_⟩
  obtain ⟨g, cap, hvi, hrow⟩ := (h.own i (by omega)).full (hl i hi)
  obtain ⟨_, _, _, hcap', _⟩ := hrow.block
  exact ⟨g, 0, cap, hrow.lt, hrow.lt.2, by rw [hc i (by omega), hvi], hcap', row_news hrow⟩

theorem CM.grow {wr w1 : World} {gC base : Nat} {vs : List Value} {acc : List (List Int)} (hm : CM wr gC base vs acc) (hcb : gC < base) {i g cap n : Nat} {zs : List Int} (hi : i < vs.length)
    (hg : wr.grownBy w1 (vs.getD i undef).ownBlock) (hown : Own w1 base (.slice (some ⟨g, 0, none⟩) n cap) zs) (hat : (vs.getD i undef).ownBlock = some g ∨ g = wr.heap.size) :
    CM (w1.setCell ⟨gC, i, none⟩ (.slice (some ⟨g, 0, none⟩) n cap)) gC base (vs.set i (.slice (some ⟨g, 0, none⟩) n cap)) (acc.set i zs) ∧ w1.grownBy (w1.setCell ⟨gC, i, none⟩ (.slice (some ⟨g, 0, none⟩) n cap)) (some gC) := by
  have hal := hm.len
  have hvlt : ∀ j q, j < vs.length → (vs.getD j undef).ownBlock = some q → base ≤ q ∧ q < wr.heap.size := fun j q hj hq => (hm.own j hj).lt q hq
  have hne : ∀ k, k < base → some k ≠ (vs.getD i undef).ownBlock := fun k hk e => by have := (hvlt i k hi e.symm).1; omega
  have hs := grown_set w1 gC i (.slice (some ⟨g, 0, none⟩) n cap)
  have hgb : base ≤ g := (hown.lt g rfl).1
  refine ⟨⟨?_, ?_, ?_, ?_⟩, hs⟩
  · have := (hm.row.kept hg (hne gC hcb)).set i (.slice (some ⟨g, 0, none⟩) n cap)
    rw [List.setIfInBounds_toArray] at this
    exact this
  · rw [List.length_set, List.length_set]; exact hm.len
  · intro j hj
    rw [List.length_set] at hj
    by_cases hij : i = j
    · subst hij
      rw [getD_set_eq _ _ _ _ hi, getD_set_eq _ _ _ _ (by omega)]
      have hgc : Value.ownBlock (.slice (some ⟨g, 0, none⟩) n cap) ≠ some gC := fun e => by
        have e' : g = gC := by simpa [Value.ownBlock] using e
        omega
      exact World.ownsRow.kept hown hs (.inr hgc)
    · rw [getD_set_ne _ _ _ _ _ hij, getD_set_ne _ _ _ _ _ hij]
      have h1 := hm.own j hj
      have h2 : Own w1 base (vs.getD j undef) (acc.getD j []) := by
        refine World.ownsRow.kept h1 hg ?_
        cases hq : (vs.getD j undef).ownBlock with
        | none => exact .inl rfl
        | some q =>
          refine .inr (fun e => ?_)
          rcases Nat.lt_or_gt_of_ne hij with hlt | hlt
          · exact hm.apartV i j q hlt hj e.symm hq
          · exact hm.apartV j i q hlt hi hq e.symm
      refine World.ownsRow.kept h2 hs ?_
      cases hq : (vs.getD j undef).ownBlock with
      | none => exact .inl rfl
      | some q => exact .inr (fun e => by injection e with e; have := (hvlt j q hj hq).1; omega)
  · intro j k q hjk hk hq
    rw [List.length_set] at hk
    by_cases hij : i = j
    · subst hij
      rw [getD_set_eq _ _ _ _ (by omega)] at hq
      have e' : g = q := by simpa [Value.ownBlock] using hq
      subst e'
      rw [getD_set_ne _ _ _ _ _ (by omega)]
      intro e
      rcases hat with hat | hat
      · exact hm.apartV i k g hjk hk hat e
      · have := (hvlt k g hk e).2; omega
    · rw [getD_set_ne _ _ _ _ _ hij] at hq
      by_cases hik : i = k
      · subst hik
        rw [getD_set_eq _ _ _ _ hk]
        intro e
        have e' : g = q := by simpa [Value.ownBlock] using e
        subst e'
        rcases hat with hat | hat
        · exact hm.apartV j i g hjk hk hq hat
        · have := (hvlt j g (by omega) hq).2; omega
      · rw [getD_set_ne _ _ _ _ _ hik]
        exact hm.apartV j k q hjk hk hq

/-- join's loop, at channel `k` -/
structure JoinInv (w wq : World) (gC base n : Nat) (D : Nat → Prop) (v : Value) (vs : List Value) (acc chs : List (List Int)) (k : Nat) (vs' : List Value) (acc' : List (List Int)) : Prop where
  cm : CM wq gC base vs' acc'
  len : vs'.length = n
  kp : Kp w wq (ownsB gC vs)
  sub : ∀ b, ownsB gC vs' b → ownsB gC vs b ∨ w.heap.size ≤ b
  view : Views wq D v chs
  up : GrownUpto acc chs acc' n k

theorem join_step {w wq w1 : World} {gC base n k g cap m : Nat} {D : Nat → Prop} {v : Value} {vs vs' : List Value} {acc chs acc' : List (List Int)} (h : JoinInv w wq gC base n D v vs acc chs k vs' acc') (hcb : gC < base) (hk : k < n)
    (hD : ∀ q, D q → ¬ ownsB gC vs q ∧ q < w.heap.size)
    (hg : wq.grownBy w1 (vs'.getD k undef).ownBlock) (hown : Own w1 base (.slice (some ⟨g, 0, none⟩) m cap) (acc.getD k [] ++ chs.getD k [])) (hat : (vs'.getD k undef).ownBlock = some g ∨ g = wq.heap.size) :
    JoinInv w (w1.setCell ⟨gC, k, none⟩ (.slice (some ⟨g, 0, none⟩) m cap)) gC base n D v vs acc chs (k + 1) (vs'.set k (.slice (some ⟨g, 0, none⟩) m cap)) (acc'.set k (acc.getD k [] ++ chs.getD k [])) := by
  have hl := h.len
  have hstep := h.cm.grow hcb (zs := acc.getD k [] ++ chs.getD k []) (by omega) hg hown hat
  have hs := hstep.2
  have hsub1 : ∀ b, some b = (vs'.getD k undef).ownBlock → ownsB gC vs b ∨ w.heap.size ≤ b := fun b e => h.sub b (.inr ⟨k, by omega, e.symm⟩)
  have hk1 : Kp w w1 (ownsB gC vs) := h.kp.trans (Kp.of hg) hsub1
  have hk2 : Kp w (w1.setCell ⟨gC, k, none⟩ (.slice (some ⟨g, 0, none⟩) m cap)) (ownsB gC vs) := hk1.trans (Kp.of hs) (fun b e => by injection e with e; exact .inl (.inl e))
  refine ⟨hstep.1, by rw [List.length_set]; exact hl, hk2, ?_, ?_, h.up.step hk⟩
  · intro b hb
    rcases hb with hb | ⟨i, hi, hq⟩
    · exact .inl (.inl hb)
    · rw [List.length_set] at hi
      by_cases hik : k = i
      · subst hik
        rw [getD_set_eq _ _ _ _ (by omega)] at hq
        have e' : g = b := by simpa [Value.ownBlock] using hq
        subst e'
        rcases hat with hat | hat
        · exact h.sub g (.inr ⟨k, by omega, hat⟩)
        · exact .inr (by have := h.kp.size; omega)
      · rw [getD_set_ne _ _ _ _ _ hik] at hq
        exact h.sub b (.inr ⟨i, hi, hq⟩)
  · have hv1 := h.view.kp (Kp.of hg) (fun q hq e => by
      rcases hsub1 q e with h1 | h1
      · exact (hD q hq).1 h1
      · have := (hD q hq).2; omega)
    exact hv1.kp (Kp.of hs) (fun q hq e => by
      injection e with e
      exact (hD q hq).1 (.inl e))
end Go.Proofs.Ytncmgnmcggkhnaa

namespace Go.Proofs.Ytncmgnmcggkhnaa
open Go.RowKit

def noHead : Value := .agg #[.int .i64 0, .int .i64 0, .int .i64 0, .int .i64 0, .int .i64 0]

def PHead (w : World) (s : ByteArray) (e : Ending) (w' : World) : Prop :=
  w.grownBy w' none ∧ ∃ (hv : Value) (d : ByteArray) (er : Nat), e = .returned (.tuple #[hv, .string d, .int .i64 er]) ∧
    ((er = 2 ∧ hv = noHead ∧ 6000 < s.size) ∨ (er = 3 ∧ hv = noHead ∧ s.size ≤ 6000 ∧ pBlocks (bitsOf s.data.toList) = none) ∨
     (er = 0 ∧ s.size ≤ 6000 ∧ ∃ (h : Head) (at' : Nat), at' ≤ s.size ∧ hv = .agg (headC h) ∧ d = s.extract at' s.size ∧ pBlocks (bitsOf s.data.toList) = some (h, bitsOf (s.data.toList.drop at'))))

theorem five_cells (w : World) (g : Nat) (z0 z1 z2 z3 z4 : Value) (t : TypeId) (v0 v1 v2 v3 v4 : Value) (h : Box w g #[z0, z1, z2, z3, z4] t) :
    Box (((((w.setCell ⟨g, 0, none⟩ v0).setCell ⟨g, 1, none⟩ v1).setCell ⟨g, 2, none⟩ v2).setCell ⟨g, 3, none⟩ v3).setCell ⟨g, 4, none⟩ v4) g #[v0, v1, v2, v3, v4] t ∧
    w.grownBy (((((w.setCell ⟨g, 0, none⟩ v0).setCell ⟨g, 1, none⟩ v1).setCell ⟨g, 2, none⟩ v2).setCell ⟨g, 3, none⟩ v3).setCell ⟨g, 4, none⟩ v4) (some g) :=
  ⟨((((h.set 0 v0).set 1 v1).set 2 v2).set 3 v3).set 4 v4, grown_trans (grown_trans (grown_trans (grown_trans (grown_set _ _ _ _) (grown_set _ _ _ _)) (grown_set _ _ _ _)) (grown_set _ _ _ _)) (grown_set _ _ _ _)⟩

set_option maxHeartbeats 4000000 in
set_option maxRecDepth 20000 in
theorem qphead (w : World) (s : ByteArray) (hsz : s.size ≤ maxLen) :
    Calls Try.prog 40 #[.string s] w (PHead w s) := by
  have hmax : s.size ≤ 9223372036854775807 := hsz
  by_cases hlong : 6000 < s.size
  · go_enter Try.func40, Try.ntmps40
    go_wp2
    exact bodyPost_ret (v := .tuple #[noHead, .string ⟨#[]⟩, .int .i64 2]) (by simp [results, Try.results40, go_sem, noHead]) rfl ⟨grown_alloc (grown_refl _ _) _, _, _, 2, rfl, .inl ⟨rfl, rfl, hlong⟩⟩
  have hs : s.size ≤ 6000 := by omega
  clear hlong hmax hsz
  go_enter Try.func40, Try.ntmps40
  go_wp2_with fail
  have hbr0 := Box.new w #[Value.int .i64 0, .int .i64 0, .int .i64 0, .int .i64 0, .int .i64 0] 77
  obtain ⟨r, hr⟩ : ∃ r, w.heap.size = r := ⟨_, rfl⟩
  obtain ⟨wa, hwa⟩ : ∃ wa, w.alloc (.cells #[Value.int .i64 0, .int .i64 0, .int .i64 0, .int .i64 0, .int .i64 0] 77) = wa := ⟨_, rfl⟩
  have hga : w.grownBy wa none := by rw [← hwa]; exact grown_alloc (grown_refl _ _) _
  rw [hwa, hr] at hbr0
  rw [hwa, hr]
  refine (qread wa s hs).mono ?_
  rintro e w1 ⟨hg1, h, at', ok, rfl, hcase⟩
  have hbr2 := hbr0.kept hg1 (by simp)
  have hgg1 := grown_trans hga hg1
  obtain ⟨w2, hw2⟩ : ∃ w2, w1.alloc (.cells #[Value.int .i64 h.block, .int .i64 h.rate, .int .i64 h.channels, .int .i64 h.bits, .int .i64 h.total] 77) = w2 := ⟨_, rfl⟩
  have hg2 : w1.grownBy w2 none := by rw [← hw2]; exact grown_alloc (grown_refl _ _) _
  have hgg2 := grown_trans hgg1 hg2
  have hbr3 := hbr2.kept hg2 (by simp)
  obtain ⟨gH, hgH⟩ : ∃ gH, w1.heap.size = gH := ⟨_, rfl⟩
  have hbh3 : Box w2 gH (headC h) 77 := by rw [← hgH, ← hw2]; exact Box.new _ _ _
  have hrlt := hbr2.lt
  rw [hgH] at hrlt
  have HR : Hid (w.heap.size = r) := hr
  have HW2 : Hid (w1.alloc (.cells #[Value.int .i64 h.block, .int .i64 h.rate, .int .i64 h.channels, .int .i64 h.bits, .int .i64 h.total] 77) = w2) := hw2
  have HGH : Hid (w1.heap.size = gH) := hgH
  clear hbr0 hbr2 hgg1 hga hwa hg1 hw2 hgH hg2 hr
  unfold headV
  go_upto_region 4 with fail
  rw [HW2.out, HGH.out]
  clear HW2 HGH
  have z0 : w2.cell? ⟨r, 0, none⟩ = some (.int .i64 0) := hbr3.cell 0
  have z1 : w2.cell? ⟨r, 1, none⟩ = some (.int .i64 0) := hbr3.cell 1
  have z2 : w2.cell? ⟨r, 2, none⟩ = some (.int .i64 0) := hbr3.cell 2
  have z3 : w2.cell? ⟨r, 3, none⟩ = some (.int .i64 0) := hbr3.cell 3
  have z4 : w2.cell? ⟨r, 4, none⟩ = some (.int .i64 0) := hbr3.cell 4
  have y0 := hbr3.fz 0
  have y1 := hbr3.fz 1
  have y2 := hbr3.fz 2
  have y3 := hbr3.fz 3
  have y4 := hbr3.fz 4
  rcases hcase with ⟨rfl, hat, hpb⟩ | ⟨rfl, hnone⟩
  rotate_left
  · have h5 := five_cells w2 r _ _ _ _ _ _ (.int .i64 0) (.int .i64 0) (.int .i64 0) (.int .i64 0) (.int .i64 0) hbr3
    have hfin : ∀ wf, w2.grownBy wf (some r) → PHead w s (.returned (.tuple #[noHead, .string ⟨#[]⟩, .int .i64 3])) wf := fun wf hgf =>
      ⟨grown_new hgg2 hgf (fun g e => by injection e with e; rw [HR.out]; omega), _, _, 3, rfl, .inr (.inl ⟨rfl, rfl, hs, hnone⟩)⟩
    clear hnone
    go_wp2
    generalize (World.setCell _ _ _) = wf at h5 ⊢
    have x0 := h5.1.cell 0
    have x1 := h5.1.cell 1
    have x2 := h5.1.cell 2
    have x3 := h5.1.cell 3
    have x4 := h5.1.cell 4
    exact bodyPost_ret (v := .tuple #[noHead, .string ⟨#[]⟩, .int .i64 3]) (by simp [results, Try.results40, go_sem, x0, x1, x2, x3, x4, noHead]) rfl (hfin wf h5.2)
  have h5 := five_cells w2 r _ _ _ _ _ _ (.int .i64 h.block) (.int .i64 h.rate) (.int .i64 h.channels) (.int .i64 h.bits) (.int .i64 h.total) hbr3
  have hfin : ∀ wf, w2.grownBy wf (some r) → PHead w s (.returned (.tuple #[.agg (headC h), .string (s.extract at' s.size), .int .i64 0])) wf.drew := fun wf hgf =>
    ⟨grown_drew (grown_new hgg2 hgf (fun g e => by injection e with e; rw [HR.out]; omega)), _, _, 0, rfl, .inr (.inr ⟨rfl, hs, h, at', hat, rfl, rfl, hpb⟩)⟩
  have e0 : w2.cell? ⟨gH, 0, none⟩ = some (.int .i64 h.block) := hbh3.cell 0
  have e1 : w2.cell? ⟨gH, 1, none⟩ = some (.int .i64 h.rate) := hbh3.cell 1
  have e2 : w2.cell? ⟨gH, 2, none⟩ = some (.int .i64 h.channels) := hbh3.cell 2
  have e3 : w2.cell? ⟨gH, 3, none⟩ = some (.int .i64 h.bits) := hbh3.cell 3
  have e4 : w2.cell? ⟨gH, 4, none⟩ = some (.int .i64 h.total) := hbh3.cell 4
  have HFIN : Hid _ := hfin
  have H5 : Hid _ := h5
  clear hpb hfin h5
  go_upto_region 6 with fail
  go_region
  all_goals
    go_wp2
    have h5 := H5.out
    generalize (World.setCell _ _ _) = wf at h5 ⊢
    have x0 := h5.1.cell 0
    have x1 := h5.1.cell 1
    have x2 := h5.1.cell 2
    have x3 := h5.1.cell 3
    have x4 := h5.1.cell 4
    exact bodyPost_ret (v := .tuple #[.agg (headC h), .string (s.extract at' s.size), .int .i64 0]) (by simp [results, Try.results40, go_sem, x0, x1, x2, x3, x4, headC]) rfl (HFIN.out wf h5.2)
end Go.Proofs.Ytncmgnmcggkhnaa
