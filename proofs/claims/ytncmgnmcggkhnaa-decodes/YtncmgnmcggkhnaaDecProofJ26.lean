import Derived.Test.YtncmgnmcggkhnaaDecProofJ10
import Derived.Test.YtncmgnmcggkhnaaDecProofJ25
import Derived.Deep.RegionLaw
import Derived.BigRegion
import Derived.Deep.DeepCutAuto
import Derived.Deep.CutBlock
import Derived.Deep.LoopGhost
import Derived.Shelf.Abstract
namespace Go.Proofs.Ytncmgnmcggkhnaa
open Go.RowKit

/-- nothing but the blocks of `S` has changed, and new ones were made -/
structure Kp (w w' : World) (S : Nat → Prop) : Prop where
  os : w'.os = w.os
  tape : w'.tape = w.tape
  output : w'.output = w.output
  size : w.heap.size ≤ w'.heap.size
  block : ∀ b, b < w.heap.size → ¬ S b → w'.heap[b]? = w.heap[b]?

theorem Kp.of {w w' : World} {row : Option Nat} (h : w.grownBy w' row) : Kp w w' (fun b => some b = row) := ⟨h.os, h.tape, h.output, h.size, h.block⟩
theorem Kp.ofNone {w w' : World} {S : Nat → Prop} (h : w.grownBy w' none) : Kp w w' S := ⟨h.os, h.tape, h.output, h.size, fun b hb _ => h.block b hb (by simp)⟩
theorem Kp.refl (w : World) (S : Nat → Prop) : Kp w w S := ⟨rfl, rfl, rfl, Nat.le_refl _, fun _ _ _ => rfl⟩
/-- what the second may change was the first's, or is new -/
theorem Kp.trans {w w1 w2 : World} {S S1 : Nat → Prop} (h : Kp w w1 S) (h1 : Kp w1 w2 S1) (hs : ∀ b, S1 b → S b ∨ w.heap.size ≤ b) : Kp w w2 S := by
  refine ⟨h1.os.trans h.os, h1.tape.trans h.tape, h1.output.trans h.output, Nat.le_trans h.size h1.size, fun b hb hn => ?_⟩
  rw [h1.block b (Nat.lt_of_lt_of_le hb h.size) (fun e => by rcases hs b e with h2 | h2; exact hn h2; omega), h.block b hb hn]
theorem Kp.mono {w w' : World} {S S1 : Nat → Prop} (h : Kp w w' S) (hs : ∀ b, S b → S1 b ∨ w.heap.size ≤ b) : Kp w w' S1 :=
  ⟨h.os, h.tape, h.output, h.size, fun b hb hn => h.block b hb (fun e => by rcases hs b e with h2 | h2; exact hn h2; omega)⟩
/-- where all that may change is new, it is growth -/
theorem Kp.grown {w w' : World} {S : Nat → Prop} (h : Kp w w' S) (hs : ∀ b, S b → w.heap.size ≤ b) : w.grownBy w' none :=
  ⟨h.os, h.tape, h.output, h.size, fun b hb _ => h.block b hb (fun e => by have := hs b e; omega)⟩
theorem Box.kp {w w' : World} {g : Nat} {cs : Array Value} {t : TypeId} {S : Nat → Prop} (h : Box w g cs t) (hk : Kp w w' S) (hn : ¬ S g) : Box w' g cs t := by
  have hl := h.lt
  unfold Box at *
  rw [hk.block g hl hn, h]
theorem cell_kp {w w' : World} {S : Nat → Prop} {a : Addr} {u : Value} (h : w.cell? a = some u) (hk : Kp w w' S) (hl : a.block < w.heap.size) (hn : ¬ S a.block) : w'.cell? a = some u := by
  have e := hk.block a.block hl hn
  unfold World.cell? at *
  rw [e]
  exact h
theorem Own.kp {w w' : World} {base : Nat} {v : Value} {xs : List Int} {S : Nat → Prop} (h : Own w base v xs) (hk : Kp w w' S) (hn : ∀ q, v.ownBlock = some q → ¬ S q) : Own w' base v xs := by
  have hlt := fun q hq => (h.lt q hq).2
  unfold Own World.ownsRow at *
  refine ⟨h.1, ?_⟩
  rcases h.2 with hz | ⟨g, cap, cur, hv, hb, hg, r⟩
  · exact .inl hz
  · subst hv
    refine .inr ⟨g, cap, cur, rfl, hb, ?_, r⟩
    rw [hk.block g (hlt g rfl) (hn g rfl), hg]

theorem cell_lt {w : World} {a : Addr} {u : Value} (h : w.cell? a = some u) : a.block < w.heap.size := by
  rcases Nat.lt_or_ge a.block w.heap.size with h1 | h1
  · exact h1
  · unfold World.cell? at h
    rw [Array.getElem?_eq_none h1] at h
    cases h

theorem ownsRow_kp {w w' : World} {base t k n : Nat} {v : Value} {xs : List Value} {S : Nat → Prop} (h : w.ownsRow base t k v n xs) (hk : Kp w w' S) (hn : ∀ q, v.ownBlock = some q → ¬ S q) : w'.ownsRow base t k v n xs := by
  have hlt := fun q hq => (World.ownsRow.lt h q hq).2
  unfold World.ownsRow at *
  refine ⟨h.1, ?_⟩
  rcases h.2 with hz | ⟨g, cap, cur, hv, hb, hg, r⟩
  · exact .inl hz
  · subst hv
    refine .inr ⟨g, cap, cur, rfl, hb, ?_, r⟩
    rw [hk.block g (hlt g rfl) (hn g rfl), hg]
end Go.Proofs.Ytncmgnmcggkhnaa

namespace Go.Proofs.Ytncmgnmcggkhnaa
open Go.RowKit

/-- lists that are looked at: in blocks of `D` -/
def Views (w : World) (D : Nat → Prop) (v : Value) (ls : List (List Int)) : Prop :=
  ∃ lg lcap, v = .slice (some ⟨lg, 0, none⟩) ls.length lcap ∧ ls.length ≤ lcap ∧ D lg ∧ lg < w.heap.size ∧ ∀ i, i < ls.length → ∃ g off cap, D g ∧ g < w.heap.size ∧
    w.cell? ⟨lg, i, none⟩ = some (.slice (some ⟨g, off, none⟩) (ls.getD i []).length cap) ∧ (ls.getD i []).length ≤ cap ∧ ∀ j u, ((ls.getD i []).map (Value.int .i64))[j]? = some u → w.cell? ((⟨g, off, none⟩ : Addr).add j) = some u

theorem add_block (a : Addr) (j : Nat) : (a.add j).block = a.block := by
  unfold Addr.add
  split <;> rfl

theorem Views.kp {w w' : World} {D S : Nat → Prop} {v : Value} {ls : List (List Int)} (h : Views w D v ls) (hk : Kp w w' S) (hn : ∀ q, D q → ¬ S q) : Views w' D v ls := by
  obtain ⟨lg, lcap, rfl, hlc, hD, hlt, hc⟩ := h
  refine ⟨lg, lcap, rfl, hlc, hD, Nat.lt_of_lt_of_le hlt hk.size, fun i hi => ?_⟩
  obtain ⟨g, off, cap, hDg, hgl, h1, hcap, h2⟩ := hc i hi
  exact ⟨g, off, cap, hDg, Nat.lt_of_lt_of_le hgl hk.size, cell_kp h1 hk hlt (hn lg hD), hcap, fun j u hj => cell_kp (h2 j u hj) hk (by rw [add_block]; exact hgl) (by rw [add_block]; exact hn g hDg)⟩

/-- which blocks a list of lists owns -/
def ownsB (gC : Nat) (vs : List Value) (b : Nat) : Prop := b = gC ∨ ∃ i, i < vs.length ∧ (vs.getD i undef).ownBlock = some b

theorem CM.kp {w w' : World} {gC base : Nat} {vs : List Value} {xss : List (List Int)} {S : Nat → Prop} (h : CM w gC base vs xss) (hk : Kp w w' S) (hn : ∀ b, ownsB gC vs b → ¬ S b) : CM w' gC base vs xss :=
  ⟨h.row.kp hk (hn gC (.inl rfl)), h.len, fun i hi => (h.own i hi).kp hk (fun q hq => hn q (.inr ⟨i, hi, hq⟩)), h.apartV⟩

theorem CM.ownsLt {w : World} {gC base : Nat} {vs : List Value} {xss : List (List Int)} (h : CM w gC base vs xss) : ∀ b, ownsB gC vs b → b < w.heap.size := by
  intro b hb
  rcases hb with rfl | ⟨i, hi, hq⟩
  · exact h.row.lt
  · exact ((h.own i hi).lt b hq).2

/-- a frame's channels are such lists -/
theorem Subs.views {w : World} {base : Nat} {lv : Value} {vs : List Value} {xss : List (List Int)} (h : Subs w base lv vs xss) (hne : 0 < xss.length) (hl : ∀ j, j < xss.length → 1 ≤ (xss.getD j []).length) :
    Views w (fun q => base ≤ q ∧ q < w.heap.size) lv xss := by
  have hlen := h.len
  obtain ⟨lg, lcap, hv, hlb, hlt, hc⟩ := h.cell (by omega)
  have hcap : vs.length ≤ lcap := by
    have hr := h.row
    rw [hv] at hr
    rcases hr.2 with ⟨e, _⟩ | ⟨g, cap, cur, e, _, _, hnc, _⟩
    · cases e
    · injection e with _ _ e3
      omega
  refine ⟨lg, lcap, by rw [hv, hlen], by omega, ⟨hlb, hlt⟩, hlt, fun i hi => ?_⟩
  obtain ⟨g, cap, hvi, hrow⟩ := (h.own i (by omega)).full (hl i hi)
  obtain ⟨_, _, _, hcap', _⟩ := hrow.block
  exact ⟨g, 0, cap, hrow.lt, hrow.lt.2, by rw [hc i (by omega), hvi], hcap', row_news hrow⟩

theorem CM.grow {wr w1 : World} {gC base : Nat} {vs : List Value} {acc : List (List Int)} (hm : CM wr gC base vs acc) (hcb : gC < base) {i g cap n : Nat} {zs : List Int} (hi : i < vs.length)
    (hg : wr.grownBy w1 (vs.getD i undef).ownBlock) (hown : Own w1 base (.slice (some ⟨g, 0, none⟩) n cap) zs) (hat : (vs.getD i undef).ownBlock = some g ∨ g = wr.heap.size) :
    CM (w1.setCell ⟨gC, i, none⟩ (.slice (some ⟨g, 0, none⟩) n cap)) gC base (vs.set i (.slice (some ⟨g, 0, none⟩) n cap)) (acc.set i zs) ∧ w1.grownBy (w1.setCell ⟨gC, i, none⟩ (.slice (some ⟨g, 0, none⟩) n cap)) (some gC) := by
  have hal := hm.len
  have hvlt : ∀ j q, j < vs.length → (vs.getD j undef).ownBlock = some q → base ≤ q ∧ q < wr.heap.size := fun j q hj hq => (hm.own j hj).lt q hq
  have hne : ∀ k, k < base → some k ≠ (vs.getD i undef).ownBlock := fun k hk e => by have := (hvlt i k hi e.symm).1; omega
  have hs := grown_set w1 gC i (.slice (some ⟨g, 0, none⟩) n cap)
  have hgb : base ≤ g := (hown.lt g rfl).1
  refine ⟨⟨?_, ?_, ?_, ?_⟩, hs⟩
  · have := (hm.row.kept hg (hne gC hcb)).set i (.slice (some ⟨g, 0, none⟩) n cap)
    rw [List.setIfInBounds_toArray] at this
    exact this
  · rw [List.length_set, List.length_set]; exact hm.len
  · intro j hj
    rw [List.length_set] at hj
    by_cases hij : i = j
    · subst hij
      rw [getD_set_eq _ _ _ _ hi, getD_set_eq _ _ _ _ (by omega)]
      have hgc : Value.ownBlock (.slice (some ⟨g, 0, none⟩) n cap) ≠ some gC := fun e => by
        have e' : g = gC := by simpa [Value.ownBlock] using e
        omega
      exact World.ownsRow.kept hown hs (.inr hgc)
    · rw [getD_set_ne _ _ _ _ _ hij, getD_set_ne _ _ _ _ _ hij]
      have h1 := hm.own j hj
      have h2 : Own w1 base (vs.getD j undef) (acc.getD j []) := by
        refine World.ownsRow.kept h1 hg ?_
        cases hq : (vs.getD j undef).ownBlock with
        | none => exact .inl rfl
        | some q =>
          refine .inr (fun e => ?_)
          rcases Nat.lt_or_gt_of_ne hij with hlt | hlt
          · exact hm.apartV i j q hlt hj e.symm hq
          · exact hm.apartV j i q hlt hi hq e.symm
      refine World.ownsRow.kept h2 hs ?_
      cases hq : (vs.getD j undef).ownBlock with
      | none => exact .inl rfl
      | some q => exact .inr (fun e => by injection e with e; have := (hvlt j q hj hq).1; omega)
  · intro j k q hjk hk hq
    rw [List.length_set] at hk
    by_cases hij : i = j
    · subst hij
      rw [getD_set_eq _ _ _ _ (by omega)] at hq
      have e' : g = q := by simpa [Value.ownBlock] using hq
      subst e'
      rw [getD_set_ne _ _ _ _ _ (by omega)]
      intro e
      rcases hat with hat | hat
      · exact hm.apartV i k g hjk hk hat e
      · have := (hvlt k g hk e).2; omega
    · rw [getD_set_ne _ _ _ _ _ hij] at hq
      by_cases hik : i = k
      · subst hik
        rw [getD_set_eq _ _ _ _ hk]
        intro e
        have e' : g = q := by simpa [Value.ownBlock] using e
        subst e'
        rcases hat with hat | hat
        · exact hm.apartV j i g hjk hk hq hat
        · have := (hvlt j g (by omega) hq).2; omega
      · rw [getD_set_ne _ _ _ _ _ hik]
        exact hm.apartV j k q hjk hk hq

/-- join's loop, at channel `k` -/
structure JoinInv (w wq : World) (gC base n : Nat) (D : Nat → Prop) (v : Value) (vs : List Value) (acc chs : List (List Int)) (k : Nat) (vs' : List Value) (acc' : List (List Int)) : Prop where
  cm : CM wq gC base vs' acc'
  len : vs'.length = n
  kp : Kp w wq (ownsB gC vs)
  sub : ∀ b, ownsB gC vs' b → ownsB gC vs b ∨ w.heap.size ≤ b
  view : Views wq D v chs
  up : GrownUpto acc chs acc' n k

theorem join_step {w wq w1 : World} {gC base n k g cap m : Nat} {D : Nat → Prop} {v : Value} {vs vs' : List Value} {acc chs acc' : List (List Int)} (h : JoinInv w wq gC base n D v vs acc chs k vs' acc') (hcb : gC < base) (hk : k < n)
    (hD : ∀ q, D q → ¬ ownsB gC vs q ∧ q < w.heap.size)
    (hg : wq.grownBy w1 (vs'.getD k undef).ownBlock) (hown : Own w1 base (.slice (some ⟨g, 0, none⟩) m cap) (acc.getD k [] ++ chs.getD k [])) (hat : (vs'.getD k undef).ownBlock = some g ∨ g = wq.heap.size) :
    JoinInv w (w1.setCell ⟨gC, k, none⟩ (.slice (some ⟨g, 0, none⟩) m cap)) gC base n D v vs acc chs (k + 1) (vs'.set k (.slice (some ⟨g, 0, none⟩) m cap)) (acc'.set k (acc.getD k [] ++ chs.getD k [])) := by
  have hl := h.len
  have hstep := h.cm.grow hcb (zs := acc.getD k [] ++ chs.getD k []) (by omega) hg hown hat
  have hs := hstep.2
  have hsub1 : ∀ b, some b = (vs'.getD k undef).ownBlock → ownsB gC vs b ∨ w.heap.size ≤ b := fun b e => h.sub b (.inr ⟨k, by omega, e.symm⟩)
  have hk1 : Kp w w1 (ownsB gC vs) := h.kp.trans (Kp.of hg) hsub1
  have hk2 : Kp w (w1.setCell ⟨gC, k, none⟩ (.slice (some ⟨g, 0, none⟩) m cap)) (ownsB gC vs) := hk1.trans (Kp.of hs) (fun b e => by injection e with e; exact .inl (.inl e))
  refine ⟨hstep.1, by rw [List.length_set]; exact hl, hk2, ?_, ?_, h.up.step hk⟩
  · intro b hb
    rcases hb with hb | ⟨i, hi, hq⟩
    · exact .inl (.inl hb)
    · rw [List.length_set] at hi
      by_cases hik : k = i
      · subst hik
        rw [getD_set_eq _ _ _ _ (by omega)] at hq
        have e' : g = b := by simpa [Value.ownBlock] using hq
        subst e'
        rcases hat with hat | hat
        · exact h.sub g (.inr ⟨k, by omega, hat⟩)
        · exact .inr (by have := h.kp.size; omega)
      · rw [getD_set_ne _ _ _ _ _ hik] at hq
        exact h.sub b (.inr ⟨i, hi, hq⟩)
  · have hv1 := h.view.kp (Kp.of hg) (fun q hq e => by
      rcases hsub1 q e with h1 | h1
      · exact (hD q hq).1 h1
      · have := (hD q hq).2; omega)
    exact hv1.kp (Kp.of hs) (fun q hq e => by
      injection e with e
      exact (hD q hq).1 (.inl e))
end Go.Proofs.Ytncmgnmcggkhnaa

namespace Go.Proofs.Ytncmgnmcggkhnaa
open Go.RowKit

/-- a frame that was read: its bytes and its channels -/
abbrev Fr := List UInt8 × List (List Int)

/-- the samples of frames, behind one another -/
def joined (c : Nat) (l : List Fr) : List (List Int) := l.foldl (fun acc p => List.zipWith (· ++ ·) acc p.2) (List.replicate c [])

theorem joined_snoc (c : Nat) (l : List Fr) (p : Fr) : joined c (l ++ [p]) = List.zipWith (· ++ ·) (joined c l) p.2 := by
  unfold joined; simp

/-- frames read one behind the other: the first `f` bytes of `L` -/
structure Fls (h : Head) (L : List UInt8) (l : List Fr) (f : Nat) (ended : Bool) : Prop where
  bytes : (l.map (·.1)).flatten = L.take f
  each : ∀ i (p : Fr), l[i]? = some p → ∃ rest, pFrame h i (p.1 ++ rest) = some (p.2, rest)
  full : ∀ i (p : Fr), l[i]? = some p → (i + 1 < l.length ∨ ended = false) → ∀ j, j < h.channels → (p.2.getD j []).length = h.block

theorem Fls.start (h : Head) (L : List UInt8) : Fls h L [] 0 false := ⟨rfl, fun i p hp => by simp at hp, fun i p hp => by simp at hp⟩

theorem Fls.next {h : Head} {L part : List UInt8} {l : List Fr} {f k cnt : Nat} {chs : List (List Int)} (hf : Fls h L l f false) (hb : part = (L.drop f).take k) (hp : pFrame h l.length (L.drop f) = some (chs, (L.drop f).drop k))
    (hc : ∀ j, j < h.channels → (chs.getD j []).length = cnt) (hcnt : cnt ≤ h.block) : Fls h L (l ++ [(part, chs)]) (f + k) (decide (cnt < h.block)) := by
  refine ⟨?_, fun i p hi => ?_, fun i p hi hfull j hj => ?_⟩
  · rw [List.map_append, List.flatten_append, hf.bytes, hb, List.take_add]
    simp
  · rcases Nat.lt_or_ge i l.length with h1 | h1
    · rw [List.getElem?_append_left h1] at hi
      exact hf.each i p hi
    · rw [List.getElem?_append_right h1] at hi
      have h2 : i - l.length = 0 := by
        rcases Nat.eq_zero_or_pos (i - l.length) with h3 | h3
        · exact h3
        · rw [List.getElem?_eq_none (by simp; omega)] at hi; cases hi
      have h3 : i = l.length := by omega
      rw [h2] at hi
      injection hi with hi
      subst hi
      subst h3
      exact ⟨(L.drop f).drop k, by rw [hb, List.take_append_drop]; exact hp⟩
  · rcases Nat.lt_or_ge i l.length with h1 | h1
    · rw [List.getElem?_append_left h1] at hi
      exact hf.full i p hi (.inr rfl) j hj
    · rw [List.getElem?_append_right h1] at hi
      have h2 : i - l.length = 0 := by
        rcases Nat.eq_zero_or_pos (i - l.length) with h3 | h3
        · exact h3
        · rw [List.getElem?_eq_none (by simp; omega)] at hi; cases hi
      rw [h2] at hi
      injection hi with hi
      subst hi
      rcases hfull with h4 | h4
      · rw [List.length_append, List.length_singleton] at h4; omega
      · have h5 := of_decide_eq_false h4
        have h6 := hc j hj
        show (chs.getD j []).length = _
        omega

/-- what a function that takes frames leaves behind -/
def TakePost (J : World → List Fr → (Nat → Prop) → Prop) (W : World) (l : List Fr) (S : Nat → Prop) (p : Fr) (e : Ending) (W' : World) : Prop :=
  e = .returned (.tuple #[]) ∧ Kp W W' S ∧ ∃ S', J W' (l ++ [p]) S' ∧ ∀ b, S' b → S b ∨ W.heap.size ≤ b

/-- a function that takes frames: `J` is what it has made of those ahead, in blocks of `S` -/
structure TakeOk (g : Nat) (lb : Array Value) (h : Head) (J : World → List Fr → (Nat → Prop) → Prop) : Prop where
  lt : ∀ w l S, J w l S → ∀ b, S b → b < w.heap.size
  grow : ∀ w w' l S, J w l S → w.grownBy w' none → J w' l S
  call : ∀ (W : World) (l : List Fr) (S D : Nat → Prop) (part : ByteArray) (chs : List (List Int)) (v : Value) (n total : Nat),
    J W l S → Views W D v chs → (∀ q, D q → ¬ S q ∧ q < W.heap.size) → chs.length = h.channels → (∀ j, j < h.channels → (chs.getD j []).length = n) → 1 ≤ n →
    (∀ j, j < h.channels → ((joined h.channels l).getD j []).length = total) → (joined h.channels l).length = h.channels → total + n ≤ 1200 → l.length ≤ 6000 → part.size ≤ 6000 →
    Calls Try.prog g (#[.string part, v] ++ lb) W (TakePost J W l S (part.data.toList, chs))

def EachPost (J : World → List Fr → (Nat → Prop) → Prop) (w : World) (S : Nat → Prop) (h : Head) (L : List UInt8) (res : Except Nat (List (List Int))) (e : Ending) (w' : World) : Prop :=
  ∃ l S', J w' l S' ∧ Kp w w' S ∧ (∀ b, S' b → S b ∨ w.heap.size ≤ b) ∧
    match res with
    | .error k => e = .returned (.tuple #[.int .i64 4, .int .i64 k])
    | .ok chs => joined h.channels l = chs ∧ (∃ ended, Fls h L l L.length ended) ∧ e = .returned (.tuple #[.int .i64 ((if (chs.headD []).length = h.total then 0 else 5 : Nat) : Int), .int .i64 0])

/-- what the loop over the frames knows -/
structure EaInv (J : World → List Fr → (Nat → Prop) → Prop) (w wr : World) (S0 : Nat → Prop) (h : Head) (d dk : ByteArray) (res : Except Nat (List (List Int))) (gk number total nb f : Nat) (ended : Bool) (l : List Fr) (S : Nat → Prop) : Prop where
  kp : Kp w wr S0
  inf : Box wr w.heap.size (headC h) 77
  j : J wr l S
  sub : ∀ b, S b → S0 b ∨ w.heap.size < b
  at_ : FInv h d res gk number total ended (joined h.channels l) f
  fls : Fls h d.data.toList l f ended
  num : l.length = number
  data : dk.data.toList = d.data.toList.drop f
  prod : number * h.block = nb
  stop : if ended then total < nb else total = nb
end Go.Proofs.Ytncmgnmcggkhnaa

namespace Go.Proofs.Ytncmgnmcggkhnaa
open Go.RowKit

set_option maxHeartbeats 8000000 in
set_option maxRecDepth 20000 in
theorem qeachframe (w : World) (d : ByteArray) (h : Head) (res : Except Nat (List (List Int))) (g : Nat) (lb : Array Value) (J : World → List Fr → (Nat → Prop) → Prop) (S0 : Nat → Prop)
    (eg : ∀ args w, (callFunc g args).run Try.prog w = .ok (.enter g args) w) (hT : TakeOk g lb h J) (hJ : J w [] S0)
    (hd : d.size ≤ 6000) (hc1 : 1 ≤ h.channels) (hc2 : h.channels ≤ 2) (hb1 : 4 ≤ h.bits) (hb2 : h.bits ≤ 16) (hblk : h.block ≤ 256)
    (hres : frames h (d.size + 1) 0 0 false (List.replicate h.channels []) d.data.toList = res) :
    Calls Try.prog 41 #[.string d, .agg (headC h), .func (.func g) #[] lb] w (EachPost J w S0 h d.data.toList res) := by
  have hd0 : d.data.toList.drop 0 = d.data.toList := rfl
  have hfinv : FInv h d res (d.size + 1) 0 0 false (List.replicate h.channels []) 0 :=
      ⟨by omega, by omega, by omega, by omega, by simp, fun j hj => by simp [List.getD, hj], by rw [hd0]; exact hres.symm⟩
  have hS0 := hT.lt w [] S0 hJ
  clear hres
  unfold headC
  go_enter Try.func41, Try.ntmps41
  go_upto_region 1 with fail
  obtain ⟨w0, hw0⟩ : ∃ w0, w.alloc (.cells #[Value.int .i64 h.block, .int .i64 h.rate, .int .i64 h.channels, .int .i64 h.bits, .int .i64 h.total] 77) = w0 := ⟨_, rfl⟩
  have hg0 : w.grownBy w0 none := by rw [← hw0]; exact grown_alloc (grown_refl _ _) _
  have hbI0 : Box w0 w.heap.size (headC h) 77 := by rw [← hw0]; exact Box.new _ _ _
  rw [hw0]
  clear hw0
  have hinv : EaInv J w w0 S0 h d d res (d.size + 1) 0 0 0 0 false [] S0 :=
    ⟨Kp.ofNone hg0, hbI0, hT.grow w w0 [] S0 hJ hg0, fun b hb => .inl hb, hfinv, Fls.start _ _, rfl, rfl, by omega, by simp⟩
  clear hg0 hbI0 hfinv hd0 hJ
  go_wp2_with fail
  go_loopg [0, 8, 9] (d.size + 1) (fun gk t0 t8 t9 wr => ∃ (dk : ByteArray) (number total nb f : Nat) (ended : Bool) (l : List Fr) (S : Nat → Prop), t0 = .string dk ∧ t8 = .int .i64 number ∧ t9 = .int .i64 total ∧
      EaInv J w wr S0 h d dk res gk number total nb f ended l S)
  case atStart => exact ⟨d, 0, 0, 0, 0, false, _, _, rfl, rfl, rfl, hinv⟩
  case round =>
    clear hinv
    obtain ⟨dk, number, total, nb, f, ended, l, S, rfl, rfl, rfl, hinv⟩ := hrel
    have hfinv := hinv.at_
    have hfl := hfinv.1
    have hnum : number ≤ 6001 := by have := hfinv.2.2.1; omega
    have htot := hfinv.2.2.2.1
    have hdk : dk.size = d.size - f := by rw [← dlen, hinv.data, List.length_drop, dlen]
    have hsub0 : ∀ b, S b → S0 b ∨ w.heap.size ≤ b := fun b hb => by rcases hinv.sub b hb with h1 | h1; exact .inl h1; exact .inr (by omega)
    by_cases hf : f < d.size
    rotate_left
    · have hok := hfinv.stop (by omega)
      have hds : dk.size = 0 := by omega
      have tds : decide (0 < dk.size) = false := decide_eq_false (by omega)
      have c4 : wr.cell? ⟨w.heap.size, 4, none⟩ = some (.int .i64 h.total) := hinv.inf.cell 4
      have hj0 : ((joined h.channels l).headD []).length = total := by rw [headD_getD]; exact hfinv.2.2.2.2.2.1 0 (by omega)
      have hfls : Fls h d.data.toList l d.data.toList.length ended := by
        have h1 := hinv.fls
        rwa [show f = d.data.toList.length by rw [dlen]; omega] at h1
      have hpost : EachPost J w S0 h d.data.toList res (.returned (.tuple #[.int .i64 ((if total = h.total then 0 else 5 : Nat) : Int), .int .i64 0])) wr :=
        ⟨l, S, hinv.j, hinv.kp, hsub0, by rw [hok]; exact ⟨rfl, ⟨ended, hfls⟩, by rw [hj0]⟩⟩
      by_cases htt : total = h.total
      · rw [if_pos htt] at hpost
        have tt : ((total : Int) != (h.total : Int)) = false := by simp; omega
        clear hinv hfinv hok hdk hfls hj0 htt hds
        go_wp2
        exact bodyPost_ret (v := .tuple #[.int .i64 0, .int .i64 0]) (by simp [results, Try.results41, go_sem]) rfl hpost
      · rw [if_neg htt] at hpost
        have tt : ((total : Int) != (h.total : Int)) = true := by simp; omega
        clear hinv hfinv hok hdk hfls hj0 htt hds
        go_wp2
        exact bodyPost_ret (v := .tuple #[.int .i64 5, .int .i64 0]) (by simp [results, Try.results41, go_sem]) rfl hpost
    have hstop := hinv.stop
    have hnb : nb ≤ 2000000 := by rw [← hinv.prod]; exact Nat.le_trans (Nat.mul_le_mul hnum hblk) (by omega)
    have hmul : (number : Int) * (h.block : Int) = (nb : Int) := by rw [← hinv.prod]; simp
    have hpos : 0 < dk.size := by omega
    have tpos : decide (0 < dk.size) = true := decide_eq_true hpos
    have c0 : wr.cell? ⟨w.heap.size, 0, none⟩ = some (.int .i64 h.block) := hinv.inf.cell 0
    have c1 : wr.cell? ⟨w.heap.size, 1, none⟩ = some (.int .i64 h.rate) := hinv.inf.cell 1
    have c2 : wr.cell? ⟨w.heap.size, 2, none⟩ = some (.int .i64 h.channels) := hinv.inf.cell 2
    have c3 : wr.cell? ⟨w.heap.size, 3, none⟩ = some (.int .i64 h.bits) := hinv.inf.cell 3
    have c4 : wr.cell? ⟨w.heap.size, 4, none⟩ = some (.int .i64 h.total) := hinv.inf.cell 4
    have hdk2 : dk.size ≤ 6000 := by omega
    cases ended
    rotate_left
    · have hst : total < nb := by simpa using hstop
      have hne : ((total : Int) != (nb : Int)) = true := by simp; omega
      have herr : res = .error number := by
        cases hp : pFrame h number (d.data.toList.drop f) with
        | none => exact hfinv.none hf hp
        | some x => obtain ⟨chs, rest⟩ := x; exact hfinv.over hf hp (.inl rfl)
      have hpost : EachPost J w S0 h d.data.toList res (.returned (.tuple #[.int .i64 4, .int .i64 number])) wr := ⟨l, S, hinv.j, hinv.kp, hsub0, by rw [herr]⟩
      clear hinv hfinv herr hstop hdk
      go_wp2
      exact bodyPost_ret (v := .tuple #[.int .i64 4, .int .i64 number]) (by simp [results, Try.results41, go_sem]) rfl hpost
    have hst : total = nb := by simpa using hstop
    have hne : ((total : Int) != (nb : Int)) = false := by simp; omega
    have HST : Hid (total = nb) := hst
    have HDK : Hid (dk.size = d.size - f) := hdk
    have HRD := qreadframe wr dk h number hdk2 hc1 hc2 hb1 hb2 hblk
    unfold headC at HRD
    clear hst hdk hstop
    go_wp2_with fail
    refine HRD.mono ?_
    rintro e w3 ⟨hg3, size, cnt, v, ok, rfl, hcase⟩
    clear HRD c0 c1 c2 c3 c4 hne hmul
    rw [hinv.data] at hcase
    have hkk3 : Kp w w3 S0 := hinv.kp.trans (Kp.ofNone (S := fun _ => False) hg3) (fun b e => e.elim)
    have hJ3 := hT.grow wr w3 l S hinv.j hg3
    rcases hcase with ⟨rfl, chs, cvs, hp, hsz, hsubs, hcn⟩ | ⟨rfl, rfl, rfl, hp⟩
    rotate_left
    · have herr := hfinv.none hf hp
      have hga : w3.grownBy (w3.alloc (.cells #[.int .i64 size, .int .i64 0, .slice none 0 0] 115)) none := grown_alloc (grown_refl _ _) _
      have hpost : EachPost J w S0 h d.data.toList res (.returned (.tuple #[.int .i64 4, .int .i64 number])) (w3.alloc (.cells #[.int .i64 size, .int .i64 0, .slice none 0 0] 115)) :=
        ⟨l, S, hT.grow _ _ l S hJ3 hga, hkk3.trans (Kp.ofNone (S := fun _ => False) hga) (fun b e => e.elim), hsub0, by rw [herr]⟩
      clear hinv hfinv herr hp
      go_wp2
      exact bodyPost_ret (v := .tuple #[.int .i64 4, .int .i64 number]) (by simp [results, Try.results41, go_sem]) rfl hpost
    have hsp := pFrame_spec hp
    have hcl := hsp.1
    have hn2 : 1 ≤ cnt ∧ cnt ≤ h.block := by
      obtain ⟨_, n', k', h1, h2, h3, _⟩ := hsp
      have : n' = cnt := by rw [← hcn 0 (by omega), h3 0 (by omega)]
      omega
    have hc0 : (chs.getD 0 []).length = cnt := hcn 0 (by omega)
    have hview3 := hsubs.views (by omega) (fun j hj => by rw [hcn j (by omega)]; exact hn2.1)
    have hview3' := hview3
    obtain ⟨lg, lcap, rfl, hlcap, hlg, hlgt, _⟩ := hview3'
    have hover := fun ho => hfinv.over hf hp ho
    have hnext := fun ho => hfinv.next hc1 hf hp ho
    rw [hc0] at hover hnext
    have HCL : Hid (chs.length = h.channels) := hcl
    have HP : Hid (pFrame h number (d.data.toList.drop f) = some (chs, (d.data.toList.drop f).drop size)) := hp
    clear hsp hp hc0 hsubs hcl
    obtain ⟨w4, hw4⟩ : ∃ w4, w3.alloc (.cells #[.int .i64 size, .int .i64 cnt, .slice (some ⟨lg, 0, none⟩) chs.length lcap] 115) = w4 := ⟨_, rfl⟩
    obtain ⟨gF, hgF⟩ : ∃ gF, w3.heap.size = gF := ⟨_, rfl⟩
    have hg4 : w3.grownBy w4 none := by rw [← hw4]; exact grown_alloc (grown_refl _ _) _
    have hbF4 : Box w4 gF #[.int .i64 size, .int .i64 cnt, .slice (some ⟨lg, 0, none⟩) chs.length lcap] 115 := by rw [← hgF, ← hw4]; exact Box.new _ _ _
    have hkk4 : Kp w w4 S0 := hkk3.trans (Kp.ofNone (S := fun _ => False) hg4) (fun b e => e.elim)
    have hgr4 := grown_trans hg3 hg4
    have hJ4 := hT.grow _ _ l S hJ3 hg4
    have hview4 := hview3.kp (Kp.ofNone (S := fun _ => False) hg4) (fun q _ e => e)
    have hF3 : wr.heap.size ≤ gF := by rw [← hgF]; exact hg3.size
    have hinf4 := hinv.inf.kept hgr4 (by simp)
    have HW4 : Hid (w3.alloc (.cells #[.int .i64 size, .int .i64 cnt, .slice (some ⟨lg, 0, none⟩) chs.length lcap] 115) = w4) := hw4
    have HGF : Hid (w3.heap.size = gF) := hgF
    rw [hgF] at hview4
    have hF4 : gF < w4.heap.size := hbF4.lt
    clear hw4 hgF hg3 hg4 hkk3 hJ3 hview3
    go_upto_region 6 with fail
    rw [HW4.out, HGF.out]
    clear HW4 HGF
    have f0 : w4.cell? ⟨gF, 0, none⟩ = some (.int .i64 size) := hbF4.cell 0
    have f1 : w4.cell? ⟨gF, 1, none⟩ = some (.int .i64 cnt) := hbF4.cell 1
    have f2 : w4.cell? ⟨gF, 2, none⟩ = some (.slice (some ⟨lg, 0, none⟩) chs.length lcap) := hbF4.cell 2
    by_cases hov : 1200 < total + cnt
    · have herr := hover (.inr hov)
      have hpost : EachPost J w S0 h d.data.toList res (.returned (.tuple #[.int .i64 4, .int .i64 number])) w4 := ⟨l, S, hJ4, hkk4, hsub0, by rw [herr]⟩
      have tt : decide ((1200 : Int) < (total : Int) + (cnt : Int)) = true := decide_eq_true (by omega)
      clear hinv hfinv herr hover hnext hview4
      go_wp2
      exact bodyPost_ret (v := .tuple #[.int .i64 4, .int .i64 number]) (by simp [results, Try.results41, go_sem]) rfl hpost
    obtain ⟨f', hrest, hfinv'⟩ := hnext (by simp; omega)
    have tt : decide ((1200 : Int) < (total : Int) + (cnt : Int)) = false := decide_eq_false (by omega)
    obtain ⟨part, hpart⟩ : ∃ part, dk.extract 0 size = part := ⟨_, rfl⟩
    have hpl : part.data.toList = (d.data.toList.drop f).take size := by
      rw [← hpart, extract_list, ← hinv.data]
      simp
    have hpsz : part.size ≤ 6000 := by rw [← dlen, hpl, List.length_take, List.length_drop, dlen]; omega
    have hDn : ∀ q, (wr.heap.size ≤ q ∧ q < gF) → ¬ S q ∧ q < w4.heap.size := fun q hq => ⟨fun e => by have := hT.lt wr l S hinv.j q e; omega, by omega⟩
    have hle : l.length ≤ 6000 := by rw [hinv.num]; have := hfinv.2.2.1; have := hfinv.2.1; omega
    have HCALL : Calls Try.prog g (#[.string part, .slice (some ⟨lg, 0, none⟩) chs.length lcap] ++ lb) w4.drew (TakePost J w4.drew l S (part.data.toList, chs)) :=
      hT.call w4.drew l S _ part chs _ cnt total (hT.grow _ _ l S hJ4 (grown_drew (grown_refl _ _))) hview4 hDn HCL.out hcn hn2.1 hfinv.2.2.2.2.2.1 hfinv.2.2.2.2.1 (by omega) hle hpsz
    have hff : f' = f + size := by
      have h1 := congrArg List.length hrest
      rw [List.length_drop, List.length_drop, List.length_drop, dlen] at h1
      have := hfinv'.1
      have := HDK.out
      omega
    have hfls' := hinv.fls.next hpl (by rw [hinv.num]; exact HP.out) hcn hn2.2
    rw [← hff] at hfls'
    have HFLS : Hid _ := hfls'
    have HDATA : Hid (dk.data.toList = d.data.toList.drop f) := hinv.data
    have HPROD : Hid (number * h.block = nb) := hinv.prod
    have HNUM : Hid (l.length = number) := hinv.num
    have HREST : Hid ((d.data.toList.drop f).drop size = d.data.toList.drop f') := hrest
    have HPART : Hid (dk.extract 0 size = part) := hpart
    have HSUB : Hid (∀ b, S b → S0 b ∨ w.heap.size < b) := hinv.sub
    have hslt : ∀ b, S b → b < gF := fun b hb => by have := hT.lt wr l S hinv.j b hb; omega
    have hw4 : w.heap.size < gF := by have := hinv.inf.lt; omega
    have HP4 : dk.extract 0 size = part := hpart
    clear hov hover hnext hrest hpl hpsz hDn hle hview4 hJ4 hfls' hff hpart HP hinv hfinv
    go_upto_region 8 with fail
    go_cut [] (fun wx => TakePost J w4 l S (part.data.toList, chs) (.returned (.tuple #[])) wx)
    case first =>
      go_region_with (first
        | (go_at_fn g; refine HCALL.mono ?_; rintro e w5 ⟨rfl, hk5, S5, hJ5, hs5⟩))
      all_goals
        go_wp2
        go_meet
        case rel => exact ⟨rfl, ⟨hk5.os, hk5.tape, hk5.output, hk5.size, hk5.block⟩, S5, hJ5, hs5⟩
    case rest =>
      obtain ⟨_, hk5, S5, hJ5, hs5⟩ := hcut
      have hfr5 := hbF4.kp hk5 (fun e => by have := hslt gF e; omega)
      have hin5 := hinf4.kp hk5 (fun e => by
        rcases HSUB.out _ e with h1 | h1
        · have := hS0 _ h1; omega
        · omega)
      have f0 : wc.cell? ⟨gF, 0, none⟩ = some (.int .i64 size) := hfr5.cell 0
      have f1 : wc.cell? ⟨gF, 1, none⟩ = some (.int .i64 cnt) := hfr5.cell 1
      have hkk5 : Kp w wc S0 := hkk4.trans hk5 (fun b hb => by
        rcases HSUB.out b hb with h1 | h1
        · exact .inl h1
        · exact .inr (by omega))
      have hsub5 : ∀ b, S5 b → S0 b ∨ w.heap.size < b := fun b hb => by
        rcases hs5 b hb with h1 | h1
        · exact HSUB.out b h1
        · exact .inr (by have := hF4; omega)
      have hex : (dk.extract size dk.size).data.toList = d.data.toList.drop f' := by
        rw [extract_list, HDATA.out, HREST.out, List.take_of_length_le]
        rw [← HREST.out, ← HDATA.out, List.length_drop, dlen]
        omega
      have hinv' : EaInv J w wc S0 h d (dk.extract size dk.size) res (gk - 1) (number + 1) (total + cnt) (nb + h.block) f' (decide (cnt < h.block)) (l ++ [(part.data.toList, chs)]) S5 := by
        refine ⟨hkk5, hin5, hJ5, hsub5, by rw [joined_snoc]; exact hfinv', HFLS.out, by rw [List.length_append, HNUM.out]; rfl, hex, by rw [Nat.succ_mul, HPROD.out], ?_⟩
        have := HST.out
        by_cases hlt : cnt < h.block
        · simp [hlt]; omega
        · simp [hlt]; omega
      have hko : 0 < gk := by have := hfinv'.2.1; omega
      clear hex hkk5 hin5 hJ5 hsub5 hfr5 hk5 hs5 hfinv' hkk4 hinf4 hbF4
      go_wp2
      go_roundg (gk - 1)
      case measure => omega
      case rel => exact ⟨_, number + 1, total + cnt, nb + h.block, f', decide (cnt < h.block), _, S5, rfl, by go_num, by go_num, hinv'⟩
end Go.Proofs.Ytncmgnmcggkhnaa
