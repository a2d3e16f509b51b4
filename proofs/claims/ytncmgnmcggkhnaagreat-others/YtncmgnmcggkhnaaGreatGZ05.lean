import Derived.Test.YtncmgnmcggkhnaaGreatGZ04
import Derived.Deep.DeepCutAuto
import Derived.Deep.CutBlock
import Derived.Deep.LoopGhost
import Derived.Laws.ResultCell
namespace Go.Proofs.YtncmgnmcggkhnaaGreat
open Go.RowKit

theorem modeOk_high {c mode : Nat} (hm : 8 ≤ mode) (h : modeOk c mode = true) : c = 2 ∧ mode ≤ 10 := by
  unfold modeOk at h
  simp at h
  omega

theorem two_of_length {α : Type} {l : List α} (h : l.length = 2) : ∃ a b, l = [a, b] := by
  match l, h with
  | [a, b], _ => exact ⟨a, b, rfl⟩

theorem one_newV (w : World) (x : Value) (ty : TypeId) : ∀ j u, [x][j]? = some u → (w.alloc (.cells #[x] ty)).cell? ((⟨w.heap.size, 0, none⟩ : Addr).add j) = some u := by
  intro j u hj
  match j, hj with
  | 0, hj => simp at hj; subst hj; simp [Addr.add]

end Go.Proofs.YtncmgnmcggkhnaaGreat

namespace Go.Proofs.YtncmgnmcggkhnaaGreat
open Go.RowKit

/-- a head in memory, as a value -/
def headV (h : Head) : Value := .agg #[.int .i64 h.block, .int .i64 h.rate, .int .i64 h.channels, .int .i64 h.bits, .int .i64 h.total]

theorem St.rd {t : TypeId} {w : World} {b : Nat} {s : ByteArray} {σ : Option (List Bool)} (h : St t w b s σ) (hs : s.size ≤ 6000) :
    ∃ a m, a ≤ 1099511627776 ∧ Rd t w b s a m ∧ (m = σ.isNone ∧ ∀ l, σ = some l → a = 8 * s.size - l.length) := by
  cases σ with
  | none =>
    obtain ⟨a, ha, h⟩ := h
    exact ⟨a, true, ha, h, rfl, fun l e => by cases e⟩
  | some l =>
    obtain ⟨a, ha, hl, h⟩ := h
    refine ⟨a, false, by omega, h, rfl, fun l' e => ?_⟩
    cases e
    rw [hl, List.length_drop, total_bits]
    omega

theorem five_stores (w : World) (g : Nat) (z0 z1 z2 z3 z4 : Value) (t : TypeId) (v0 v1 v2 v3 v4 : Value) (h : Box w g #[z0, z1, z2, z3, z4] t) :
    Box (((((w.setCell ⟨g, 0, none⟩ v0).setCell ⟨g, 1, none⟩ v1).setCell ⟨g, 2, none⟩ v2).setCell ⟨g, 3, none⟩ v3).setCell ⟨g, 4, none⟩ v4) g #[v0, v1, v2, v3, v4] t ∧
    w.grownBy (((((w.setCell ⟨g, 0, none⟩ v0).setCell ⟨g, 1, none⟩ v1).setCell ⟨g, 2, none⟩ v2).setCell ⟨g, 3, none⟩ v3).setCell ⟨g, 4, none⟩ v4) (some g) := by
  refine ⟨?_, grown_trans (grown_trans (grown_trans (grown_trans (grown_set _ _ _ _) (grown_set _ _ _ _)) (grown_set _ _ _ _)) (grown_set _ _ _ _)) (grown_set _ _ _ _)⟩
  exact ((((h.set 0 v0).set 1 v1).set 2 v2).set 3 v3).set 4 v4

theorem info_chain {block rate ch bt total v48 : Nat} {σ σ1 σ2 σ3 σ4 σ5 σ6 σ7 σ8 : Option (List Bool)} {v128 : Nat} (h1 : Ends (pNum 16) σ block σ1) (h2 : Ends (pMust 16 block) σ1 () σ2) (h3 : Ends (pNum 48) σ2 v48 σ3) (h4 : Ends (pNum 20) σ3 rate σ4)
    (h5 : Ends (pNum 3) σ4 ch σ5) (h6 : Ends (pNum 5) σ5 bt σ6) (h7 : Ends (pNum 36) σ6 total σ7) (h8 : Ends (pNum 128) σ7 v128 σ8) :
    (headOk ⟨block, rate, ch + 1, bt + 1, total⟩ = true → Ends pInfo σ ⟨block, rate, ch + 1, bt + 1, total⟩ σ8) ∧ (headOk ⟨block, rate, ch + 1, bt + 1, total⟩ = false ∨ σ8 = none → ∀ x, Ends pInfo σ x none) := by
  have key : ∀ (x : Head) (σ9 : Option (List Bool)), Ends (fun r7 => if headOk ⟨block, rate, ch + 1, bt + 1, total⟩ = true then some ((⟨block, rate, ch + 1, bt + 1, total⟩ : Head), r7) else none) σ8 x σ9 → Ends pInfo σ x σ9 := by
    intro x σ9 h9
    refine Ends.bind h1 (q := fun block r => (pMust 16 block r).bind fun (_, r1) => (pNum 48 r1).bind fun (_, r2) => (pNum 20 r2).bind fun (rate, r3) => (pNum 3 r3).bind fun (ch, r4) => (pNum 5 r4).bind fun (bt, r5) => (pNum 36 r5).bind fun (total, r6) => (pNum 128 r6).bind fun (_, r7) => if headOk ⟨block, rate, ch + 1, bt + 1, total⟩ = true then some ((⟨block, rate, ch + 1, bt + 1, total⟩ : Head), r7) else none) ?_
    refine Ends.bind h2 (q := fun _ r1 => (pNum 48 r1).bind fun (_, r2) => (pNum 20 r2).bind fun (rate, r3) => (pNum 3 r3).bind fun (ch, r4) => (pNum 5 r4).bind fun (bt, r5) => (pNum 36 r5).bind fun (total, r6) => (pNum 128 r6).bind fun (_, r7) => if headOk ⟨block, rate, ch + 1, bt + 1, total⟩ = true then some ((⟨block, rate, ch + 1, bt + 1, total⟩ : Head), r7) else none) ?_
    refine Ends.bind h3 (q := fun _ r2 => (pNum 20 r2).bind fun (rate, r3) => (pNum 3 r3).bind fun (ch, r4) => (pNum 5 r4).bind fun (bt, r5) => (pNum 36 r5).bind fun (total, r6) => (pNum 128 r6).bind fun (_, r7) => if headOk ⟨block, rate, ch + 1, bt + 1, total⟩ = true then some ((⟨block, rate, ch + 1, bt + 1, total⟩ : Head), r7) else none) ?_
    refine Ends.bind h4 (q := fun rate r3 => (pNum 3 r3).bind fun (ch, r4) => (pNum 5 r4).bind fun (bt, r5) => (pNum 36 r5).bind fun (total, r6) => (pNum 128 r6).bind fun (_, r7) => if headOk ⟨block, rate, ch + 1, bt + 1, total⟩ = true then some ((⟨block, rate, ch + 1, bt + 1, total⟩ : Head), r7) else none) ?_
    refine Ends.bind h5 (q := fun ch r4 => (pNum 5 r4).bind fun (bt, r5) => (pNum 36 r5).bind fun (total, r6) => (pNum 128 r6).bind fun (_, r7) => if headOk ⟨block, rate, ch + 1, bt + 1, total⟩ = true then some ((⟨block, rate, ch + 1, bt + 1, total⟩ : Head), r7) else none) ?_
    refine Ends.bind h6 (q := fun bt r5 => (pNum 36 r5).bind fun (total, r6) => (pNum 128 r6).bind fun (_, r7) => if headOk ⟨block, rate, ch + 1, bt + 1, total⟩ = true then some ((⟨block, rate, ch + 1, bt + 1, total⟩ : Head), r7) else none) ?_
    refine Ends.bind h7 (q := fun total r6 => (pNum 128 r6).bind fun (_, r7) => if headOk ⟨block, rate, ch + 1, bt + 1, total⟩ = true then some ((⟨block, rate, ch + 1, bt + 1, total⟩ : Head), r7) else none) ?_
    refine Ends.bind h8 (q := fun _ r7 => if headOk ⟨block, rate, ch + 1, bt + 1, total⟩ = true then some ((⟨block, rate, ch + 1, bt + 1, total⟩ : Head), r7) else none) ?_
    exact h9
  exact ⟨fun hok => key _ _ (Ends.yes hok), fun hno x => by
    rcases hno with hno | hno
    · exact key _ _ (Ends.no (by rw [hno]; simp))
    · subst hno; exact key _ _ Ends.dead⟩

end Go.Proofs.YtncmgnmcggkhnaaGreat

namespace Go.Proofs.YtncmgnmcggkhnaaGreat
open Go.RowKit

theorem block_ends {σ σ1 σ2 σ3 : Option (List Bool)} {last kind size : Nat} (h1 : Ends (pNum 1) σ last σ1) (h2 : Ends (pNum 7) σ1 kind σ2) (h3 : Ends (pNum 24) σ2 size σ3) :
    Ends pBlock σ (last, kind, size) σ3 := by
  refine Ends.bind h1 (q := fun last r => (pNum 7 r).bind fun (kind, r1) => (pNum 24 r1).bind fun (size, r2) => some ((last, kind, size), r2)) ?_
  refine Ends.bind h2 (q := fun kind r1 => (pNum 24 r1).bind fun (size, r2) => some ((last, kind, size), r2)) ?_
  refine Ends.bind h3 (q := fun size r2 => some ((last, kind, size), r2)) ?_
  cases σ3 with
  | none => rfl
  | some r => exact ⟨rfl, rfl⟩

/-- where the loop over the blocks stands: the bits at the start, is it the first block, what was told, the bits left (none: the mark is set), how many more there can be -/
def BlkInv (l : List Bool) (first : Bool) (h : Head) (σ : Option (List Bool)) (gk : Nat) : Prop :=
  match σ with
  | none => pBlocks l = none
  | some r => r.length % 8 = 0 ∧
    match first with
    | true => gk = l.length + 1 ∧ r.length < l.length ∧ pBlocks l = (pBlock r).bind fun ((last, kind, size), r4) =>
        if kind = 0 ∧ size = 34 then (pInfo r4).bind fun (h, r5) => if last = 1 then some (h, r5) else (pMore l.length r5).map fun (_, r6) => (h, r6) else none
    | false => r.length < gk ∧ gk ≤ l.length ∧ pBlocks l = (pMore gk r).map fun (_, r6) => (h, r6)

/-- does the block's head pass? -/
def blkOk (first : Bool) (kind size room : Nat) : Bool :=
  ((kind == 0) == first) && !(kind == 127) && !(kind == 3 && !(size % 18 == 0)) && decide (8 * size ≤ room)

theorem must8 {σ σ' : Option (List Bool)} {v : Nat} (h : Ends (pMust 8 v) σ () σ') : ∀ l', σ' = some l' → ∃ l, σ = some l ∧ pMust 8 v l = some ((), l') ∧ l.length = l'.length + 8 := by
  intro l' e
  subst e
  obtain ⟨l, rfl⟩ := h.alive
  have hn := must_left h
  rcases h.cases with ⟨r, e1, e2⟩ | ⟨_, e2⟩
  · injection e2 with e2
    subst e2
    exact ⟨l, rfl, e1, by omega⟩
  · cases e2

/-- behind the four signs -/
theorem blk_start {l : List Bool} {σ1 σ2 σ3 σ4 : Option (List Bool)} (h8 : l.length % 8 = 0) (h1 : Ends (pMust 8 102) (some l) () σ1) (h2 : Ends (pMust 8 76) σ1 () σ2) (h3 : Ends (pMust 8 97) σ2 () σ3)
    (h4 : Ends (pMust 8 67) σ3 () σ4) (h : Head) : BlkInv l true h σ4 (l.length + 1) := by
  have key : Ends (fun l => (pMust 8 102 l).bind fun (_, r) => (pMust 8 76 r).bind fun (_, r1) => (pMust 8 97 r1).bind fun (_, r2) => pMust 8 67 r2) (some l) () σ4 := by
    refine Ends.bind h1 (q := fun _ r => (pMust 8 76 r).bind fun (_, r1) => (pMust 8 97 r1).bind fun (_, r2) => pMust 8 67 r2) ?_
    refine Ends.bind h2 (q := fun _ r1 => (pMust 8 97 r1).bind fun (_, r2) => pMust 8 67 r2) ?_
    exact Ends.bind h3 (q := fun _ r2 => pMust 8 67 r2) h4
  have hpb : pBlocks l = (((pMust 8 102 l).bind fun (_, r) => (pMust 8 76 r).bind fun (_, r1) => (pMust 8 97 r1).bind fun (_, r2) => pMust 8 67 r2) : Option (Unit × List Bool)).bind fun (_, r3) => (pBlock r3).bind fun ((last, kind, size), r4) =>
        if kind = 0 ∧ size = 34 then (pInfo r4).bind fun (h, r5) => if last = 1 then some (h, r5) else (pMore l.length r5).map fun (_, r6) => (h, r6) else none := by
    unfold pBlocks
    cases pMust 8 102 l with
    | none => rfl
    | some x1 =>
      cases e2 : pMust 8 76 x1.2 with
      | none => simp only [Option.bind_some, e2]; rfl
      | some x2 =>
        cases e3 : pMust 8 97 x2.2 with
        | none => simp only [Option.bind_some, e2, e3]; rfl
        | some x3 => simp only [Option.bind_some, e2, e3]
  rcases σ4 with _ | r
  · show pBlocks l = none
    rcases key.cases with ⟨r, _, e⟩ | ⟨e, _⟩
    · cases e
    · rw [hpb, e]; rfl
  · obtain ⟨l3, rfl, p4, n4⟩ := must8 h4 r rfl
    obtain ⟨l2, rfl, p3, n3⟩ := must8 h3 l3 rfl
    obtain ⟨l1, rfl, p2, n2⟩ := must8 h2 l2 rfl
    obtain ⟨l0, e0, p1, n1⟩ := must8 h1 l1 rfl
    injection e0 with e0
    subst e0
    refine ⟨by omega, rfl, by omega, ?_⟩
    rcases key.cases with ⟨r', e, e'⟩ | ⟨_, e⟩
    · injection e' with e'
      subst e'
      rw [hpb, e]
      rfl
    · cases e

theorem pnum_left {n v : Nat} {l r : List Bool} (e : pNum n l = some (v, r)) : r.length + n = l.length := (num_left (Ends.of e)).1
theorem pmust_left {n v : Nat} {u : Unit} {l r : List Bool} (e : pMust n v l = some (u, r)) : r.length + n = l.length := (must_left (Ends.of e)).1

theorem info_left {l r : List Bool} {h : Head} (e : pInfo l = some (h, r)) : r.length + 272 = l.length := by
  unfold pInfo at e
  obtain ⟨⟨a1, r1⟩, e1, e⟩ := Option.bind_eq_some_iff.mp e
  obtain ⟨⟨a2, r2⟩, e2, e⟩ := Option.bind_eq_some_iff.mp e
  obtain ⟨⟨a3, r3⟩, e3, e⟩ := Option.bind_eq_some_iff.mp e
  obtain ⟨⟨a4, r4⟩, e4, e⟩ := Option.bind_eq_some_iff.mp e
  obtain ⟨⟨a5, r5⟩, e5, e⟩ := Option.bind_eq_some_iff.mp e
  obtain ⟨⟨a6, r6⟩, e6, e⟩ := Option.bind_eq_some_iff.mp e
  obtain ⟨⟨a7, r7⟩, e7, e⟩ := Option.bind_eq_some_iff.mp e
  obtain ⟨⟨a8, r8⟩, e8, e⟩ := Option.bind_eq_some_iff.mp e
  have := pnum_left e1
  have := pmust_left e2
  have := pnum_left e3
  have := pnum_left e4
  have := pnum_left e5
  have := pnum_left e6
  have := pnum_left e7
  have := pnum_left e8
  simp only at e
  split at e
  · injection e with e
    injection e with _ e
    subst e
    omega
  · cases e

theorem info_short (r : List Bool) (hr : r.length < 272) : pInfo r = none := by
  cases e : pInfo r with
  | none => rfl
  | some x =>
    have := info_left (h := x.1) (r := x.2) e
    omega

/-- what a block's head says when it does not pass, or was not there -/
theorem blk_none {l r : List Bool} {first : Bool} {h : Head} {gk last kind size : Nat} {σ3 : Option (List Bool)} (hi : BlkInv l first h (some r) gk) (hb : Ends pBlock (some r) (last, kind, size) σ3)
    (hno : ∀ r3, σ3 = some r3 → blkOk first kind size r3.length = false) : pBlocks l = none := by
  obtain ⟨h8, hi⟩ := hi
  rcases hb.cases with ⟨r3, e, rfl⟩ | ⟨e, _⟩
  · have hn := hno r3 rfl
    cases first with
    | true =>
      obtain ⟨_, _, hp⟩ := hi
      rw [hp, e]
      simp only [Option.bind_some]
      split
      · rename_i hk
        obtain ⟨rfl, rfl⟩ := hk
        have hlen : r3.length < 272 := by
          simp [blkOk] at hn
          omega
        have : pInfo r3 = none := info_short r3 hlen
        rw [this]; rfl
      · rfl
    | false =>
      obtain ⟨hgk, _, hp⟩ := hi
      obtain ⟨g, rfl⟩ : ∃ g, gk = g + 1 := ⟨gk - 1, by omega⟩
      rw [hp]
      show Option.map _ ((pBlock r).bind _) = none
      rw [e]
      simp only [Option.bind_some]
      rw [if_pos]
      · rfl
      · simp [blkOk] at hn
        by_cases k0 : kind = 0
        · exact .inl k0
        · by_cases k1 : kind = 127
          · exact .inr (.inl k1)
          · right; right
            by_cases k3 : kind = 3 ∧ size % 18 ≠ 0
            · exact .inl k3
            · right
              have := hn k0 k1 (by omega)
              omega
  · cases first with
    | true =>
      obtain ⟨_, _, hp⟩ := hi
      rw [hp, e]; rfl
    | false =>
      obtain ⟨hgk, _, hp⟩ := hi
      obtain ⟨g, rfl⟩ : ∃ g, gk = g + 1 := ⟨gk - 1, by omega⟩
      rw [hp]
      show Option.map _ ((pBlock r).bind _) = none
      rw [e]
      rfl

def BlkMid (l : List Bool) (last : Nat) (h : Head) (σ : Option (List Bool)) (gk : Nat) : Prop :=
  if last = 1 then pBlocks l = σ.map fun r => (h, r) else BlkInv l false h σ gk

theorem blk_dead {l : List Bool} {last : Nat} {h : Head} {gk : Nat} (e : pBlocks l = none) : BlkMid l last h none gk := by
  unfold BlkMid
  split
  · exact e
  · exact e

theorem block_left {l r : List Bool} {x : Nat × Nat × Nat} (e : pBlock l = some (x, r)) : r.length + 32 = l.length := by
  unfold pBlock at e
  obtain ⟨⟨a1, r1⟩, e1, e⟩ := Option.bind_eq_some_iff.mp e
  obtain ⟨⟨a2, r2⟩, e2, e⟩ := Option.bind_eq_some_iff.mp e
  obtain ⟨⟨a3, r3⟩, e3, e⟩ := Option.bind_eq_some_iff.mp e
  injection e with e
  injection e with _ e
  subst e
  have := pnum_left e1
  have := pnum_left e2
  have := pnum_left e3
  omega

theorem blk_first {l r r3 r5 : List Bool} {h h' : Head} {gk last : Nat} (hi : BlkInv l true h (some r) gk) (hb : pBlock r = some ((last, 0, 34), r3)) (hp : pInfo r3 = some (h', r5)) :
    BlkMid l last h' (some r5) (gk - 1) := by
  obtain ⟨h8, hgk, hlt, hi⟩ := hi
  have h1 := block_left hb
  have h2 := info_left hp
  rw [hb] at hi
  simp only [Option.bind_some, hp, and_self, if_true] at hi
  unfold BlkMid
  split
  · rename_i e
    rw [if_pos e] at hi
    exact hi
  · rename_i e
    rw [if_neg e] at hi
    have : gk - 1 = l.length := by omega
    rw [this]
    exact ⟨by omega, by omega, Nat.le_refl _, hi⟩

theorem blk_first_none {l r : List Bool} {h : Head} {gk last kind size : Nat} {σ3 : Option (List Bool)} (hi : BlkInv l true h (some r) gk) (hb : Ends pBlock (some r) (last, kind, size) σ3)
    (hp : ∀ r3, σ3 = some r3 → size = 34 → pInfo r3 = none) : pBlocks l = none := by
  obtain ⟨h8, hgk, hlt, hi⟩ := hi
  rcases hb.cases with ⟨r3, e, rfl⟩ | ⟨e, _⟩
  · rw [hi, e]
    simp only [Option.bind_some]
    split
    · rename_i hk
      rw [hp r3 rfl hk.2]
      rfl
    · rfl
  · rw [hi, e]; rfl

theorem blk_next {l r r3 : List Bool} {h : Head} {gk last kind size : Nat} (hi : BlkInv l false h (some r) gk) (hb : pBlock r = some ((last, kind, size), r3)) (hok : blkOk false kind size r3.length = true) :
    BlkMid l last h (some (r3.drop (8 * size))) (gk - 1) := by
  obtain ⟨h8, hgk, hle, hi⟩ := hi
  have h1 := block_left hb
  obtain ⟨g, rfl⟩ : ∃ g, gk = g + 1 := ⟨gk - 1, by omega⟩
  have hk : ¬ (kind = 0 ∨ kind = 127 ∨ (kind = 3 ∧ size % 18 ≠ 0) ∨ r3.length < 8 * size) := by
    simp [blkOk] at hok
    omega
  have hroom : 8 * size ≤ r3.length := by omega
  have hm : pMore (g + 1) r = if last = 1 then some ((), r3.drop (8 * size)) else pMore g (r3.drop (8 * size)) := by
    show (pBlock r).bind _ = _
    rw [hb]
    simp only [Option.bind_some]
    rw [if_neg hk]
  rw [hm] at hi
  unfold BlkMid
  split
  · rename_i e
    rw [if_pos e] at hi
    exact hi
  · rename_i e
    rw [if_neg e] at hi
    refine ⟨?_, ?_, ?_, hi⟩
    · rw [List.length_drop]; omega
    · show _ < g + 1 - 1
      rw [List.length_drop]; omega
    · show g + 1 - 1 ≤ l.length
      omega

theorem blk_next_none {l r : List Bool} {h : Head} {gk last kind size : Nat} (hi : BlkInv l false h (some r) gk) (hb : Ends pBlock (some r) (last, kind, size) none) : pBlocks l = none := by
  obtain ⟨h8, hgk, hle, hi⟩ := hi
  obtain ⟨g, rfl⟩ : ∃ g, gk = g + 1 := ⟨gk - 1, by omega⟩
  rcases hb.cases with ⟨r3, _, e⟩ | ⟨e, _⟩
  · cases e
  · rw [hi]
    show Option.map _ ((pBlock r).bind _) = none
    rw [e]
    rfl
end Go.Proofs.YtncmgnmcggkhnaaGreat

namespace Go.Proofs.YtncmgnmcggkhnaaGreat
open Go.RowKit

/-- the cells of a head -/
def headC (h : Head) : Array Value := #[.int .i64 h.block, .int .i64 h.rate, .int .i64 h.channels, .int .i64 h.bits, .int .i64 h.total]

/-- alive, or the mark is set -/
def StM (t : TypeId) (w : World) (b : Nat) (s : ByteArray) : Option (List Bool) → Prop
  | some l => St t w b s (some l)
  | none => w.cell? ⟨b, 2, none⟩ = some (.bool true)

theorem StM.of {t : TypeId} {w : World} {b : Nat} {s : ByteArray} {σ : Option (List Bool)} (h : St t w b s σ) : StM t w b s σ := by
  cases σ with
  | none => exact h.mark
  | some l => exact h

theorem StM.mark {t : TypeId} {w : World} {b : Nat} {s : ByteArray} {σ : Option (List Bool)} (h : StM t w b s σ) : w.cell? ⟨b, 2, none⟩ = some (.bool σ.isNone) := by
  cases σ with
  | none => exact h
  | some l => exact St.mark (σ := some l) h

theorem StM.kept {t : TypeId} {w w' : World} {b : Nat} {s : ByteArray} {σ : Option (List Bool)} {row : Option Nat} (h : StM t w b s σ) (hb : b < w.heap.size) (hg : w.grownBy w' row) (hne : some b ≠ row) : StM t w' b s σ := by
  cases σ with
  | none =>
    show w'.cell? _ = _
    rw [World.cell?_of_block (hg.block b hb hne)]
    exact h
  | some l => exact St.kept (σ := some l) h hg hne

end Go.Proofs.YtncmgnmcggkhnaaGreat

namespace Go.Proofs.YtncmgnmcggkhnaaGreat
open Go.RowKit

theorem apart_spec (mode n : Nat) (subs : List (List Int)) (h : ∀ j, j < subs.length → (subs.getD j []).length = n) :
    (apart mode subs).length = subs.length ∧ ∀ j, j < subs.length → ((apart mode subs).getD j []).length = n := by
  match subs, h with
  | [], _ => exact ⟨rfl, fun j hj => by simp at hj⟩
  | [a], h => exact ⟨rfl, h⟩
  | [a, b], h =>
    have h0 : a.length = n := h 0 (by simp)
    have h1 : b.length = n := h 1 (by simp)
    refine ⟨rfl, fun j hj => ?_⟩
    rcases (show j = 0 ∨ j = 1 by simp at hj; omega) with rfl | rfl
    · show ((List.zipWith (pair mode) a b).map (·.1)).length = n
      rw [List.length_map, List.length_zipWith]; omega
    · show ((List.zipWith (pair mode) a b).map (·.2)).length = n
      rw [List.length_map, List.length_zipWith]; omega
  | a :: b :: c :: r, h => exact ⟨rfl, h⟩

theorem pHead_left {h : Head} {number : Nat} {bytes : List UInt8} {l r : List Bool} {x : Nat × Nat} (e : pHead h number bytes l = some (x, r)) : r.length + 64 = l.length ∧ 1 ≤ x.2 ∧ x.2 ≤ h.block := by
  unfold pHead at e
  obtain ⟨⟨a1, r1⟩, e1, e⟩ := Option.bind_eq_some_iff.mp e
  obtain ⟨⟨a2, r2⟩, e2, e⟩ := Option.bind_eq_some_iff.mp e
  obtain ⟨⟨a3, r3⟩, e3, e⟩ := Option.bind_eq_some_iff.mp e
  obtain ⟨⟨a4, r4⟩, e4, e⟩ := Option.bind_eq_some_iff.mp e
  obtain ⟨⟨a5, r5⟩, e5, e⟩ := Option.bind_eq_some_iff.mp e
  obtain ⟨⟨a6, r6⟩, e6, e⟩ := Option.bind_eq_some_iff.mp e
  obtain ⟨⟨a7, r7⟩, e7, e⟩ := Option.bind_eq_some_iff.mp e
  have := pmust_left e1
  have := pmust_left e2
  have := pnum_left e3
  have := pmust_left e4
  have := pmust_left e5
  have := pnum_left e6
  have := pmust_left e7
  simp only at e
  split at e
  · rename_i hc
    injection e with e
    injection e with e0 e
    subst e
    subst e0
    refine ⟨by omega, ?_, hc.1⟩
    show 1 ≤ a6 + 1
    omega
  · cases e

/-- what a frame is -/
theorem pFrame_spec {h : Head} {number : Nat} {bytes rest : List UInt8} {chs : List (List Int)} (e : pFrame h number bytes = some (chs, rest)) :
    chs.length = h.channels ∧ ∃ n k, 1 ≤ n ∧ n ≤ h.block ∧ (∀ j, j < h.channels → (chs.getD j []).length = n) ∧ 1 ≤ k ∧ k ≤ bytes.length ∧ rest = bytes.drop k := by
  unfold pFrame at e
  obtain ⟨⟨⟨mode, n⟩, r⟩, e1, e⟩ := Option.bind_eq_some_iff.mp e
  obtain ⟨⟨subs, r1⟩, e2, e⟩ := Option.bind_eq_some_iff.mp e
  obtain ⟨⟨u, r2⟩, e3, e⟩ := Option.bind_eq_some_iff.mp e
  obtain ⟨⟨u', r3⟩, e4, e⟩ := Option.bind_eq_some_iff.mp e
  have h1 := pHead_left e1
  have h2 := Shr.channels n h.bits mode h.channels 0 r subs r1 e2
  have h3 := pmust_left e3
  have h4 := pmust_left e4
  have hs := chan_spec n h.bits mode h.channels 0 r subs r1 e2
  have ha := apart_spec mode n subs (fun j hj => (hs.2 j (by rw [← hs.1]; exact hj)).1)
  rw [bitsOf_length] at h1
  simp only at e
  split at e
  · injection e with e
    injection e with e5 e6
    subst e5
    subst e6
    refine ⟨by rw [ha.1, hs.1], n, bytes.length - r3.length / 8, h1.2.1, h1.2.2, fun j hj => ha.2 j (by rw [hs.1]; exact hj), by omega, by omega, rfl⟩
  · cases e

/-- where the loop over the frames stands -/
def FInv (h : Head) (s : ByteArray) (res : Except Nat (List (List Int))) (gk number total : Nat) (ended : Bool) (acc : List (List Int)) (f : Nat) : Prop :=
  f ≤ s.size ∧ s.size - f < gk ∧ number + gk = s.size + 1 ∧ total ≤ 1200 ∧ acc.length = h.channels ∧ (∀ j, j < h.channels → (acc.getD j []).length = total) ∧
    res = frames h gk number total ended acc (s.data.toList.drop f)

section
variable {h : Head} {s : ByteArray} {res : Except Nat (List (List Int))} {gk number total : Nat} {ended : Bool} {acc : List (List Int)} {f : Nat}

theorem drop_nil_iff (s : ByteArray) (f : Nat) (hf : f ≤ s.size) : s.data.toList.drop f = [] ↔ f = s.size := by
  rw [List.drop_eq_nil_iff]
  simp
  show s.size ≤ f ↔ f = s.size
  omega

theorem FInv.stop (hi : FInv h s res gk number total ended acc f) (e : f = s.size) : res = .ok acc := by
  obtain ⟨hf, hgk, _, _, _, _, rfl⟩ := hi
  obtain ⟨g, rfl⟩ : ∃ g, gk = g + 1 := ⟨gk - 1, by omega⟩
  unfold frames
  rw [if_pos ((drop_nil_iff s f hf).2 e)]

theorem FInv.none (hi : FInv h s res gk number total ended acc f) (e : f < s.size) (hp : pFrame h number (s.data.toList.drop f) = Option.none) : res = .error number := by
  obtain ⟨hf, hgk, _, _, _, _, rfl⟩ := hi
  obtain ⟨g, rfl⟩ : ∃ g, gk = g + 1 := ⟨gk - 1, by omega⟩
  unfold frames
  rw [if_neg (fun e' => by have := (drop_nil_iff s f hf).1 e'; omega), hp]

theorem headD_getD {chs : List (List Int)} : chs.headD [] = chs.getD 0 [] := by
  cases chs <;> rfl

theorem FInv.over {chs : List (List Int)} {rest : List UInt8} (hi : FInv h s res gk number total ended acc f) (e : f < s.size) (hp : pFrame h number (s.data.toList.drop f) = some (chs, rest))
    (ho : ended = true ∨ 1200 < total + (chs.getD 0 []).length) : res = .error number := by
  obtain ⟨hf, hgk, _, _, _, _, rfl⟩ := hi
  obtain ⟨g, rfl⟩ : ∃ g, gk = g + 1 := ⟨gk - 1, by omega⟩
  unfold frames
  rw [if_neg (fun e' => by have := (drop_nil_iff s f hf).1 e'; omega), hp]
  show (if _ then _ else _) = _
  rw [headD_getD, if_pos ho]

theorem zip_append_get (acc chs : List (List Int)) (c : Nat) (h1 : acc.length = c) (h2 : chs.length = c) (j : Nat) (hj : j < c) :
    (List.zipWith (· ++ ·) acc chs).getD j [] = acc.getD j [] ++ chs.getD j [] := by
  have e1 : acc[j]? = some (acc[j]'(by omega)) := List.getElem?_eq_getElem (by omega)
  have e2 : chs[j]? = some (chs[j]'(by omega)) := List.getElem?_eq_getElem (by omega)
  simp [List.getD, List.getElem?_zipWith, e1, e2]

theorem FInv.next {chs : List (List Int)} {rest : List UInt8} (hc : 1 ≤ h.channels) (hi : FInv h s res gk number total ended acc f) (e : f < s.size) (hp : pFrame h number (s.data.toList.drop f) = some (chs, rest))
    (ho : ¬ (ended = true ∨ 1200 < total + (chs.getD 0 []).length)) :
    ∃ f', rest = s.data.toList.drop f' ∧ FInv h s res (gk - 1) (number + 1) (total + (chs.getD 0 []).length) (decide ((chs.getD 0 []).length < h.block)) (List.zipWith (· ++ ·) acc chs) f' := by
  obtain ⟨hf, hgk, hnum, htot, hal, hac, rfl⟩ := hi
  obtain ⟨hcl, n, k, hn1, hn2, hcn, hk1, hk2, hrest⟩ := pFrame_spec hp
  obtain ⟨g, rfl⟩ : ∃ g, gk = g + 1 := ⟨gk - 1, by omega⟩
  have hbl : (s.data.toList.drop f).length = s.size - f := by rw [List.length_drop]; simp
  have hr : rest = s.data.toList.drop (f + k) := by rw [hrest, List.drop_drop]
  refine ⟨f + k, hr, by omega, by omega, by omega, by omega, by rw [List.length_zipWith]; omega, ?_, ?_⟩
  · intro j hj
    rw [zip_append_get acc chs h.channels hal hcl j hj, List.length_append, hac j hj, hcn j hj, hcn 0 (by omega)]
  · conv => lhs; unfold frames
    rw [if_neg (fun e' => by have := (drop_nil_iff s f hf).1 e'; omega), hp]
    show (if _ then _ else _) = _
    rw [headD_getD, if_neg ho, hr]
    rfl
end
end Go.Proofs.YtncmgnmcggkhnaaGreat

namespace Go.Proofs.YtncmgnmcggkhnaaGreat
open Go.RowKit

/-- a list of ints that can be read -/
def Ls (w : World) (v : Value) (xs : List Int) : Prop :=
  (v = .slice none 0 0 ∧ xs = []) ∨ ∃ g cap, v = .slice (some ⟨g, 0, none⟩) xs.length cap ∧ ∀ i, i < xs.length → w.cell? ⟨g, i, none⟩ = some (.int .i64 (xs.getD i 0))

theorem Own.ls {w : World} {base : Nat} {v : Value} {xs : List Int} (h : Own w base v xs) : Ls w v xs := by
  rcases h.row with ⟨h1, h2⟩ | ⟨g, cap, hv, hr⟩
  · exact .inl ⟨h1, h2⟩
  · exact .inr ⟨g, cap, hv, fun i hi => hr.cell i hi⟩

theorem Ls.slice {w : World} {v : Value} {xs : List Int} (h : Ls w v xs) : ∃ a c, v = .slice a xs.length c := by
  rcases h with ⟨rfl, rfl⟩ | ⟨g, cap, rfl, _⟩
  · exact ⟨none, 0, rfl⟩
  · exact ⟨_, cap, rfl⟩

theorem take_eq_succ (xs ys : List Int) (k : Nat) (h1 : k < xs.length) (h2 : k < ys.length) (h : xs.take k = ys.take k) (he : xs.getD k 0 = ys.getD k 0) : xs.take (k + 1) = ys.take (k + 1) := by
  rw [List.take_succ_eq_append_getElem h1, List.take_succ_eq_append_getElem h2, h]
  simp only [List.getD, List.getElem?_eq_getElem h1, List.getElem?_eq_getElem h2, Option.getD_some] at he
  rw [he]

end Go.Proofs.YtncmgnmcggkhnaaGreat
