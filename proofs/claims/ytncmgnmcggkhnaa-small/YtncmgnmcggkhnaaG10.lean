import Derived.Test.YtncmgnmcggkhnaaG09
import Derived.Test.YtncmgnmcggkhnaaG07
import Derived.Test.YtncmgnmcggkhnaaG01
namespace Go.Proofs.Ytncmgnmcggkhnaa
open Go.RowKit

/-- a sound of zeros -/
def noSound : Value := .agg #[.int .i64 0, .int .i64 0, .slice none 0 0]

/-- what Decode leaves -/
def DecPost (w : World) (s : ByteArray) (e : Ending) (w' : World) : Prop :=
  w.grownBy w' none ∧
    match decode s.data.toList with
    | .inl (er, place) => e = .returned (.tuple #[noSound, .int .i64 er, .int .i64 place])
    | .inr (rate, bits, chs) => ∃ lv vs, e = .returned (.tuple #[.agg #[.int .i64 rate, .int .i64 bits, lv], .int .i64 0, .int .i64 0]) ∧ Subs w' w.heap.size lv vs chs

/-- the memory of Decode: the answer's block, the head's, the sound's, that of the channels, and the channels themselves, from `base` on -/
structure DMem (w wr : World) (r gH gO gC base : Nat) (h : Head) (vs : List Value) (acc : List (List Int)) : Prop where
  grow : w.grownBy wr none
  res : Box wr r #[.int .i64 0, .int .i64 0, .slice none 0 0] 26
  hd : Box wr gH (headC h) 87
  out : Box wr gO #[.int .i64 h.rate, .int .i64 h.bits, .slice (some ⟨gC, 0, none⟩) h.channels h.channels] 26
  row : Box wr gC vs.toArray 30
  len : vs.length = h.channels
  own : ∀ i, i < vs.length → Own wr base (vs.getD i undef) (acc.getD i [])
  apartV : ∀ i j q, i < j → j < vs.length → (vs.getD i undef).ownBlock = some q → (vs.getD j undef).ownBlock ≠ some q

/-- how the blocks lie -/
structure DLie (w : World) (r b gH gO gC base : Nat) : Prop where
  r0 : w.heap.size ≤ r
  b0 : w.heap.size ≤ b
  c0 : w.heap.size ≤ gC
  rb : r < base
  bb : b < base
  hb : gH < base
  ob : gO < base
  cb : gC < base
  h0 : w.heap.size ≤ gH
  o0 : w.heap.size ≤ gO
  br : b ≠ r
  bh : b ≠ gH
  bo : b ≠ gO
  bc : b ≠ gC
  cr : gC ≠ r
  ch : gC ≠ gH
  co : gC ≠ gO
  ro : r ≠ gO
  rh : r ≠ gH

theorem grown_new {w wr w1 : World} {row : Option Nat} (h : w.grownBy wr none) (hg : wr.grownBy w1 row) (hr : ∀ g, row = some g → w.heap.size ≤ g) : w.grownBy w1 none :=
  ⟨hg.os.trans h.os, hg.tape.trans h.tape, hg.output.trans h.output, Nat.le_trans h.size hg.size,
    fun i hi _ => (hg.block i (Nat.lt_of_lt_of_le hi h.size) (fun e => by have := hr i e.symm; omega)).trans (h.block i hi (by simp))⟩

section
variable {w wr w1 : World} {r b gH gO gC base : Nat} {h : Head} {vs : List Value} {acc : List (List Int)}

theorem DMem.kept (hm : DMem w wr r gH gO gC base h vs acc) (hl : DLie w r b gH gO gC base) (hg : wr.grownBy w1 (some b)) : DMem w w1 r gH gO gC base h vs acc := by
  have n1 := hl.br
  have n2 := hl.bh
  have n3 := hl.bo
  have n4 := hl.bc
  refine ⟨grown_new hm.grow hg (fun g e => by injection e with e; have := hl.b0; omega), hm.res.kept hg (fun e => by injection e with e; omega), hm.hd.kept hg (fun e => by injection e with e; omega),
    hm.out.kept hg (fun e => by injection e with e; omega), hm.row.kept hg (fun e => by injection e with e; omega), hm.len, fun i hi => (hm.own i hi).kept hg hl.bb, hm.apartV⟩

theorem DMem.drewN (hm : DMem w wr r gH gO gC base h vs acc) (d : Nat) : DMem w (wr.drewN d) r gH gO gC base h vs acc :=
  ⟨grown_drewN hm.grow d, hm.res, hm.hd, hm.out, hm.row, hm.len, hm.own, hm.apartV⟩

theorem getD_set_ne {α : Type} (l : List α) (i j : Nat) (x d : α) (h : i ≠ j) : (l.set i x).getD j d = l.getD j d := by
  simp [List.getD, h]
theorem getD_set_eq {α : Type} (l : List α) (i : Nat) (x d : α) (h : i < l.length) : (l.set i x).getD i d = x := by
  simp [List.getD, h]

/-- one channel grows: its new list lies in its own old block, or in a new one; it is laid into the channels' block -/
theorem DMem.step (hm : DMem w wr r gH gO gC base h vs acc) (hl : DLie w r b gH gO gC base) {i g cap n : Nat} {zs : List Int} (hi : i < vs.length) (hal : acc.length = vs.length)
    (hg : wr.grownBy w1 (vs.getD i undef).ownBlock) (hown : Own w1 base (.slice (some ⟨g, 0, none⟩) n cap) zs) (hat : (vs.getD i undef).ownBlock = some g ∨ g = wr.heap.size) :
    DMem w (w1.setCell ⟨gC, i, none⟩ (.slice (some ⟨g, 0, none⟩) n cap)) r gH gO gC base h (vs.set i (.slice (some ⟨g, 0, none⟩) n cap)) (acc.set i zs) ∧
      wr.grownBy w1 (vs.getD i undef).ownBlock ∧ w1.grownBy (w1.setCell ⟨gC, i, none⟩ (.slice (some ⟨g, 0, none⟩) n cap)) (some gC) := by
  have hvlt : ∀ j q, j < vs.length → (vs.getD j undef).ownBlock = some q → base ≤ q ∧ q < wr.heap.size := fun j q hj hq => (hm.own j hj).lt q hq
  have hne : ∀ k, k < base → some k ≠ (vs.getD i undef).ownBlock := fun k hk e => by have := (hvlt i k hi e.symm).1; omega
  have hs := grown_set w1 gC i (.slice (some ⟨g, 0, none⟩) n cap)
  have hgb : base ≤ g := by
    have := hown.lt g rfl
    exact this.1
  have l1 := hl.rb
  have l2 := hl.hb
  have l3 := hl.ob
  have l4 := hl.cb
  have m1 := hl.cr
  have m2 := hl.ch
  have m3 := hl.co
  have l5 := hl.c0
  have l6 := hl.r0
  refine ⟨⟨?_, ?_, ?_, ?_, ?_, ?_, ?_, ?_⟩, hg, hs⟩
  · refine grown_new (grown_new hm.grow hg (fun q e => ?_)) hs (fun q e => by injection e with e; omega)
    have := (hvlt i q hi e).1
    omega
  · exact (hm.res.kept hg (hne r l1)).kept hs (fun e => by injection e with e; omega)
  · exact (hm.hd.kept hg (hne gH l2)).kept hs (fun e => by injection e with e; omega)
  · exact (hm.out.kept hg (hne gO l3)).kept hs (fun e => by injection e with e; omega)
  · have := (hm.row.kept hg (hne gC l4)).set i (.slice (some ⟨g, 0, none⟩) n cap)
    rw [List.setIfInBounds_toArray] at this
    exact this
  · rw [List.length_set]; exact hm.len
  · intro j hj
    rw [List.length_set] at hj
    by_cases hij : i = j
    · subst hij
      rw [getD_set_eq _ _ _ _ hi, getD_set_eq _ _ _ _ (by omega)]
      have hgc : Value.ownBlock (.slice (some ⟨g, 0, none⟩) n cap) ≠ some gC := fun e => by
        have e' : g = gC := by simpa [Value.ownBlock] using e
        omega
      exact World.ownsRow.kept hown hs (.inr hgc)
    · rw [getD_set_ne _ _ _ _ _ hij, getD_set_ne _ _ _ _ _ hij]
      have h1 := hm.own j hj
      have h2 : Own w1 base (vs.getD j undef) (acc.getD j []) := by
        refine World.ownsRow.kept h1 hg ?_
        cases hq : (vs.getD j undef).ownBlock with
        | none => exact .inl rfl
        | some q =>
          refine .inr (fun e => ?_)
          rcases Nat.lt_or_gt_of_ne hij with hlt | hlt
          · exact hm.apartV i j q hlt hj e.symm hq
          · exact hm.apartV j i q hlt hi hq e.symm
      refine World.ownsRow.kept h2 hs ?_
      cases hq : (vs.getD j undef).ownBlock with
      | none => exact .inl rfl
      | some q => exact .inr (fun e => by injection e with e; have := (hvlt j q hj hq).1; omega)
  · intro j k q hjk hk hq
    rw [List.length_set] at hk
    by_cases hij : i = j
    · subst hij
      rw [getD_set_eq _ _ _ _ (by omega)] at hq
      have e' : g = q := by simpa [Value.ownBlock] using hq
      subst e'
      rw [getD_set_ne _ _ _ _ _ (by omega)]
      intro e
      rcases hat with hat | hat
      · exact hm.apartV i k g hjk hk hat e
      · have := (hvlt k g hk e).2; omega
    · rw [getD_set_ne _ _ _ _ _ hij] at hq
      by_cases hik : i = k
      · subst hik
        rw [getD_set_eq _ _ _ _ hk]
        intro e
        have e' : g = q := by simpa [Value.ownBlock] using e
        subst e'
        rcases hat with hat | hat
        · exact hm.apartV j i g hjk hk hq hat
        · have := (hvlt j g (by omega) hq).2; omega
      · rw [getD_set_ne _ _ _ _ _ hik]
        exact hm.apartV j k q hjk hk hq

/-- at the end -/
theorem DMem.subs (hm : DMem w wr r gH gO gC base h vs acc) (hl : DLie w r b gH gO gC base) (hbase : w.heap.size ≤ base) (hal : acc.length = vs.length) (hc : h.channels ≤ 2) : Subs wr w.heap.size (.slice (some ⟨gC, 0, none⟩) h.channels h.channels) vs acc := by
  refine ⟨⟨by omega, .inr ⟨gC, h.channels, vs.toArray, by rw [hm.len], hl.c0, hm.row, by rw [hm.len]; exact Nat.le_refl _, by unfold maxLen; omega, by simp [hm.len], by simp⟩⟩, hal.symm, fun i hi => Own.mono (hm.own i hi) hbase, ?_, hm.apartV⟩
  intro i q hi hq e
  have e' : gC = q := by simpa [Value.ownBlock] using e
  have := ((hm.own i hi).lt q hq).1
  have := hl.cb
  omega
end

theorem Chs.kept {w w' : World} {base : Nat} {v : Value} {chs : List (List Int)} {row : Option Nat} (h : Chs w base v chs) (hg : w.grownBy w' row) (hr : ∀ q, row = some q → q < base) : Chs w' base v chs := by
  obtain ⟨lg, lcap, rfl, hb, hc⟩ := h
  refine ⟨lg, lcap, rfl, hb, fun i hi => ?_⟩
  obtain ⟨g, cap, h1, h2⟩ := hc i hi
  have hlt := h2.lt
  refine ⟨g, cap, hg.cell h1 (fun e => ?_), World.ownsRow.kept h2 hg (.inr (fun e => ?_))⟩
  · have := hr lg e.symm
    omega
  · have := hr g e.symm
    omega

/-- up to channel `k` the lists have grown -/
def GrownUpto (acc chs acc' : List (List Int)) (c k : Nat) : Prop := acc'.length = c ∧ ∀ j, j < c → acc'.getD j [] = if j < k then acc.getD j [] ++ chs.getD j [] else acc.getD j []

theorem GrownUpto.start (acc chs : List (List Int)) (c : Nat) (h : acc.length = c) : GrownUpto acc chs acc c 0 := ⟨h, fun j _ => by rw [if_neg (by omega)]⟩

theorem GrownUpto.step {acc chs acc' : List (List Int)} {c k : Nat} (h : GrownUpto acc chs acc' c k) (hk : k < c) : GrownUpto acc chs (acc'.set k (acc.getD k [] ++ chs.getD k [])) c (k + 1) := by
  refine ⟨by rw [List.length_set]; exact h.1, fun j hj => ?_⟩
  by_cases e : k = j
  · subst e
    rw [getD_set_eq _ _ _ _ (by rw [h.1]; exact hk), if_pos (by omega)]
  · rw [getD_set_ne _ _ _ _ _ e, h.2 j hj]
    by_cases hjk : j < k
    · rw [if_pos hjk, if_pos (by omega)]
    · rw [if_neg hjk, if_neg (by omega)]

theorem GrownUpto.all {acc chs acc' : List (List Int)} {c : Nat} (h : GrownUpto acc chs acc' c c) (h1 : acc.length = c) (h2 : chs.length = c) : acc' = List.zipWith (· ++ ·) acc chs := by
  apply List.ext_getElem?
  intro j
  rcases Nat.lt_or_ge j c with hj | hj
  · have e1 := h.2 j hj
    rw [if_pos hj, ← zip_append_get acc chs c h1 h2 j hj] at e1
    have l1 : acc'[j]? = some (acc'[j]'(by rw [h.1]; exact hj)) := List.getElem?_eq_getElem (by rw [h.1]; exact hj)
    have l2 : (List.zipWith (· ++ ·) acc chs)[j]? = some ((List.zipWith (· ++ ·) acc chs)[j]'(by rw [List.length_zipWith]; omega)) := List.getElem?_eq_getElem (by rw [List.length_zipWith]; omega)
    simp only [List.getD, l1, l2, Option.getD_some] at e1
    rw [l1, l2, e1]
  · rw [List.getElem?_eq_none (by rw [h.1]; exact hj), List.getElem?_eq_none (by rw [List.length_zipWith]; omega)]

/-- the cells of a row, as an append reads them -/
theorem row_news {w : World} {base g n cap : Nat} {ys : List Int} (h : Row w base g n cap ys) : ∀ j u, (ys.map (Value.int .i64))[j]? = some u → w.cell? ((⟨g, 0, none⟩ : Addr).add j) = some u := by
  intro j u hj
  have hl := h.len
  have hjn : j < ys.length := by
    rcases Nat.lt_or_ge j ys.length with h1 | h1
    · exact h1
    · rw [List.getElem?_eq_none (by simpa using h1)] at hj; cases hj
  have ea : (⟨g, 0, none⟩ : Addr).add j = ⟨g, j, none⟩ := by
    unfold Addr.add
    split
    · rename_i e; rw [e]
    · simp
  have e9 : ys[j]? = some (ys[j]'hjn) := List.getElem?_eq_getElem hjn
  rw [ea, h.cell j (by omega), ← hj, List.getElem?_map, List.getD, e9]
  rfl

/-- the loop over the channels, at channel `k` -/
def InInv (w wq : World) (s : ByteArray) (r b gH gO gC base B1 : Nat) (h : Head) (v : Value) (acc chs : List (List Int)) (bits : List Bool) (k : Nat) : Prop :=
  ∃ (acc' : List (List Int)) (vs' : List Value), DMem w wq r gH gO gC base h vs' acc' ∧ St 86 wq b s (some bits) ∧ base ≤ wq.heap.size ∧ Chs wq B1 v chs ∧ GrownUpto acc chs acc' h.channels k ∧
    ∀ j q, k ≤ j → j < h.channels → (vs'.getD j undef).ownBlock = some q → q < B1

theorem grown_undrew {w w' : World} {row : Option Nat} {d : Nat} (h : (w.drewN d).grownBy w' row) : w.grownBy w' row := ⟨h.os, h.tape, h.output, h.size, h.block⟩

theorem in_step {w wq w1 : World} {s : ByteArray} {r b gH gO gC base B1 : Nat} {h : Head} {v : Value} {acc chs acc' : List (List Int)} {vs' : List Value} {bits : List Bool} {k g cap n : Nat}
    (hl : DLie w r b gH gO gC base) (hB : base ≤ B1) (hk : k < h.channels) (hm : DMem w wq r gH gO gC base h vs' acc') (hst : St 86 wq b s (some bits)) (hbs : base ≤ wq.heap.size) (hchs : Chs wq B1 v chs)
    (hup : GrownUpto acc chs acc' h.channels k) (hF : ∀ j q, k ≤ j → j < h.channels → (vs'.getD j undef).ownBlock = some q → q < B1)
    (hg : wq.grownBy w1 (vs'.getD k undef).ownBlock) (hown : Own w1 base (.slice (some ⟨g, 0, none⟩) n cap) (acc.getD k [] ++ chs.getD k [])) (hat : (vs'.getD k undef).ownBlock = some g ∨ g = wq.heap.size) :
    InInv w (w1.setCell ⟨gC, k, none⟩ (.slice (some ⟨g, 0, none⟩) n cap)) s r b gH gO gC base B1 h v acc chs bits (k + 1) := by
  have hvl := hm.len
  have hal := hup.1
  have hstep := hm.step hl (zs := acc.getD k [] ++ chs.getD k []) (by omega) (by omega) hg hown hat
  have hs := hstep.2.2
  have hcb := hl.cb
  have hbb := hl.bb
  have hbc := hl.bc
  refine ⟨_, _, hstep.1, (hst.kept hg (fun e => ?_)).kept hs (fun e => by injection e with e; omega), Nat.le_trans (Nat.le_trans hbs hg.size) hs.size, (hchs.kept hg (fun q e => hF k q (Nat.le_refl _) hk e)).kept hs (fun q e => by injection e with e; omega),
    hup.step hk, fun j q hj hj2 hq => ?_⟩
  · have := ((hm.own k (by omega)).lt b e.symm).1
    omega
  · rw [getD_set_ne _ _ _ _ _ (by omega)] at hq
    exact hF j q (by omega) hj2 hq

theorem three_cells (w : World) (g : Nat) (z0 z1 z2 : Value) (t : TypeId) (v0 v1 v2 : Value) (h : Box w g #[z0, z1, z2] t) :
    Box (((w.setCell ⟨g, 0, none⟩ v0).setCell ⟨g, 1, none⟩ v1).setCell ⟨g, 2, none⟩ v2) g #[v0, v1, v2] t ∧
    w.grownBy (((w.setCell ⟨g, 0, none⟩ v0).setCell ⟨g, 1, none⟩ v1).setCell ⟨g, 2, none⟩ v2) (some g) :=
  ⟨((h.set 0 v0).set 1 v1).set 2 v2, grown_trans (grown_trans (grown_set _ _ _ _) (grown_set _ _ _ _)) (grown_set _ _ _ _)⟩

/-- an error is answered -/
theorem dec_err {w X : World} {r er place : Nat} {s : ByteArray} (hg : w.grownBy X none) (hr : w.heap.size ≤ r) (hb : Box X r #[.int .i64 0, .int .i64 0, .slice none 0 0] 26) (hd : decode s.data.toList = .err er place) :
    Box (((X.setCell ⟨r, 0, none⟩ (.int .i64 0)).setCell ⟨r, 1, none⟩ (.int .i64 0)).setCell ⟨r, 2, none⟩ (.slice none 0 0)) r #[.int .i64 0, .int .i64 0, .slice none 0 0] 26 ∧
    DecPost w s (.returned (.tuple #[noSound, .int .i64 er, .int .i64 place])) (((X.setCell ⟨r, 0, none⟩ (.int .i64 0)).setCell ⟨r, 1, none⟩ (.int .i64 0)).setCell ⟨r, 2, none⟩ (.slice none 0 0)) := by
  have h3 := three_cells X r _ _ _ _ (.int .i64 0) (.int .i64 0) (.slice none 0 0) hb
  refine ⟨h3.1, grown_new hg h3.2 (fun g e => by injection e with e; omega), ?_⟩
  rw [hd]

theorem pMore_left : ∀ (fuel : Nat) (l r : List Bool) (u : Unit), pMore fuel l = some (u, r) → l.length % 8 = 0 → r.length % 8 = 0 ∧ r.length ≤ l.length
  | 0, l, r, u, e, _ => by cases e
  | fuel + 1, l, r, u, e, h8 => by
    obtain ⟨⟨⟨last, kind, size⟩, r1⟩, e1, e⟩ := Option.bind_eq_some_iff.mp (show (pBlock l).bind _ = _ from e)
    have h1 := block_left e1
    simp only at e
    split at e
    · cases e
    · split at e
      · injection e with e
        injection e with _ e
        subst e
        rw [List.length_drop]
        omega
      · have := pMore_left fuel _ r u e (by rw [List.length_drop]; omega)
        rw [List.length_drop] at this
        omega

theorem info_ok {l r : List Bool} {h : Head} (e : pInfo l = some (h, r)) : headOk h = true ∧ 1 ≤ h.channels := by
  unfold pInfo at e
  obtain ⟨⟨a1, r1⟩, e1, e⟩ := Option.bind_eq_some_iff.mp e
  obtain ⟨⟨a2, r2⟩, e2, e⟩ := Option.bind_eq_some_iff.mp e
  obtain ⟨⟨a3, r3⟩, e3, e⟩ := Option.bind_eq_some_iff.mp e
  obtain ⟨⟨a4, r4⟩, e4, e⟩ := Option.bind_eq_some_iff.mp e
  obtain ⟨⟨a5, r5⟩, e5, e⟩ := Option.bind_eq_some_iff.mp e
  obtain ⟨⟨a6, r6⟩, e6, e⟩ := Option.bind_eq_some_iff.mp e
  obtain ⟨⟨a7, r7⟩, e7, e⟩ := Option.bind_eq_some_iff.mp e
  obtain ⟨⟨a8, r8⟩, e8, e⟩ := Option.bind_eq_some_iff.mp e
  simp only at e
  split at e
  · rename_i hc
    injection e with e
    injection e with e _
    subst e
    exact ⟨hc, by show 1 ≤ a5 + 1; omega⟩
  · cases e

theorem pBlocks_spec {l r : List Bool} {h : Head} (e : pBlocks l = some (h, r)) (h8 : l.length % 8 = 0) : r.length % 8 = 0 ∧ r.length ≤ l.length ∧ headOk h = true ∧ 1 ≤ h.channels := by
  unfold pBlocks at e
  obtain ⟨⟨a1, r1⟩, e1, e⟩ := Option.bind_eq_some_iff.mp e
  obtain ⟨⟨a2, r2⟩, e2, e⟩ := Option.bind_eq_some_iff.mp e
  obtain ⟨⟨a3, r3⟩, e3, e⟩ := Option.bind_eq_some_iff.mp e
  obtain ⟨⟨a4, r4⟩, e4, e⟩ := Option.bind_eq_some_iff.mp e
  obtain ⟨⟨⟨last, kind, size⟩, r5⟩, e5, e⟩ := Option.bind_eq_some_iff.mp e
  have n1 := pmust_left e1
  have n2 := pmust_left e2
  have n3 := pmust_left e3
  have n4 := pmust_left e4
  have n5 := block_left e5
  simp only at e n1 n2 n3 n4 n5
  split at e
  · obtain ⟨⟨h', r6⟩, e6, e⟩ := Option.bind_eq_some_iff.mp e
    have n6 := info_left e6
    have hok := info_ok e6
    simp only at e n6
    split at e
    · injection e with e
      injection e with e7 e8
      subst e7
      subst e8
      exact ⟨by omega, by omega, hok.1, hok.2⟩
    · cases hm : pMore l.length r6 with
      | none => rw [hm] at e; cases e
      | some x =>
        obtain ⟨u, r7⟩ := x
        rw [hm] at e
        injection e with e
        injection e with e7 e8
        subst e7
        subst e8
        have := pMore_left _ _ _ _ hm (by omega)
        exact ⟨this.1, by show r7.length ≤ _; omega, hok.1, hok.2⟩
  · cases e
end Go.Proofs.Ytncmgnmcggkhnaa

namespace Go.Proofs.Ytncmgnmcggkhnaa
open Go.RowKit

/-- the program's reader: alive, or at the end with the mark set -/
def Sp (w : World) (b : Nat) (s : ByteArray) : Option (List Bool) → Prop
  | some l => Live 169 w b s l
  | none => Rd 169 w b s (8 * s.size) true

theorem Sp.lt {w : World} {b : Nat} {s : ByteArray} {σ : Option (List Bool)} (h : Sp w b s σ) : b < w.heap.size := by
  cases σ with
  | none => exact Rd.lt h
  | some l => obtain ⟨a, _, _, h⟩ := h; exact h.lt

theorem Sp.kept {w w' : World} {b : Nat} {s : ByteArray} {σ : Option (List Bool)} {row : Option Nat} (h : Sp w b s σ) (hg : w.grownBy w' row) (hne : some b ≠ row) : Sp w' b s σ := by
  cases σ with
  | none => exact Rd.kept h hg hne
  | some l => obtain ⟨a, ha, hl, h⟩ := h; exact ⟨a, ha, hl, h.kept hg hne⟩

theorem Sp.drewN {w : World} {b : Nat} {s : ByteArray} {σ : Option (List Bool)} (h : Sp w b s σ) (n : Nat) : Sp (w.drewN n) b s σ :=
  h.kept (grown_drewN (grown_refl _ none) n) (by simp)

/-- the place, in one form -/
theorem Sp.rd {w : World} {b : Nat} {s : ByteArray} {σ : Option (List Bool)} (h : Sp w b s σ) :
    ∃ a, a ≤ 8 * s.size ∧ Rd 169 w b s a σ.isNone ∧ (σ = none → a = 8 * s.size) ∧ ∀ l, σ = some l → l = (bitsOf s.data.toList).drop a ∧ a + l.length = 8 * s.size := by
  cases σ with
  | none => exact ⟨8 * s.size, Nat.le_refl _, h, fun _ => rfl, fun l e => by cases e⟩
  | some l =>
    obtain ⟨a, ha, hl, h⟩ := h
    refine ⟨a, ha, h, fun e => (by cases e), fun l' e => ?_⟩
    cases e
    refine ⟨hl, ?_⟩
    rw [hl, List.length_drop, total_bits]
    omega

set_option maxHeartbeats 400000 in
theorem qbit_next (w : World) (b : Nat) (s : ByteArray) (a : Nat) (hs : s.size ≤ 6000) (ha : a < 8 * s.size) (h : Rd 169 w b s a false) :
    Calls Try.prog 113 #[.pointer (some ⟨b, 0, none⟩)] w fun e w' => e = .returned (.int .i64 (((bitsOf s.data.toList)[a]'(by rw [total_bits]; exact ha)).toNat : Nat)) ∧ Rd 169 w' b s (a + 1) false ∧ w.grownBy w' (some b) := by
  have c0 := h.c0
  have c1 := h.c1
  have f1 := h.fz 1
  have h8 : a / 8 < s.size := by omega
  have hbyte : s[a / 8].toNat < 256 := s[a / 8].toNat_lt
  have hq0 : (0 : Int) ≤ (a : Int) / 8 := by omega
  have hq1 : (a : Int) / 8 < (s.size : Int) := by omega
  have hq2 : IntKind.i64.wrap ((a : Int) / 8) = (a : Int) / 8 := by rw [IntKind.wrap_i64]; omega
  go_enter Try.func113, Try.ntmps113
  go_wp2
  go_quiet (fail)
  go_wp2
  go_ret
  exact ⟨ret_int (bit_read s a ha h8), (h.drewN _).set1 (a + 1), grown_trans (grown_drewN (grown_refl _ _) _) (grown_set _ _ _ _)⟩

theorem qbit (w : World) (b : Nat) (s : ByteArray) (c : Bool) (l : List Bool) (hs : s.size ≤ 6000) (h : Sp w b s (some (c :: l))) :
    Calls Try.prog 113 #[.pointer (some ⟨b, 0, none⟩)] w fun e w' => e = .returned (.int .i64 (c.toNat : Nat)) ∧ Sp w' b s (some l) ∧ w.grownBy w' (some b) := by
  obtain ⟨a, ha, hl, h⟩ := h
  have hlt : a < 8 * s.size := by
    rcases Nat.lt_or_ge a (8 * s.size) with h1 | h1
    · exact h1
    · rw [List.drop_of_length_le (by rw [total_bits]; exact h1)] at hl
      cases hl
  rw [List.drop_eq_getElem_cons (by rw [total_bits]; exact hlt)] at hl
  injection hl with hc hl
  refine (qbit_next w b s a hs hlt h).mono ?_
  rintro e w' ⟨rfl, h', hg⟩
  exact ⟨by rw [hc], ⟨a + 1, by omega, hl, h'⟩, hg⟩

set_option maxHeartbeats 400000 in
theorem qleft (w : World) (b : Nat) (s : ByteArray) (a : Nat) (m : Bool) (hs : s.size ≤ 6000) (ha : a ≤ 8 * s.size) (h : Rd 169 w b s a m) :
    Calls Try.prog 111 #[.pointer (some ⟨b, 0, none⟩)] w fun e w' => e = .returned (.int .i64 ((8 * s.size - a : Nat) : Int)) ∧ ∃ d, w' = w.drewN d := by
  have c0 := h.c0
  have c1 := h.c1
  go_enter Try.func111, Try.ntmps111
  go_wp2
  go_quiet (fail)
  go_wp2
  go_ret
  exact ⟨ret_int (by omega), _, rfl⟩

set_option maxHeartbeats 400000 in
theorem qend (w : World) (b : Nat) (s : ByteArray) (a : Nat) (m : Bool) (hs : s.size ≤ 6000) (h : Rd 169 w b s a m) :
    Calls Try.prog 112 #[.pointer (some ⟨b, 0, none⟩)] w fun e w' => e = .returned (.tuple #[]) ∧ Sp w' b s none ∧ w.grownBy w' (some b) := by
  have c0 := h.c0
  have c1 := h.c1
  have c2 := h.c2
  have f1 := h.fz 1
  have f2 := h.fz 2
  go_enter Try.func112, Try.ntmps112
  go_wp2
  go_end0
  exact ⟨rfl, (h.set1 (8 * s.size)).set2 true, grown_trans (grown_set _ _ _ _) (grown_set _ _ _ _)⟩

theorem or_bit (v c : Nat) (hv : 2 * v < 9223372036854775808) (hc : c ≤ 1) : bits .or .i64 ((v : Int) * 2) (c : Int) = ((2 * v + c : Nat) : Int) := by
  rw [show ((v : Int) * 2) = ((2 * v : Nat) : Int) by omega]
  have e0 : 2 * v + c = 2 * v ||| c := Nat.two_pow_add_eq_or_of_lt (i := 1) (b := c) (by omega) v
  have h1 : (BitVec.ofInt 64 ((2 * v : Nat) : Int)).toNat = 2 * v := by
    rw [BitVec.ofInt_natCast, BitVec.toNat_ofNat]; exact Nat.mod_eq_of_lt (by omega)
  have h2 : (BitVec.ofInt 64 (c : Int)).toNat = c := by
    rw [BitVec.ofInt_natCast, BitVec.toNat_ofNat]; exact Nat.mod_eq_of_lt (by omega)
  show IntKind.i64.wrap ((BitVec.ofInt 64 ((2 * v : Nat) : Int) ||| BitVec.ofInt 64 (c : Int)).toNat : Int) = _
  rw [BitVec.toNat_or, h1, h2, IntKind.wrap_i64, ← e0]
  omega

def NumPost (w : World) (b : Nat) (s : ByteArray) (n : Nat) (σ : Option (List Bool)) (e : Ending) (w' : World) : Prop :=
  ∃ (v : Nat) (σ' : Option (List Bool)), e = .returned (.int .i64 v) ∧ v < 2 ^ n ∧ (σ' = none → v = 0) ∧ w.grownBy w' (some b) ∧ Sp w' b s σ' ∧ Ends (pNum n) σ v σ'

set_option maxHeartbeats 1000000 in
theorem qnum (w : World) (b : Nat) (s : ByteArray) (n : Nat) (σ : Option (List Bool)) (hs : s.size ≤ 6000) (hn : n ≤ 48) (h : Sp w b s σ) :
    Calls Try.prog 89 #[.pointer (some ⟨b, 0, none⟩), .int .i64 n] w (NumPost w b s n σ) := by
  obtain ⟨a, ha, hrd, hnone, hsome⟩ := h.rd
  go_enter Try.func89, Try.ntmps89
  go_wp2_with fail
  refine (qleft _ _ _ _ _ hs ha hrd).mono ?_
  rintro e w1 ⟨rfl, d, rfl⟩
  have hrd1 := hrd.drewN d
  have hg1 : w.grownBy (w.drewN d) (some b) := grown_drewN (grown_refl _ _) d
  by_cases hlt : 8 * s.size - a < n
  · go_wp2_with fail
    refine (qend _ _ _ _ _ hs hrd1).mono ?_
    rintro e w2 ⟨rfl, hsp, hg2⟩
    go_wp2
    go_ret
    refine ⟨0, none, rfl, Nat.two_pow_pos _, fun _ => rfl, grown_trans hg1 hg2, hsp, Ends.fail (fun l e => ?_)⟩
    have := (hsome l e).2
    unfold pNum
    rw [if_neg (by omega)]
  · cases σ with
    | none =>
      have hdead : Sp (w.drewN d) b s none := by show Rd _ _ _ _ _ _; rw [← hnone rfl]; exact hrd1
      have := hnone rfl
      clear hnone hsome
      obtain rfl : n = 0 := by omega
      go_wp2
      go_loop [5, 13] (fun o i => o = .int .i64 0 ∧ i = .int .i64 0) (fun _ _ => 0)
      case atStart => exact ⟨rfl, rfl⟩
      case round =>
        obtain ⟨rfl, rfl⟩ := hrel
        go_wp2
        go_ret
        exact ⟨0, none, rfl, Nat.two_pow_pos _, fun _ => rfl, hg1, hdead, rfl⟩
    | some l =>
      have hl := (hsome l rfl).2
      have hnl : n ≤ l.length := by omega
      have hsp1 : Sp (w.drewN d) b s (some l) := ⟨a, ha, (hsome l rfl).1, hrd1⟩
      clear hrd hrd1 hnone hsome h
      go_wp2
      go_loopw [5, 13] (fun o i wr => ∃ k v : Nat, k ≤ n ∧ i = .int .i64 k ∧ o = .int .i64 v ∧ v < 2 ^ k ∧ w.grownBy wr (some b) ∧ Hid (v = val (l.take k)) ∧ Sp wr b s (some (l.drop k)))
        (fun _ i _ => n - (intOf i).toNat)
      case atStart => exact ⟨0, 0, Nat.zero_le _, rfl, rfl, by decide, hg1, rfl, hsp1⟩
      case round =>
        obtain ⟨k, v, hk, rfl, rfl, hv, hg, HV, hsp⟩ := hrel
        have hp := pow48 k (by omega)
        by_cases hkn : k < n
        · have hk2 : k < l.length := by omega
          rw [List.drop_eq_getElem_cons hk2] at hsp
          have hone : (l[k]).toNat ≤ 1 := Bool.toNat_le _
          have hor := or_bit v (l[k]).toNat (by omega) hone
          go_wp2_with (go_at_call 113; refine (qbit _ _ _ _ _ hs hsp).mono ?_; rintro e w' ⟨rfl, hsp', hg'⟩)
          refine ⟨⟨k + 1, 2 * v + (l[k]).toNat, by omega, by go_num, by go_num, by rw [Nat.pow_succ]; omega, grown_trans hg hg', (by rw [val_take_succ l k hk2, HV.out] : 2 * v + (l[k]).toNat = val (l.take (k + 1))), hsp'⟩, by simp [intOf]; omega⟩
        · obtain rfl : k = n := by omega
          go_wp2
          go_ret
          refine ⟨v, some (l.drop k), rfl, hv, fun e => (by cases e), hg, hsp, ?_⟩
          simp [Ends, pNum, hnl, HV.out]
end Go.Proofs.Ytncmgnmcggkhnaa

namespace Go.Proofs.Ytncmgnmcggkhnaa
open Go.RowKit

theorem div_one_iff (n v : Nat) (hn : 0 < n) (hv : v < 2 ^ n) : ((v : Int) / 2 ^ (n - 1) == 1) = decide (2 ^ (n - 1) ≤ v) := by
  obtain ⟨m, rfl⟩ : ∃ m, n = m + 1 := ⟨n - 1, by omega⟩
  have hp := Nat.two_pow_pos m
  rw [Nat.pow_succ] at hv
  have e : ((v : Int) / 2 ^ (m + 1 - 1)) = ((v / 2 ^ m : Nat) : Int) := by simp
  rw [e, Bool.eq_iff_iff]
  simp only [beq_iff_eq, decide_eq_true_eq, Nat.add_sub_cancel]
  have h1 : v / 2 ^ m < 2 := by rw [Nat.div_lt_iff_lt_mul hp]; omega
  constructor
  · intro h
    have h2 : v / 2 ^ m = 1 := by omega
    rcases Nat.lt_or_ge v (2 ^ m) with h3 | h3
    · rw [Nat.div_eq_of_lt h3] at h2; omega
    · exact h3
  · intro h
    have : 1 ≤ v / 2 ^ m := (Nat.le_div_iff_mul_le hp).2 (by omega)
    omega

def SgnPost (w : World) (b : Nat) (s : ByteArray) (n : Nat) (σ : Option (List Bool)) (e : Ending) (w' : World) : Prop :=
  ∃ (v : Nat) (σ' : Option (List Bool)), e = .returned (.int .i64 (sign n v)) ∧ v < 2 ^ n ∧ (σ' = none → v = 0) ∧ w.grownBy w' (some b) ∧ Sp w' b s σ' ∧ Ends (pSigned n) σ (sign n v) σ'

set_option maxHeartbeats 400000 in
theorem qsigned (w : World) (b : Nat) (s : ByteArray) (n : Nat) (σ : Option (List Bool)) (hs : s.size ≤ 6000) (hn : n ≤ 32) (h : Sp w b s σ) :
    Calls Try.prog 130 #[.pointer (some ⟨b, 0, none⟩), .int .i64 n] w (SgnPost w b s n σ) := by
  go_enter Try.func130, Try.ntmps130
  go_wp2_with fail
  refine (qnum _ _ _ _ _ hs (by omega) h).mono ?_
  rintro e w' ⟨v, σ', rfl, hv, hz, hg, hsp, hends⟩
  have HZ : Hid (σ' = none → v = 0) := hz
  clear hz
  rcases Nat.eq_zero_or_pos n with rfl | h0
  · go_wp2
    go_ret
    exact ⟨v, σ', ret_int (by rw [sign_zero v hv]; exact congrArg Int.ofNat (show v = 0 by simpa using hv)), hv, HZ.out, hg, hsp, signed_ends hends⟩
  · have q1 := ipow (n - 1) (by omega)
    have q2 := ipow n (by omega)
    have q3 : (v : Int) < 2 ^ n := by rw [show (2 : Int) ^ n = ((2 ^ n : Nat) : Int) by simp]; omega
    have hdiv := div_one_iff n v h0 hv
    have hq : IntKind.i64.wrap ((v : Int) - 2 ^ n) = (v : Int) - 2 ^ n := by rw [IntKind.wrap_i64]; omega
    by_cases hge : 2 ^ (n - 1) ≤ v
    · rw [decide_eq_true hge] at hdiv
      have HGE : Hid (2 ^ (n - 1) ≤ v) := hge
      clear hge
      go_wp2
      go_ret
      exact ⟨v, σ', ret_int (by rw [sign_neg n v h0 HGE.out]), hv, HZ.out, hg, hsp, signed_ends hends⟩
    · rw [decide_eq_false hge] at hdiv
      have HGE : Hid (v < 2 ^ (n - 1)) := by show _ < _; omega
      clear hge
      go_wp2
      go_ret
      exact ⟨v, σ', ret_int (by rw [sign_pos n v HGE.out]), hv, HZ.out, hg, hsp, signed_ends hends⟩

def ZerPost (w : World) (b : Nat) (s : ByteArray) (σ : Option (List Bool)) (e : Ending) (w' : World) : Prop :=
  ∃ (q : Nat) (σ' : Option (List Bool)), e = .returned (.int .i64 q) ∧ q ≤ 48000 ∧ (σ' = none → q = 0) ∧ w.grownBy w' (some b) ∧ Sp w' b s σ' ∧ Ends pNoughts σ q σ'

theorem noughts_nil (l : List Bool) (k : Nat) (h : pNoughts l = (pNoughts []).map fun (q, r) => (q + k, r)) : pNoughts l = none := h

set_option maxHeartbeats 400000 in
theorem qzeros (w : World) (b : Nat) (s : ByteArray) (σ : Option (List Bool)) (hs : s.size ≤ 6000) (h : Sp w b s σ) :
    Calls Try.prog 122 #[.pointer (some ⟨b, 0, none⟩)] w (ZerPost w b s σ) := by
  obtain ⟨a, ha, hrd, hnone, hsome⟩ := h.rd
  go_enter Try.func122, Try.ntmps122
  go_wp2_with fail
  refine (qleft _ _ _ _ _ hs ha hrd).mono ?_
  rintro e w1 ⟨rfl, d, rfl⟩
  have hrd1 := hrd.drewN d
  have hsp1 := h.drewN d
  have hg1 : w.grownBy (w.drewN d) (some b) := grown_drewN (grown_refl _ _) d
  obtain ⟨L, hL⟩ : ∃ L, 8 * s.size - a = L := ⟨_, rfl⟩
  have hL2 : L ≤ 48000 := by omega
  have HS0 : Hid (∃ l', (match σ with | some l => l' = l | none => l' = []) ∧ l'.length = L) := by
    cases σ with
    | none => exact ⟨[], rfl, by have := hnone rfl; simp; omega⟩
    | some l => exact ⟨l, rfl, by have := (hsome l rfl).2; omega⟩
  rw [hL]
  clear hrd hrd1 hnone hsome h hL
  go_wp2_with fail
  go_loopw [6] (fun i wr => ∃ k : Nat, i = .int .i64 k ∧ k ≤ L ∧ w.grownBy wr (some b) ∧
      ((∃ l l' : List Bool, σ = some l ∧ Sp wr b s (some l') ∧ l'.length + k = L ∧ pNoughts l = (pNoughts l').map fun (q, r) => (q + k, r)) ∨ (σ = none ∧ L = 0 ∧ Sp wr b s none)))
    (fun i _ => L - (intOf i).toNat)
  case atStart =>
    refine ⟨0, rfl, by omega, hg1, ?_⟩
    obtain ⟨l', h1, h2⟩ := HS0.out
    cases σ with
    | none => exact .inr ⟨rfl, by rw [← h2, h1]; rfl, hsp1⟩
    | some l => exact .inl ⟨l, l, rfl, hsp1, by rw [← h2, h1]; rfl, by cases pNoughts l <;> rfl⟩
  case round =>
    obtain ⟨k, rfl, hk, hg, ⟨l, l', rfl, hsp, hkl, hno⟩ | ⟨rfl, rfl, hsp⟩⟩ := hrel
    · have HNO : Hid (pNoughts l = (pNoughts l').map fun (q, r) => (q + k, r)) := hno
      clear hno
      rcases l' with _ | ⟨c, m⟩
      · obtain ⟨a2, ha2, hrd2, _, _⟩ := hsp.rd
        simp at hkl
        have hkL : decide ((k : Int) < (L : Int)) = false := decide_eq_false (by omega)
        go_wp2_with (go_at_call 112; refine (qend _ _ _ _ _ hs hrd2).mono ?_; rintro e w' ⟨rfl, hsp', hg'⟩)
        go_ret
        exact ⟨0, none, rfl, by omega, fun _ => rfl, grown_trans hg hg', hsp', Ends.fail (fun l0 e => by cases e; exact noughts_nil _ _ HNO.out)⟩
      · simp only [List.length_cons] at hkl
        rcases c with _ | _
        · go_wp2_with (go_at_call 113; refine (qbit _ _ _ _ _ hs hsp).mono ?_; rintro e w' ⟨rfl, hsp', hg'⟩)
          go_roundw
          case rel => exact ⟨k + 1, by go_num, by omega, grown_trans hg hg', .inl ⟨l, m, rfl, hsp', by omega, noughts_step l _ k HNO.out false m rfl⟩⟩
          case measure => simp [intOf]; omega
        · go_wp2_with (go_at_call 113; refine (qbit _ _ _ _ _ hs hsp).mono ?_; rintro e w' ⟨rfl, hsp', hg'⟩)
          go_ret
          refine ⟨k, some m, rfl, by omega, fun e => (by cases e), grown_trans hg hg', hsp', ?_⟩
          have := noughts_step l _ k HNO.out true m rfl
          simp [Ends, this]
    · obtain ⟨a2, ha2, hrd2, _, _⟩ := hsp.rd
      have hkL : decide ((k : Int) < 0) = false := decide_eq_false (by omega)
      go_wp2_with (go_at_call 112; refine (qend _ _ _ _ _ hs hrd2).mono ?_; rintro e w' ⟨rfl, hsp', hg'⟩)
      go_ret
      exact ⟨0, none, rfl, by omega, fun _ => rfl, grown_trans hg hg', hsp', Ends.dead⟩

set_option maxHeartbeats 400000 in
theorem qover (w : World) (b : Nat) (s : ByteArray) (σ : Option (List Bool)) (h : Sp w b s σ) :
    Calls Try.prog 90 #[.pointer (some ⟨b, 0, none⟩)] w fun e w' => e = .returned (.bool σ.isNone) ∧ w' = w := by
  obtain ⟨a, ha, hrd, _, _⟩ := h.rd
  have c2 := hrd.c2
  go_enter Try.func90, Try.ntmps90
  go_wp2
  go_ret
  exact ⟨rfl, rfl⟩

set_option maxHeartbeats 400000 in
theorem qbytes (w : World) (b : Nat) (s : ByteArray) (a : Nat) (m : Bool) (hs : s.size ≤ 6000) (ha : a ≤ 8 * s.size) (h : Rd 169 w b s a m) :
    Calls Try.prog 88 #[.pointer (some ⟨b, 0, none⟩)] w fun e w' => e = .returned (.int .i64 (((a + 7) / 8 : Nat) : Int)) ∧ w' = w := by
  have c1 := h.c1
  go_enter Try.func88, Try.ntmps88
  go_wp2
  go_ret
  exact ⟨ret_int (by omega), rfl⟩

theorem Box_new (w : World) (cs : Array Value) (t : TypeId) : (w.alloc (.cells cs t)).heap[w.heap.size]? = some (.cells cs t (0, 0)) := by
  show (w.heap.push _)[w.heap.size]? = _
  simp

set_option maxHeartbeats 400000 in
theorem qnew (w : World) (s : ByteArray) :
    Calls Try.prog 85 #[.string s] w fun e w' => e = .returned (.pointer (some ⟨w.heap.size, 0, none⟩)) ∧ Sp w' w.heap.size s (some (bitsOf s.data.toList)) ∧ w.grownBy w' none ∧ w'.heap.size = w.heap.size + 1 := by
  go_enter Try.func85, Try.ntmps85
  go_wp2
  go_ret
  refine ⟨rfl, ⟨0, Nat.zero_le _, rfl, ?_⟩, grown_alloc (grown_refl _ _) _, by simp⟩
  exact Box_new _ _ _

/-- bits up to a byte's end -/
def AlnPost (w : World) (b : Nat) (s : ByteArray) (l : List Bool) (e : Ending) (w' : World) : Prop :=
  ∃ ok : Bool, e = .returned (.bool ok) ∧ w.grownBy w' (some b) ∧ Sp w' b s (some (l.drop (l.length % 8))) ∧ pMust (l.length % 8) 0 l = if ok = true then some ((), l.drop (l.length % 8)) else none

theorem aln_fin {m v : Nat} {l : List Bool} {σ' : Option (List Bool)} (h : Ends (pNum m) (some l) v σ') (hm : m ≤ l.length) :
    σ' = some (l.drop m) ∧ pMust m 0 l = if ((v : Int) == 0) = true then some ((), l.drop m) else none := by
  have e : pNum m l = some (val (l.take m), l.drop m) := by unfold pNum; rw [if_pos hm]
  rcases h.cases with ⟨r, e1, rfl⟩ | ⟨e1, _⟩
  · rw [e] at e1
    injection e1 with e1
    injection e1 with e1 e2
    subst e1
    subst e2
    refine ⟨rfl, ?_⟩
    unfold pMust
    rw [e]
    show (if _ then _ else _) = _
    by_cases h0 : val (l.take m) = 0
    · rw [if_pos h0, if_pos (by simpa using h0)]
    · rw [if_neg h0, if_neg (by simpa using h0)]
  · rw [e] at e1; cases e1

set_option maxHeartbeats 1000000 in
theorem qalign (w : World) (b : Nat) (s : ByteArray) (l : List Bool) (hs : s.size ≤ 6000) (h : Sp w b s (some l)) :
    Calls Try.prog 87 #[.pointer (some ⟨b, 0, none⟩)] w (AlnPost w b s l) := by
  obtain ⟨a, ha, hrd, _, hsome⟩ := h.rd
  have hl := (hsome l rfl).2
  have c1 := hrd.c1
  have hr0 : IntKind.i64.wrap (IntKind.i64.wrap (8 * (((a : Int) + 7) / 8)) - (a : Int)) = ((l.length % 8 : Nat) : Int) := by
    rw [show IntKind.i64.wrap (8 * (((a : Int) + 7) / 8)) = 8 * (((a : Int) + 7) / 8) by rw [IntKind.wrap_i64]; omega, IntKind.wrap_i64]
    omega
  have HR : Hid (IntKind.i64.wrap (IntKind.i64.wrap (8 * (((a : Int) + 7) / 8)) - (a : Int)) = ((l.length % 8 : Nat) : Int)) := hr0
  clear hr0
  have hspd : Sp w.drew b s (some l) := h.drewN 1
  have hrdd : Rd 169 w.drew b s a false := hrd.drew
  have hcall := qnum w.drew b s (l.length % 8) (some l) hs (by omega) hspd
  have hmod : l.length % 8 ≤ l.length := Nat.mod_le _ _
  clear hsome h
  go_enter Try.func87, Try.ntmps87
  go_wp2
  go_region_with (first
    | (go_at_call 88; refine (qbytes _ _ _ _ _ hs ha hrdd).mono ?_; rintro e w1 ⟨rfl, rfl⟩)
    | (go_at_call 89; rw [HR.out]; refine hcall.mono ?_; rintro e w1 ⟨v, σ', rfl, hv, hz, hg, hsp, hends⟩))
  all_goals
    go_wp2
    go_ret
    obtain ⟨h1, h2⟩ := aln_fin hends hmod
    subst h1
    exact ⟨_, rfl, grown_trans (grown_drew (grown_refl _ _)) hg, hsp, h2⟩
end Go.Proofs.Ytncmgnmcggkhnaa
