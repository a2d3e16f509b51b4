import Derived.Test.YtncmgnmcggkhnaaG35
import Derived.Deep.DeepCutAuto
import Derived.Deep.CutBlock
import Derived.Deep.LoopGhost
namespace Go.Proofs.Ytncmgnmcggkhnaa
open Go.RowKit

/-- the book, and nothing that is still written -/
def BookOk (w : World) (b N M : Nat) : Prop :=
  ∃ iv ov us os E, Bk w b iv ov us os E (fun _ => False) ∧ us.length = N ∧ os.length = M ∧ (∀ k, k < us.length → Ent w (fun g _ => E g) (us.getD k undef) (mark1 k)) ∧ (∀ k, k < os.length → Ent2 w E (fun g _ => E g) (os.getD k undef) (mark2 k))

/-- the list of lists is written into, or grows; entries that lie in its block are not longer than `z` -/
structure KO (w0 w : World) (b : Nat) (iv ov : Value) (us os : List Value) (E : Nat → Prop) (gv : Value) (n : Nat) (ws : List Value) (gm : Nat) (m : Int) (z : Option Nat) : Prop where
  bk : Bk w b iv ov us os E (fun g => gv.ownBlock = some g)
  below : Below b w0 w
  gown : w.ownsRow (b + 1) 30 1 gv n ws
  gmE : E gm
  gmc : w.cell? ⟨gm, 0, none⟩ = some (.int .i64 m)
  ints : ∀ k, k < us.length → Ent w (fun g _ => E g) (us.getD k undef) (mark1 k)
  outs : ∀ k, k < os.length → Ent2 w E (fun g n' => E g ∨ (gv.ownBlock = some g ∧ ∃ y, z = some y ∧ n' ≤ y)) (os.getD k undef) (mark2 k)

section
variable {w0 w w1 : World} {b : Nat} {lv : Value} {vs : List Value} {xss : List (List Int)} {iv ov : Value} {us os : List Value} {E : Nat → Prop} {gv : Value} {n : Nat} {m : Int} {ws : List Value} {gm : Nat} {z : Option Nat}

/-- all lists are kept: their list is the last, with a new mark -/
theorem KS.last (h : KS w0 w b lv vs xss vs.length iv ov us os E (.slice none 0 0) 0 m) (m2 : Int) :
    KO w0 (w.alloc (.cells #[.int .i64 m2] 3)) b iv ov us os (fun g => E g ∨ g = w.heap.size) lv vs.length vs w.heap.size m2 none := by
  have hg := grown_alloc (grown_refl w none) (Obj.cells #[.int .i64 m2] 3)
  have hn := h.new hg
  have hbl := h.bk.box.lt
  have hri := World.ownsRow.lt h.bk.ri
  have hro := World.ownsRow.lt h.bk.ro
  have hlv := World.ownsRow.lt h.row
  refine ⟨hn.bk.sets (fun g hgE => ?_) (fun g hgE hk => ?_), hn.below, hn.row, .inr rfl, (Box.new w #[.int .i64 m2] 3).cell 0, fun k hk => (hn.ints k hk).step fun g n' hS => ⟨?_, fun _ _ hc => hc⟩, fun k hk => (hn.outs k hk).step (fun g hg => ⟨.inl hg, rfl⟩) fun g n' hS => ⟨.inl (.inl hS), fun _ _ _ _ hc => hc⟩⟩
  · rcases hgE with (hgE | rfl) | hgE
    · exact hn.bk.dat g (.inl hgE)
    · exact ⟨hbl, by simp, fun e => by have := (hri _ e).2; omega, fun e => by have := (hro _ e).2; omega⟩
    · exact hn.bk.dat g (.inr (.inl (.inl hgE)))
  · rcases hgE with hgE | rfl
    · exact h.bk.far g hgE (.inl (.inl hk))
    · have := (hlv _ hk).2; omega
  · rcases hS with hS | ⟨hS, _⟩
    · exact .inl hS
    · cases hS

theorem KO.new (h : KO w0 w b iv ov us os E gv n ws gm m z) (hg : w.grownBy w1 none) : KO w0 w1 b iv ov us os E gv n ws gm m z := by
  have hbl := h.bk.box.lt
  have hE : ∀ g, E g → g < w.heap.size := fun g hg => (h.bk.dat g (.inl hg)).2.1
  refine ⟨h.bk.data hg (fun g e => by cases e), h.below.grown hg (by omega) (fun k e => by cases e), World.ownsRow.kept h.gown hg (own_side fun g _ => by simp), h.gmE, cell_kept h.gmc hg, fun k hk => (h.ints k hk).step fun g n' hs => ⟨hs, fun j hj hc => cell_kept hc hg⟩, fun k hk => (h.outs k hk).step (fun g hgE => ⟨hgE, ?_⟩) fun g n' hs => ⟨hs, fun j gm cm hj hc => cell_kept hc hg⟩⟩
  exact World.cell?_of_block (w := w) (a := ⟨g, 0, none⟩) (hg.block g (hE g hgE) (by simp))

/-- a cell of it is written -/
theorem KO.write {g cap k : Nat} (h : KO w0 w b iv ov us os E (.slice (some ⟨g, 0, none⟩) n cap) n ws gm m none) (u : Value) :
    KO w0 (w.setCell ⟨g, k, none⟩ u) b iv ov us os E (.slice (some ⟨g, 0, none⟩) n cap) n (ws.set k u) gm m none := by
  have hs := grown_set w g k u
  have hEne : ∀ q, E q → some q ≠ some g := fun q hq e => by injection e with e; subst e; exact h.bk.far q hq rfl
  have hd := h.bk.dat g (.inr rfl)
  refine ⟨h.bk.data hs (fun q e => by injection e with e; subst e; rfl), h.below.setCell (by show b ≤ g; omega) _, (World.ownsRow.stored h.gown k u).1, h.gmE, hs.cell h.gmc (hEne gm h.gmE), fun j hj => (h.ints j hj).step fun q n' hS => ⟨hS, fun _ _ hc => hs.cell hc (hEne q hS)⟩, fun j hj => (h.outs j hj).step (fun q hq => ⟨hq, World.cell?_of_block (w := w) (a := ⟨q, 0, none⟩) (hs.block q (h.bk.dat q (.inl hq)).2.1 (hEne q hq))⟩) fun q n' hS => ?_⟩
  rcases hS with hS | ⟨_, y, e, _⟩
  · exact ⟨.inl hS, fun _ _ _ _ hc => hs.cell hc (hEne q hS)⟩
  · cases e

/-- it begins to grow -/
theorem KO.start (h : KO w0 w b iv ov us os E gv n ws gm m none) : KO w0 w b iv ov us os E gv n ws gm m (some n) :=
  ⟨h.bk, h.below, h.gown, h.gmE, h.gmc, h.ints, fun k hk => (h.outs k hk).step (fun g hg => ⟨hg, rfl⟩) fun g n' hS => ⟨(by
    rcases hS with hS | ⟨_, y, e, _⟩
    · exact .inl hS
    · cases e), fun _ _ _ _ hc => hc⟩⟩

def mv (gm : Nat) : Value := .slice (some ⟨gm, 0, none⟩) 1 1

/-- it is kept as it is -/
theorem KO.push (h : KO w0 w b iv ov us os E gv n (List.replicate n (mv gm)) gm m (some n)) {g cap N : Nat} (hN : N = os.length + 1) (hn : n ≤ 1099511627776) (hm : m = mark2 os.length) (hg : w.grownBy w1 ov.ownBlock) (hown : w1.ownsRow (b + 1) 24 1 (.slice (some ⟨g, 0, none⟩) N cap) N (os ++ [gv]))
    (hat : ov.ownBlock = some g ∨ g = w.heap.size) :
    KO w0 (w1.setCell ⟨b, 1, none⟩ (.slice (some ⟨g, 0, none⟩) N cap)) b iv (.slice (some ⟨g, 0, none⟩) N cap) us (os ++ [gv]) E gv n (List.replicate n (mv gm)) gm m (some n) := by
  have hp := h.bk.pushO hN hg hown hat
  have hs := grown_set w1 b 1 (.slice (some ⟨g, 0, none⟩) N cap)
  have hcell : ∀ q j u, E q ∨ gv.ownBlock = some q → w.cell? ⟨q, j, none⟩ = some u → (w1.setCell ⟨b, 1, none⟩ (.slice (some ⟨g, 0, none⟩) N cap)).cell? ⟨q, j, none⟩ = some u := fun q j u hq hc => cell_block (hp.2.1 q hq) hc
  refine ⟨hp.1, h.below.trans hp.2.2, World.ownsRow.kept (World.ownsRow.kept h.gown hg (own_side fun q hq e => (h.bk.dat q (.inr hq)).2.2.2 e.symm)) hs (own_side fun q hq e => by injection e with e; have := (h.bk.dat q (.inr hq)).1; omega), h.gmE, hcell gm 0 _ (.inl h.gmE) h.gmc, fun k hk => (h.ints k hk).step fun q n' hS => ⟨hS, fun j _ hc => hcell q j _ (.inl hS) hc⟩, fun k hk => ?_⟩
  rw [List.length_append, List.length_singleton] at hk
  by_cases hke : k < os.length
  · rw [show (os ++ [gv]).getD k undef = os.getD k undef by simp [List.getD, List.getElem?_append_left hke]]
    refine (h.outs k hke).step (fun q hq => ⟨hq, World.cell?_of_block (w := w) (a := ⟨q, 0, none⟩) (hp.2.1 q (.inl hq))⟩) fun q n' hS => ⟨hS, fun j _ _ _ hc => hcell q j _ ?_ hc⟩
    rcases hS with hS | ⟨hS, _⟩
    · exact .inl hS
    · exact .inr hS
  · obtain rfl : k = os.length := by omega
    rw [show (os ++ [gv]).getD os.length undef = gv by simp [List.getD]]
    rw [← hm]
    rcases Nat.eq_zero_or_pos n with h0 | hpos
    · rcases h.gown.2 with ⟨rfl, _⟩ | ⟨q, c, cur, hv, _⟩
      · exact ⟨none, 0, 0, by omega, rfl, fun j hj => by omega⟩
      · exact ⟨_, n, c, hn, hv, fun j hj => by omega⟩
    · obtain ⟨q, c, hv, hb, hlt⟩ := World.ownsRow.form h.gown hpos
      refine ⟨_, n, c, hn, hv, fun j hj => ⟨q, gm, 1, rfl, .inr ⟨by rw [hv]; rfl, n, rfl, Nat.le_refl _⟩, h.gmE, ?_, hcell gm 0 _ (.inl h.gmE) h.gmc⟩⟩
      have hgo := h.gown
      rw [hv] at hgo
      have e := World.ownsRow.cellAt hgo j (by omega)
      refine hcell q j _ (.inr (by rw [hv]; rfl)) ?_
      rw [e]
      simp [hj, mv]

/-- it grows by one -/
theorem KO.grow (h : KO w0 w b iv ov us os E gv n (List.replicate n (mv gm)) gm m (some n)) {g cap : Nat} (hown : w1.ownsRow (b + 1) 30 1 (.slice (some ⟨g, 0, none⟩) (n + 1) cap) (n + 1) (List.replicate n (mv gm) ++ [mv gm]))
    (hat : (gv.ownBlock = some g ∧ w.grownBy w1 (some g)) ∨ (g = w.heap.size ∧ w.grownBy w1 none)) :
    ∃ E', KO w0 w1 b iv ov us os E' (.slice (some ⟨g, 0, none⟩) (n + 1) cap) (n + 1) (List.replicate (n + 1) (mv gm)) gm m (some (n + 1)) := by
  have hbl := h.bk.box.lt
  rw [show List.replicate n (mv gm) ++ [mv gm] = List.replicate (n + 1) (mv gm) from List.replicate_succ'.symm] at hown
  have hri := World.ownsRow.lt h.bk.ri
  have hro := World.ownsRow.lt h.bk.ro
  have hgl := World.ownsRow.lt h.gown
  have hnc : ∀ j, j < n + 1 → w1.cell? ⟨g, j, none⟩ = some (mv gm) := by
    intro j hj
    rw [World.ownsRow.cellAt hown j (by omega)]
    simp [hj]
  rcases hat with ⟨hgv, hg⟩ | ⟨hgn, hg⟩
  · have hEne : ∀ q, E q → some q ≠ some g := fun q hq e => by injection e with e; subst e; exact h.bk.far q hq hgv
    have hbg := (h.bk.dat g (.inr hgv)).1
    have hbk := h.bk.data hg (fun q e => by injection e with e; subst e; exact hgv)
    refine ⟨E, ⟨hbk.sets (fun q hq => hbk.dat q ?_) (fun q hq hk => h.bk.far q hq ?_), h.below.grown hg (by omega) (fun k e => by injection e with e; omega), hown, h.gmE, hg.cell h.gmc (hEne gm h.gmE), fun k hk => (h.ints k hk).step fun q n' hS => ⟨hS, fun _ _ hc => hg.cell hc (hEne q hS)⟩, fun k hk => (h.outs k hk).step (fun q hq => ⟨hq, World.cell?_of_block (w := w) (a := ⟨q, 0, none⟩) (hg.block q (h.bk.dat q (.inl hq)).2.1 (hEne q hq))⟩) fun q n' hS => ?_⟩⟩
    · rcases hq with hq | hq
      · exact .inl hq
      · rw [own_new] at hq; injection hq with hq; subst hq; exact .inr hgv
    · rw [own_new] at hk; injection hk with hk; subst hk; exact hgv
    · rcases hS with hS | ⟨hS, y, ey, hle⟩
      · exact ⟨.inl hS, fun _ _ _ _ hc => hg.cell hc (hEne q hS)⟩
      · rw [hgv] at hS
        injection hS with hS
        injection ey with ey
        subst hS ey
        refine ⟨.inr ⟨rfl, n + 1, rfl, by omega⟩, fun j gm' cm hj hc => ?_⟩
        have h1 := hnc j (by omega)
        have h0 : w.cell? ⟨g, j, none⟩ = some (mv gm) := by
          obtain ⟨q, c, hv, hb, hlt⟩ := World.ownsRow.form h.gown (by omega)
          have hgo := h.gown
          rw [hv] at hgo hgv
          rw [own_new] at hgv
          injection hgv with hgv
          subst hgv
          rw [World.ownsRow.cellAt hgo j (by omega)]
          simp [show j < n by omega]
        rw [h0] at hc
        rw [h1, hc]
  · refine ⟨fun q => E q ∨ gv.ownBlock = some q, ⟨(h.bk.data hg (fun q e => by cases e)).sets (fun q hq => ?_) (fun q hq hk => ?_), h.below.grown hg (by omega) (fun k e => by cases e), hown, .inl h.gmE, cell_kept h.gmc hg, fun k hk => (h.ints k hk).step fun q n' hS => ⟨.inl hS, fun _ _ hc => cell_kept hc hg⟩, fun k hk => (h.outs k hk).step (fun q hq => ⟨.inl hq, World.cell?_of_block (w := w) (a := ⟨q, 0, none⟩) (hg.block q (h.bk.dat q (.inl hq)).2.1 (by simp))⟩) fun q n' hS => ⟨?_, fun _ _ _ _ hc => cell_kept hc hg⟩⟩⟩
    · have hold : (E q ∨ gv.ownBlock = some q) ∨ q = g := by
        rcases hq with hq | hq
        · exact .inl hq
        · rw [own_new] at hq; injection hq with hq; exact .inr hq.symm
      rcases hold with hold | rfl
      · have := h.bk.dat q hold
        exact ⟨this.1, Nat.lt_of_lt_of_le this.2.1 hg.size, this.2.2⟩
      · exact ⟨by omega, (World.ownsRow.lt hown q rfl).2, fun e => by have := (hri q e).2; omega, fun e => by have := (hro q e).2; omega⟩
    · rw [own_new] at hk
      injection hk with hk
      subst hk
      rcases hq with hq | hq
      · have := (h.bk.dat g (.inl hq)).2.1; omega
      · have := (hgl g hq).2; omega
    · rcases hS with hS | ⟨hS, _⟩
      · exact .inl (.inl hS)
      · exact .inl (.inr hS)

/-- the end -/
theorem KO.done (h : KO w0 w b iv ov us os E gv n ws gm m z) : BookOk w b us.length os.length := by
  refine ⟨iv, ov, us, os, fun q => E q ∨ gv.ownBlock = some q, h.bk.sets (fun g hg => h.bk.dat g ?_) (fun g _ hk => hk), rfl, rfl, fun k hk => (h.ints k hk).step fun g n' hS => ⟨.inl hS, fun _ _ hc => hc⟩, fun k hk => (h.outs k hk).step (fun g hg => ⟨.inl hg, rfl⟩) fun g n' hS => ⟨?_, fun _ _ _ _ hc => hc⟩⟩
  · rcases hg with hg | hg
    · exact hg
    · exact hg.elim
  · rcases hS with hS | ⟨hS, _⟩
    · exact .inl hS
    · exact .inr hS
end
end Go.Proofs.Ytncmgnmcggkhnaa

namespace Go.Proofs.Ytncmgnmcggkhnaa
open Go.RowKit

theorem row_sliceK {w : World} {base : Nat} {e : TypeId} {v : Value} {n : Nat} {xs : List Value} (h : w.ownsRow base e 1 v n xs) : ∃ a c, v = .slice a n c := by
  rcases h.2 with ⟨rfl, rfl⟩ | ⟨g, cap, cur, rfl, _⟩
  · exact ⟨none, 0, rfl⟩
  · exact ⟨_, cap, rfl⟩

theorem row_cell1 {w : World} {base : Nat} {e : TypeId} {n : Nat} {a : Option Addr} {c : Nat} {xs : List Value} (h : w.ownsRow base e 1 (.slice a n c) n xs) {i : Nat} (hi : i < n) : ∃ g, a = some ⟨g, 0, none⟩ ∧ base ≤ g ∧ w.cell? ⟨g, i, none⟩ = some (xs.getD i undef) ∧ w.frozen? ⟨g, i, none⟩ = false := by
  obtain ⟨g, cap, hv, hb, hlt⟩ := World.ownsRow.form h (by omega)
  have hl := h.1
  injection hv with e1 _ e3
  subst e1 e3
  refine ⟨g, rfl, hb, ?_, World.ownsRow.frozenAt h i⟩
  have e := World.ownsRow.cellAt h i (by omega)
  rw [e]
  simp [List.getD, show i < xs.length by omega]

theorem all_same {ys : List Int} {n : Nat} {m : Int} (hl : ys.length = n) (h : ∀ j, j < n → ys.getD j 0 = m) : ys = List.replicate n m := by
  apply List.ext_getElem (by simp [hl])
  intro j h1 h2
  have := h j (by omega)
  simp only [List.getD, List.getElem?_eq_getElem h1, Option.getD_some] at this
  rw [this, List.getElem_replicate]

theorem infoLL : (Try.prog.info? 24).map (fun i => (i.zero, i.size, i.bytes)) = some (some (.slice none 0 0), 1, 24) := by kernel_rfl
theorem undLLL : Try.prog.underlying 32 = some (.slice 24) := by kernel_rfl

theorem all_sameV {ys : List Value} {n : Nat} {m : Value} (hl : ys.length = n) (h : ∀ j, j < n → ys.getD j undef = m) : ys = List.replicate n m := by
  apply List.ext_getElem (by simp [hl])
  intro j h1 h2
  have := h j (by omega)
  simp only [List.getD, List.getElem?_eq_getElem h1, Option.getD_some] at this
  rw [this, List.getElem_replicate]

theorem KS.last' {w0 w : World} {b : Nat} {lv : Value} {vs : List Value} {xss : List (List Int)} {iv ov : Value} {us os : List Value} {E : Nat → Prop} {m : Int} {c : Nat} (hc : vs.length = c) (h : KS w0 w b lv vs xss c iv ov us os E (.slice none 0 0) 0 m) (m2 : Int) :
    KO w0 (w.alloc (.cells #[.int .i64 m2] 3)) b iv ov us os (fun g => E g ∨ g = w.heap.size) lv c vs w.heap.size m2 none := by
  subst hc
  exact h.last m2

set_option maxHeartbeats 4000000 in
set_option maxRecDepth 20000 in
theorem keep_book (w0 : World) (b : Nat) (lv : Value) (vs : List Value) (xss : List (List Int)) (iv0 ov : Value) (us0 os : List Value) (E0 : Nat → Prop) (hks : KS w0 w0 b lv vs xss 0 iv0 ov us0 os E0 (.slice none 0 0) 0 0)
    (hu4 : us0.length % 4 = 0) (hub : us0.length ≤ 100) (ho4 : os.length % 4 = 0) (hob : os.length ≤ 100) (hvx : vs.length = xss.length) (hv2 : vs.length ≤ 2) (hxl : ∀ j, j < xss.length → (xss.getD j []).length ≤ 1200) :
    Calls Try.prog 19 #[.pointer (some ⟨b, 0, none⟩), lv] w0 fun e w' => e = .returned (.tuple #[]) ∧ Below b w0 w' ∧ BookOk w' b (us0.length + 4 * vs.length) (os.length + 4) := by
  obtain ⟨al, cl, rfl⟩ := row_sliceK hks.row
  obtain ⟨i1, hi1, hz10, hz11, hz12⟩ := info_parts Try.info30
  obtain ⟨i0, hi0, hz00, hz01, hz02⟩ := info_parts Try.info3
  obtain ⟨i2, hi2, hz20, hz21, hz22⟩ := info_parts infoLL
  obtain ⟨c, hc⟩ : ∃ c, vs.length = c := ⟨_, rfl⟩
  have HXL : Hid (∀ j, j < xss.length → (xss.getD j []).length ≤ 1200) := hxl
  have HVX : Hid (vs.length = xss.length) := hvx
  have HC : Hid (vs.length = c) := hc
  have HU4 : Hid (us0.length % 4 = 0) := hu4
  have HUB : Hid (us0.length ≤ 100) := hub
  have HO4 : Hid (os.length % 4 = 0) := ho4
  have HOB : Hid (os.length ≤ 100) := hob
  rw [hc] at hks hv2 ⊢
  clear hxl hvx hc hu4 hub ho4 hob
  go_enter Try.func19, Try.ntmps19
  go_wp2_with fail
  go_loopg [4] c (fun gk t4 wr => ∃ (i : Nat) (xss' : List (List Int)) (iv : Value) (us : List Value) (E : Nat → Prop), gk + i = c ∧ t4 = .int .i64 i ∧ us.length = us0.length + 4 * i ∧ xss'.length = xss.length ∧ (∀ j, i ≤ j → xss'.getD j [] = xss.getD j []) ∧
      KS w0 wr b (.slice al c cl) vs xss' i iv ov us os E (.slice none 0 0) 0 0)
  case atStart => exact ⟨0, xss, iv0, us0, E0, by omega, rfl, by omega, rfl, fun _ _ => rfl, hks⟩
  case round =>
    clear hks
    obtain ⟨i, xss', iv, us, E, hgk, rfl, hul, hxl', hxx, hks⟩ := hrel
    have HXL' : Hid (xss'.length = xss.length) := hxl'
    have HXX : Hid (∀ j, i ≤ j → xss'.getD j [] = xss.getD j []) := hxx
    obtain ⟨U, hU⟩ : ∃ U, us.length = U := ⟨_, rfl⟩
    have HU : Hid (us.length = U) := hU
    have HUL : Hid (U = us0.length + 4 * i) := by show _ = _; omega
    have hUb : U ≤ 200 := by have := HUB.out; omega
    clear hxl' hxx hul hU
    by_cases hlt : i < c
    · have hrow := hks.row
      rw [HC.out] at hrow
      obtain ⟨gl, rfl, hglb, hcl, _⟩ := row_cell1 hrow hlt
      have hlen : (xss'.getD i []).length ≤ 1200 := by rw [HXX.out i (Nat.le_refl _)]; exact HXL.out i (by rw [← HVX.out, HC.out]; exact hlt)
      have howni := hks.own i (Nat.le_refl _) (by rw [HC.out]; exact hlt)
      obtain ⟨av, cv, hav⟩ := own_slice howni
      obtain ⟨n, hn⟩ : ∃ n, (xss'.getD i []).length = n := ⟨_, rfl⟩
      rw [hn] at hlen hav
      rw [hav] at hcl
      obtain ⟨ai, ci, hiv⟩ := row_sliceK hks.bk.ri
      rw [HU.out] at hiv
      have b0 : wr.cell? ⟨b, 0, none⟩ = some (.slice ai U ci) := by rw [← hiv]; exact hks.bk.box.cell 0
      have hq : (U : Int).tdiv 4 = ((U / 4 : Nat) : Int) := rfl
      obtain ⟨q, hqq⟩ : ∃ q, U / 4 = q := ⟨_, rfl⟩
      have hqb : q ≤ 50 := by omega
      rw [hqq] at hq
      have HQ : Hid (U / 4 = q) := hqq
      obtain ⟨m, hm⟩ : ∃ m : Int, -1000000 - (q : Int) = m := ⟨_, rfl⟩
      have HM : Hid (-1000000 - (q : Int) = m) := hm
      have hmb : -2000000 ≤ m ∧ m ≤ 0 := by omega
      have HN : Hid ((xss'.getD i []).length = n) := hn
      have HAV : Hid (vs.getD i undef = .slice av n cv) := hav
      have HIV : Hid (iv = .slice ai U ci) := hiv
      have hin0 : KS w0 wr b (.slice (some ⟨gl, 0, none⟩) c cl) vs (xss'.set i (xss'.getD i [])) i iv ov us os E (.slice none 0 0) 0 m := by
        have hself : xss'.set i (xss'.getD i []) = xss' := by
          apply List.ext_getElem?
          intro j
          by_cases hij : i = j
          · subst hij
            have hlt9 : i < xss'.length := by rw [HXL'.out, ← HVX.out, HC.out]; exact hlt
            rw [List.getElem?_set_self hlt9]
            simp [List.getD, hlt9]
          · rw [List.getElem?_set_ne hij]
        rw [hself]
        exact ⟨hks.bk, hks.below, hks.row, hks.own, hks.apartL, hks.apartV, Own.nil _ _, hks.gfar, hks.ints, hks.outs⟩
      clear hqq hm hn hav hiv hks hrow howni
      go_wp2_with fail
      rw [HM.out]
      obtain ⟨wo, rfl⟩ : ∃ wo : World, wo = wr := ⟨_, rfl⟩
      obtain ⟨ko, rfl⟩ : ∃ ko : Nat, ko = gk := ⟨_, rfl⟩
      go_loopg [6] n (fun gq t6 wq => ∃ (k : Nat) (ys : List Int), gq + k = n ∧ t6 = .int .i64 k ∧ ys.length = n ∧ (∀ j, j < k → ys.getD j 0 = m) ∧ KS w0 wq b (.slice (some ⟨gl, 0, none⟩) c cl) vs (xss'.set i ys) i iv ov us os E (.slice none 0 0) 0 m)
      case atStart => exact ⟨0, _, by omega, rfl, HN.out, fun j hj => by omega, hin0⟩
      case round =>
        clear hin0 hcl b0
        obtain ⟨k, ys, hgq, rfl, hyl, hys, hks⟩ := hrel
        have HYS : Hid (∀ j, j < k → ys.getD j 0 = m) := hys
        have HYL : Hid (ys.length = n) := hyl
        have hix : i < xss'.length := by rw [HXL'.out, ← HVX.out, HC.out]; exact hlt
        have hrow := hks.row
        rw [HC.out] at hrow
        obtain ⟨gl', egl, _, hcl, _⟩ := row_cell1 hrow hlt
        obtain rfl : gl = gl' := by simpa using egl
        rw [HAV.out] at hcl
        clear hys hyl egl
        by_cases hk : k < n
        · have howni := hks.own i (Nat.le_refl _) (by rw [HC.out]; exact hlt)
          rw [getD_set_eq _ _ _ _ hix, HAV.out] at howni
          obtain ⟨gv, cv', hgv, hrv⟩ := howni.full (by rw [HYL.out]; omega)
          rw [HYL.out] at hgv hrv
          have HAV2 := HAV.out
          rw [hgv] at HAV2 hcl
          have ck := hrv.cell k hk
          have fk := hrv.fz k
          have hw2 := hks.write (k := k) (x := m) (g := gv) (cap := cv') (ys := ys) (by rw [HC.out]; exact hlt) (by rw [HYL.out]; exact HAV2) (getD_set_eq _ _ _ _ hix) (by rw [List.length_set]; exact hix)
          rw [List.set_set] at hw2
          have HNEXT : Hid (∀ j, j < k + 1 → (ys.set k m).getD j 0 = m) := by
            intro j hj
            by_cases hjk : k = j
            · subst hjk; exact getD_set_eq _ _ _ _ (by rw [HYL.out]; exact hk)
            · rw [getD_set_ne _ _ _ _ _ hjk]; exact HYS.out j (by omega)
          have HL2 : Hid ((ys.set k m).length = n) := by show _ = _; rw [List.length_set]; exact HYL.out
          have HW2 : Hid _ := hw2
          clear hks hrow howni hrv hw2 HAV2 hgv
          go_wp2
          go_roundg (gk - 1)
          case measure => omega
          case rel => exact ⟨k + 1, ys.set k m, by omega, by go_num, HL2.out, HNEXT.out, HW2.out⟩
        · have hkn : k = n := by omega
          have hyr := all_same HYL.out (fun j hj => HYS.out j (by omega))
          have htk := hks.take (n := n) (by rw [HC.out]; exact hlt) (by rw [getD_set_eq _ _ _ _ hix]; exact hyr)
          rw [HAV.out] at htk
          have tk : decide ((k : Int) < (n : Int)) = false := decide_eq_false (by omega)
          have HXS : Hid ((xss'.set i ys).length = xss.length ∧ ∀ j, i + 1 ≤ j → (xss'.set i ys).getD j [] = xss.getD j []) := ⟨by rw [List.length_set]; exact HXL'.out, fun j hj => by rw [getD_set_ne _ _ _ _ _ (by omega)]; exact HXX.out j (by omega)⟩
          obtain ⟨xs2, hxs2⟩ : ∃ xs2, xss'.set i ys = xs2 := ⟨_, rfl⟩
          rw [hxs2] at HXS htk
          clear hks hrow hyr hxs2 hkn
          go_wp2_with fail
          go_loopg [7, 8] 4 (fun gq t7 t8 wq => ∃ (k : Nat) (gv iv : Value) (us : List Value) (E : Nat → Prop), gq + k = 4 ∧ t8 = .int .i64 k ∧ t7 = gv ∧ us.length = U + k ∧ KS w0 wq b (.slice (some ⟨gl, 0, none⟩) c cl) vs xs2 (i + 1) iv ov us os E gv (n + k) m)
          case atStart => exact ⟨0, _, iv, us, E, rfl, rfl, rfl, HU.out, htk⟩
          case round =>
            clear htk
            obtain ⟨k, gv, iv, us, E, hgq, rfl, rfl, hul, hks⟩ := hrel
            obtain ⟨av, cv, hgv⟩ := own_slice hks.gown
            rw [List.length_replicate] at hgv
            subst hgv
            obtain ⟨ai, ci, hiv⟩ := row_sliceK hks.bk.ri
            rw [hul] at hiv
            subst hiv
            have b0 : wr.cell? ⟨b, 0, none⟩ = some (.slice ai (U + k) ci) := hks.bk.box.cell 0
            have fb := hks.bk.box.fz 0
            by_cases hk4 : k < 4
            · have hbl := hks.bk.box.lt
              have hri := hks.bk.ri
              rw [hul] at hri
              have hne0 : Hid (some b ≠ Value.ownBlock (.slice ai (U + k) ci)) := fun e => by have := (World.ownsRow.lt hri b e.symm).1; omega
              have HUL2 : Hid (us.length = U + k) := hul
              have hgr1 := grown_alloc (grown_refl wr none) (Obj.cells #[.slice av (n + k) cv] 30)
              have hks1 := hks.new hgr1
              have HKS1 : Hid _ := hks1
              have hc1 : (wr.alloc (Obj.cells #[.slice av (n + k) cv] 30)).cell? ⟨wr.heap.size, 0, none⟩ = some (.slice av (n + k) cv) := (Box.new wr #[.slice av (n + k) cv] 30).cell 0
              have hri1 : (wr.alloc (Obj.cells #[.slice av (n + k) cv] 30)).ownsRow (b + 1) 30 1 (.slice ai (U + k) ci) (U + k) us := by
                have := hks1.bk.ri
                rw [hul] at this
                exact this
              have d0 : (wr.alloc (Obj.cells #[.slice av (n + k) cv] 30)).cell? ⟨b, 0, none⟩ = some (.slice ai (U + k) ci) := hks1.bk.box.cell 0
              have df := hks1.bk.box.fz 0
              have dlt := hks1.bk.box.lt
              have HD : Hid ((wr.alloc (Obj.cells #[.slice av (n + k) cv] 30)).cell? ⟨b, 0, none⟩ = some (.slice ai (U + k) ci) ∧ (wr.alloc (Obj.cells #[.slice av (n + k) cv] 30)).frozen? ⟨b, 0, none⟩ = false ∧ b < (wr.alloc (Obj.cells #[.slice av (n + k) cv] 30)).heap.size) := ⟨d0, df, dlt⟩
              clear hks hks1 hul hgr1 d0 df dlt
              go_wp2_with (first
                | (at_builtin; refine wpList_append_lies _ rfl _ _ 24 rfl (b + 1) 30 i1 (.slice none 0 0) 1 24 Try.underlying24 hi1 hz10 hz11 hz12 rfl (by decide) _ _ _ rfl hri1 ⟨wr.heap.size, 0, none⟩ 1 1 [.slice av (n + k) cv] rfl rfl ?c1 ?c2 ?c6 ?c3 ?c4 ?c5 _ rfl ?_))
              case c1 => exact one_newV _ _ _
              case c2 => intro u hu; simp at hu; subst hu; rfl
              case c6 => omega
              case c3 => unfold maxLen; omega
              case c4 => omega
              case c5 => simp; omega
              intro g cap w2 hown2 hgrow hat hglt
              have q0 : w2.cell? ⟨b, 0, none⟩ = some (.slice ai (U + k) ci) := hgrow.cell HD.out.1 hne0.out
              have qf : w2.frozen? ⟨b, 0, none⟩ = false := (World.frozen?_of_block (a := ⟨b, 0, none⟩) (hgrow.block b HD.out.2.2 hne0.out)).trans HD.out.2.1
              have hks2 := HKS1.out.push (g := g) (cap := cap) (N := U + k + 1) (by rw [HUL2.out]) (by omega) (by rw [HUL2.out, mark1, show (U + k) / 4 = q by have := HQ.out; have := HUL.out; have := HU4.out; omega]; exact HM.out.symm) hgrow hown2 (by rcases hat with h | h; exact .inl h; exact .inr (by simpa using h))
              have HKS2 : Hid _ := hks2
              clear hown2 hgrow hat hglt hks2 hri1 hc1 HKS1 hne0 HD
              go_upto_region 13 with fail
              have hks2 := HKS2.out
              clear HKS2 q0 qf b0 fb
              generalize (World.setCell w2 ⟨b, 0, none⟩ (Value.slice (some ⟨g, 0, none⟩) (U + k + 1) cap)) = w3 at hks2 ⊢
              have hbl3 := hks2.bk.box.lt
              have hks3 := hks2.new (grown_alloc (grown_refl w3 none) (Obj.cells #[.int .i64 m] 3))
              have hgo3 : (w3.alloc (Obj.cells #[.int .i64 m] 3)).ownsRow (b + 1) 3 1 (.slice av (n + k) cv) (n + k) ((List.replicate (n + k) m).map (Value.int .i64)) := by
                have := hks3.gown
                unfold Own at this
                rw [List.length_replicate] at this
                exact this
              have hcm : (w3.alloc (Obj.cells #[.int .i64 m] 3)).cell? ⟨w3.heap.size, 0, none⟩ = some (.int .i64 m) := (Box.new w3 #[.int .i64 m] 3).cell 0
              have HKS3 : Hid _ := hks3
              have HCM : Hid _ := hcm
              clear hks2 hks3 hcm
              go_wp2_with (first
                | (at_builtin; refine wpList_append_both _ rfl _ _ 30 rfl (b + 1) 3 i0 (.int .i64 0) 8 Try.underlying30 hi0 hz00 hz01 hz02 rfl _ _ _ rfl hgo3 ⟨w3.heap.size, 0, none⟩ 1 (.int .i64 m) rfl HCM.out rfl ?c3 ?c4 ?c5 ?_))
              case c3 => unfold maxLen; omega
              case c4 => omega
              case c5 => simp; omega
              intro g9 cap9 w9 hown9 hat9 hlt9
              obtain ⟨E9, hks9⟩ := HKS3.out.grow (by rw [List.map_replicate]; exact hown9) (by rcases hat9 with h | ⟨h1, h2⟩; exact .inl h; exact .inr ⟨by rw [h1]; simp, h2⟩)
              have HKS9 : Hid _ := hks9
              clear hown9 hat9 hlt9 hks9 HKS3 HCM hgo3
              go_wp2
              go_roundg (gk - 1)
              case measure => omega
              case rel => exact ⟨k + 1, _, _, us ++ [.slice av (n + k) cv], E9, by omega, by go_num, rfl, by rw [List.length_append, List.length_singleton, HUL2.out]; omega, HKS9.out⟩
            · obtain rfl : k = 4 := by omega
              have hdn := hks.done 0
              have HDN : Hid _ := hdn
              have HUL2 : Hid (us.length = U + 4) := hul
              clear hks hdn hul b0 fb
              go_wp2
              go_roundg (ko - 1)
              case measure => omega
              case rel => exact ⟨i + 1, xs2, _, us, _, by omega, by go_num, by rw [HUL2.out, HUL.out]; omega, HXS.out.1, HXS.out.2, HDN.out⟩
    · have hic : i = c := by omega
      subst hic
      have tk : decide ((i : Int) < (i : Int)) = false := decide_eq_false (by omega)
      obtain ⟨M, hM⟩ : ∃ M, os.length = M := ⟨_, rfl⟩
      have HMM : Hid (os.length = M) := hM
      have hMb : M ≤ 100 := by have := HOB.out; omega
      obtain ⟨ao, co, hov⟩ := row_sliceK hks.bk.ro
      rw [hM] at hov
      have b1 : wr.cell? ⟨b, 1, none⟩ = some (.slice ao M co) := by rw [← hov]; exact hks.bk.box.cell 1
      have hq : (M : Int).tdiv 4 = ((M / 4 : Nat) : Int) := rfl
      obtain ⟨q, hqq⟩ : ∃ q, M / 4 = q := ⟨_, rfl⟩
      have hqb : q ≤ 50 := by omega
      rw [hqq] at hq
      have HQ : Hid (M / 4 = q) := hqq
      obtain ⟨m, hm⟩ : ∃ m : Int, -2000000 - (q : Int) = m := ⟨_, rfl⟩
      have HM : Hid (-2000000 - (q : Int) = m) := hm
      have hko := KS.last' HC.out hks m
      have HKO : Hid _ := hko
      have HUF : Hid (us.length = us0.length + 4 * i) := by show _ = _; rw [HU.out, HUL.out]
      clear hM hov hqq hm hko hks hlt hgk
      go_upto_region 15 with fail
      rw [HM.out]
      have hko := HKO.out
      have hgml : wr.heap.size < (wr.alloc (.cells #[.int .i64 m] 3)).heap.size := by simp
      clear HKO b1
      obtain ⟨gm, hgm⟩ : ∃ gm, wr.heap.size = gm := ⟨_, rfl⟩
      rw [hgm] at hko ⊢
      generalize (fun g => E g ∨ g = gm) = E2 at hko
      generalize (wr.alloc (.cells #[.int .i64 m] 3)) = w4 at hko ⊢
      clear hgml hgm
      go_wp2_with fail
      go_loopg [10] i (fun gq t10 wq => ∃ (k : Nat) (ws : List Value), gq + k = i ∧ t10 = .int .i64 k ∧ ws.length = i ∧ (∀ j, j < k → ws.getD j undef = mv gm) ∧ KO w0 wq b iv ov us os E2 (.slice al i cl) i ws gm m none)
      case atStart => exact ⟨0, vs, by omega, rfl, HC.out, fun j hj => by omega, hko⟩
      case round =>
        clear hko
        obtain ⟨k, ws, hgq, rfl, hwl, hws, hko⟩ := hrel
        have HWL : Hid (ws.length = i) := hwl
        have HWS : Hid (∀ j, j < k → ws.getD j undef = mv gm) := hws
        clear hwl hws
        by_cases hk : k < i
        · obtain ⟨gl, rfl, hglb, hcl, hfl⟩ := row_cell1 hko.gown hk
          have hw := hko.write (k := k) (mv gm)
          have HW : Hid _ := hw
          have HW1 : Hid ((ws.set k (mv gm)).length = i) := by show _ = _; rw [List.length_set]; exact HWL.out
          have HW2 : Hid (∀ j, j < k + 1 → (ws.set k (mv gm)).getD j undef = mv gm) := by
            intro j hj
            by_cases hjk : k = j
            · subst hjk; exact getD_set_eq _ _ _ _ (by rw [HWL.out]; exact hk)
            · rw [getD_set_ne _ _ _ _ _ hjk]; exact HWS.out j (by omega)
          clear hko hw
          go_wp2
          go_roundg (gk - 1)
          case measure => omega
          case rel => exact ⟨k + 1, ws.set k (mv gm), by omega, by go_num, HW1.out, HW2.out, HW.out⟩
        · have hwr := all_sameV HWL.out (fun j hj => HWS.out j (by omega))
          rw [hwr] at hko
          have hst := hko.start
          have tk : decide ((k : Int) < (i : Int)) = false := decide_eq_false (by omega)
          clear hko hwr
          go_wp2_with fail
          go_loopg [11, 12] 4 (fun gq t11 t12 wq => ∃ (k : Nat) (gv ov : Value) (os : List Value) (E : Nat → Prop), gq + k = 4 ∧ t12 = .int .i64 k ∧ t11 = gv ∧ os.length = M + k ∧ KO w0 wq b iv ov us os E gv (i + k) (List.replicate (i + k) (mv gm)) gm m (some (i + k)))
          case atStart => exact ⟨0, _, ov, os, E2, rfl, rfl, rfl, HMM.out, hst⟩
          case round =>
            clear hst
            obtain ⟨k, gv, ov, os', E, hgq, rfl, rfl, hol, hko⟩ := hrel
            obtain ⟨av, cv, hgv⟩ := row_sliceK hko.gown
            subst hgv
            obtain ⟨ao, co, hov⟩ := row_sliceK hko.bk.ro
            rw [hol] at hov
            subst hov
            have b0 : wr.cell? ⟨b, 1, none⟩ = some (.slice ao (M + k) co) := hko.bk.box.cell 1
            have hbl := hko.bk.box.lt
            have HOL : Hid (os'.length = M + k) := hol
            by_cases hk4 : k < 4
            · have hko1 := hko.new (grown_alloc (grown_refl wr none) (Obj.cells #[.slice av (i + k) cv] 24))
              have hro1 : (wr.alloc (Obj.cells #[.slice av (i + k) cv] 24)).ownsRow (b + 1) 24 1 (.slice ao (M + k) co) (M + k) os' := by
                have := hko1.bk.ro
                rw [hol] at this
                exact this
              have hne0 : Hid (some b ≠ Value.ownBlock (.slice ao (M + k) co)) := fun e => by have := (World.ownsRow.lt hro1 b e.symm).1; omega
              have HD : Hid ((wr.alloc (Obj.cells #[.slice av (i + k) cv] 24)).cell? ⟨b, 1, none⟩ = some (.slice ao (M + k) co) ∧ (wr.alloc (Obj.cells #[.slice av (i + k) cv] 24)).frozen? ⟨b, 1, none⟩ = false ∧ b < (wr.alloc (Obj.cells #[.slice av (i + k) cv] 24)).heap.size) := ⟨hko1.bk.box.cell 1, hko1.bk.box.fz 1, hko1.bk.box.lt⟩
              have HKO1 : Hid _ := hko1
              clear hko hko1 hol
              go_wp2_with (first
                | (at_builtin; refine wpList_append_lies _ rfl _ _ 32 rfl (b + 1) 24 i2 (.slice none 0 0) 1 24 undLLL hi2 hz20 hz21 hz22 rfl (by decide) _ _ _ rfl hro1 ⟨wr.heap.size, 0, none⟩ 1 1 [.slice av (i + k) cv] rfl rfl ?c1 ?c2 ?c6 ?c3 ?c4 ?c5 _ rfl ?_))
              case c1 => exact one_newV _ _ _
              case c2 => intro u hu; simp at hu; subst hu; rfl
              case c6 => omega
              case c3 => unfold maxLen; omega
              case c4 => omega
              case c5 => simp; omega
              intro g cap w2 hown2 hgrow hat hglt
              have q0 : w2.cell? ⟨b, 1, none⟩ = some (.slice ao (M + k) co) := hgrow.cell HD.out.1 hne0.out
              have qf : w2.frozen? ⟨b, 1, none⟩ = false := (World.frozen?_of_block (a := ⟨b, 1, none⟩) (hgrow.block b HD.out.2.2 hne0.out)).trans HD.out.2.1
              have hko2 := HKO1.out.push (g := g) (cap := cap) (N := M + k + 1) (by rw [HOL.out]) (by omega) (by rw [HOL.out, mark2, show (M + k) / 4 = q by have := HQ.out; have := HMM.out; have := HO4.out; omega]; exact HM.out.symm) hgrow hown2 (by rcases hat with h | h; exact .inl h; exact .inr (by simpa using h))
              have HKO2 : Hid _ := hko2
              clear hown2 hgrow hat hglt hko2 hro1 HKO1 hne0 HD
              go_upto_region 24 with fail
              have hko2 := HKO2.out
              clear HKO2 q0 qf b0
              generalize (World.setCell w2 ⟨b, 1, none⟩ (Value.slice (some ⟨g, 0, none⟩) (M + k + 1) cap)) = w3 at hko2 ⊢
              have hbl3 := hko2.bk.box.lt
              have hko3 := hko2.new (grown_alloc (grown_refl w3 none) (Obj.cells #[.slice (some ⟨gm, 0, none⟩) 1 1] 30))
              have hgo3 := hko3.gown
              have hcm : (w3.alloc (Obj.cells #[.slice (some ⟨gm, 0, none⟩) 1 1] 30)).cell? ⟨w3.heap.size, 0, none⟩ = some (.slice (some ⟨gm, 0, none⟩) 1 1) := (Box.new w3 #[.slice (some ⟨gm, 0, none⟩) 1 1] 30).cell 0
              have HKO3 : Hid _ := hko3
              have HCM : Hid _ := hcm
              clear hko2 hko3 hcm
              go_wp2_with (first
                | (at_builtin; refine wpList_append_both _ rfl _ _ 24 rfl (b + 1) 30 i1 (.slice none 0 0) 24 Try.underlying24 hi1 hz10 hz11 hz12 rfl _ _ _ rfl hgo3 ⟨w3.heap.size, 0, none⟩ 1 (.slice (some ⟨gm, 0, none⟩) 1 1) rfl HCM.out rfl ?c3 ?c4 ?c5 ?_))
              case c3 => unfold maxLen; omega
              case c4 => omega
              case c5 => simp; omega
              intro g9 cap9 w9 hown9 hat9 hlt9
              obtain ⟨E9, hko9⟩ := HKO3.out.grow hown9 (by rcases hat9 with h | ⟨h1, h2⟩; exact .inl h; exact .inr ⟨by rw [h1]; simp, h2⟩)
              have HKO9 : Hid _ := hko9
              clear hown9 hat9 hlt9 hko9 HKO3 HCM hgo3
              go_wp2
              go_roundg (gk - 1)
              case measure => omega
              case rel => exact ⟨k + 1, _, _, os' ++ [.slice av (i + k) cv], E9, by omega, by go_num, rfl, by rw [List.length_append, List.length_singleton, HOL.out]; omega, HKO9.out⟩
            · obtain rfl : k = 4 := by omega
              have hdn := hko.done
              have hbel := hko.below
              rw [hol, HUF.out, ← HMM.out] at hdn
              have HDN : Hid _ := hdn
              clear hko hdn hol b0 hbl
              go_wp2
              exact bodyPost_end (v := .tuple #[]) (by simp [results, Try.results19, go_sem]) rfl ⟨rfl, hbel, HDN.out⟩
end Go.Proofs.Ytncmgnmcggkhnaa
