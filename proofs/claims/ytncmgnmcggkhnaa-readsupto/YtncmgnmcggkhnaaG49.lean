import Derived.Test.YtncmgnmcggkhnaaG35
import Derived.Test.YtncmgnmcggkhnaaG39
namespace Go.Proofs.Ytncmgnmcggkhnaa
open Go.RowKit

/-- a world of the law's: the reader, its sound, where it is; the book stands behind -/
structure Wd where
  gB : Nat
  rate : Int
  bits : Int
  lv : Value
  pos : Nat

def wdC (X : Wd) (iv ov : Value) : Array Value := #[.pointer (some ⟨X.gB, 0, none⟩), .int .i64 X.rate, .int .i64 X.bits, X.lv, .int .i64 X.pos, iv, ov]

set_option maxHeartbeats 2000000 in
set_option maxRecDepth 20000 in
theorem looks_five (w : World) (b N M : Nat) (iv ov : Value) (hN : N ≤ 1099511627776) (hM : M ≤ 1099511627776) (h0 : w.cell? ⟨b, 5, none⟩ = some iv) (h1 : w.cell? ⟨b, 6, none⟩ = some ov)
    (hi : Shelf (Mk w) w iv N (-1000000)) (ho : Shelf (Mk2 w) w ov M (-2000000)) :
    Calls Try.prog 20 #[.pointer (some ⟨b, 5, none⟩)] w fun e w' => e = .returned (.bool true) ∧ w' = w := by
  obtain ⟨a0, c0, rfl, hi⟩ := hi
  obtain ⟨a1, c1, rfl, ho⟩ := ho
  have HI : Hid _ := hi
  have HO : Hid _ := ho
  clear hi ho
  go_enter Try.func20, Try.ntmps20
  go_wp2_with fail
  go_loopg [3] N (fun gk i wr => ∃ k : Nat, gk + k = N ∧ i = .int .i64 k ∧ wr = w)
  case atStart => exact ⟨0, rfl, rfl, rfl⟩
  case round =>
    obtain ⟨k, hk, rfl, rfl⟩ := hrel
    by_cases hlt : k < N
    · obtain ⟨g, u, rfl, hu, a, n, c, hn, rfl, hc⟩ := HI.out k hlt
      have HC : Hid _ := hc
      have hq : (k : Int).tdiv 4 = ((k / 4 : Nat) : Int) := rfl
      obtain ⟨q, hqq⟩ : ∃ q, k / 4 = q := ⟨_, rfl⟩
      have hqb : q ≤ 1099511627776 := by omega
      rw [hqq] at hq
      have HQ : Hid (k / 4 = q) := hqq
      clear hc hqq
      go_wp2_with fail
      obtain ⟨ko, rfl⟩ : ∃ ko : Nat, ko = gk := ⟨_, rfl⟩
      go_loopg [4] n (fun gq i wq => ∃ j : Nat, gq + j = n ∧ i = .int .i64 j ∧ wq = wr)
      case atStart => exact ⟨0, rfl, rfl, rfl⟩
      case round =>
        obtain ⟨j, hj, rfl, rfl⟩ := hrel
        by_cases hjn : j < n
        · obtain ⟨gg, rfl, hcc⟩ := HC.out j hjn
          rw [HQ.out] at hcc
          have hne : ((-1000000 - (q : Int) : Int) != (-1000000 - (q : Int))) = false := by simp
          go_wp2
          go_roundg (gk - 1)
          case measure => omega
          case rel => exact ⟨j + 1, by omega, by go_num, rfl⟩
        · have tj : decide ((j : Int) < (n : Int)) = false := decide_eq_false (by omega)
          go_wp2
          go_roundg (ko - 1)
          case measure => omega
          case rel => exact ⟨k + 1, by omega, by go_num, rfl⟩
    · have tk : decide ((k : Int) < (N : Int)) = false := decide_eq_false (by omega)
      go_wp2_with fail
      clear tk hlt hk
      go_loopg [5] M (fun gk i wq => ∃ k : Nat, gk + k = M ∧ i = .int .i64 k ∧ wq = wr)
      case atStart => exact ⟨0, rfl, rfl, rfl⟩
      case round =>
        obtain ⟨k, hk, rfl, rfl⟩ := hrel
        by_cases hlt : k < M
        · obtain ⟨g, u, rfl, hu, a, n, c, hn, rfl, hc⟩ := HO.out k hlt
          have HC : Hid _ := hc
          have hq : (k : Int).tdiv 4 = ((k / 4 : Nat) : Int) := rfl
          obtain ⟨q, hqq⟩ : ∃ q, k / 4 = q := ⟨_, rfl⟩
          have hqb : q ≤ 1099511627776 := by omega
          rw [hqq] at hq
          have HQ : Hid (k / 4 = q) := hqq
          clear hc hqq
          go_wp2_with fail
          obtain ⟨ko, rfl⟩ : ∃ ko : Nat, ko = gk := ⟨_, rfl⟩
          go_loopg [6] n (fun gq i wq => ∃ j : Nat, gq + j = n ∧ i = .int .i64 j ∧ wq = wr)
          case atStart => exact ⟨0, rfl, rfl, rfl⟩
          case round =>
            obtain ⟨j, hj, rfl, rfl⟩ := hrel
            by_cases hjn : j < n
            · obtain ⟨gg, gm, cm, rfl, hcc, hcm⟩ := HC.out j hjn
              rw [HQ.out] at hcm
              have hne : ((-2000000 - (q : Int) : Int) != (-2000000 - (q : Int))) = false := by simp
              go_wp2
              go_roundg (gk - 1)
              case measure => omega
              case rel => exact ⟨j + 1, by omega, by go_num, rfl⟩
            · have tj : decide ((j : Int) < (n : Int)) = false := decide_eq_false (by omega)
              go_wp2
              go_roundg (ko - 1)
              case measure => omega
              case rel => exact ⟨k + 1, by omega, by go_num, rfl⟩
        · have tk : decide ((k : Int) < (M : Int)) = false := decide_eq_false (by omega)
          go_wp2
          go_ret
          exact ⟨rfl, rfl⟩
/-- how many samples each channel has -/
theorem wd_total (w : World) (b : Nat) (X : Wd) (iv ov : Value) (a0 : Option Addr) (lg n k lcap c0 : Nat) (hb : Box w b (wdC X iv ov) 54) (hl : X.lv = .slice (some ⟨lg, 0, none⟩) k lcap) (hk : 1 ≤ k) (hc : w.cell? ⟨lg, 0, none⟩ = some (.slice a0 n c0)) :
    Calls Try.prog 57 #[.pointer (some ⟨b, 0, none⟩)] w fun e w' => e = .returned (.int .i64 n) ∧ w' = w := by
  have c3 : w.cell? ⟨b, 3, none⟩ = some (.slice (some ⟨lg, 0, none⟩) k lcap) := by rw [← hl]; exact hb.cell 3
  have hkz : (0 : Int) < (k : Int) := by omega
  clear hb hl
  go_enter Try.func57, Try.ntmps57
  go_wp2
  go_ret
  exact ⟨rfl, rfl⟩
end Go.Proofs.Ytncmgnmcggkhnaa

namespace Go.Proofs.Ytncmgnmcggkhnaa
open Go.RowKit

/-- what is not the book's is as it was -/
def Zk (Z : Nat → Prop) (w w' : World) : Prop := Kp w w' (fun q => ¬ Z q)

/-- the book in memory: its two rows. `E`: blocks of what it keeps; `K`: blocks that are still written -/
structure Bz (Z : Nat → Prop) (X : Wd) (w : World) (b : Nat) (iv ov : Value) (us os : List Value) (E K : Nat → Prop) : Prop where
  box : Box w b (wdC X iv ov) 54
  ri : w.ownsRow (b + 1) 30 1 iv us.length us
  ro : w.ownsRow (b + 1) 24 1 ov os.length os
  ne : ∀ g, iv.ownBlock = some g → ov.ownBlock ≠ some g
  dat : ∀ g, E g ∨ K g → b < g ∧ g < w.heap.size ∧ iv.ownBlock ≠ some g ∧ ov.ownBlock ≠ some g
  far : ∀ g, E g → ¬ K g
  zz : ∀ q, Z q → q < w.heap.size ∧ q ≠ b ∧ iv.ownBlock ≠ some q ∧ ov.ownBlock ≠ some q ∧ ¬ E q ∧ ¬ K q

section
variable {Z : Nat → Prop} {X : Wd} {w w1 : World} {b : Nat} {iv ov : Value} {us os : List Value} {E K E' K' : Nat → Prop}

theorem own_sideZ {v : Value} {row : Option Nat} (h : ∀ g, v.ownBlock = some g → some g ≠ row) : v.ownBlock = none ∨ v.ownBlock ≠ row := by
  cases hv : v.ownBlock with
  | none => exact .inl rfl
  | some g => exact .inr (h g hv)

/-- a write into a live block; new blocks -/
theorem Bz.data {row : Option Nat} (h : Bz Z X w b iv ov us os E K) (hg : w.grownBy w1 row) (hr : ∀ g, row = some g → K g) : Bz Z X w1 b iv ov us os E K := by
  refine ⟨h.box.kept hg (fun e => ?_), World.ownsRow.kept h.ri hg (own_sideZ fun g hv e => ?_), World.ownsRow.kept h.ro hg (own_sideZ fun g hv e => ?_), h.ne, fun g hgE => ?_, h.far, fun g hgE => ?_⟩
  · have := (h.dat b (.inr (hr b e.symm))).1; omega
  · exact (h.dat g (.inr (hr g e.symm))).2.2.1 hv
  · exact (h.dat g (.inr (hr g e.symm))).2.2.2 hv
  · have := h.dat g hgE
    exact ⟨this.1, Nat.lt_of_lt_of_le this.2.1 hg.size, this.2.2⟩
  · have := h.zz g hgE
    exact ⟨Nat.lt_of_lt_of_le this.1 hg.size, this.2⟩

/-- other sets -/
theorem Bz.sets (h : Bz Z X w b iv ov us os E K) (hd : ∀ g, E' g ∨ K' g → b < g ∧ g < w.heap.size ∧ iv.ownBlock ≠ some g ∧ ov.ownBlock ≠ some g) (hf : ∀ g, E' g → ¬ K' g) (hz : ∀ g, Z g → ¬ E' g ∧ ¬ K' g) : Bz Z X w b iv ov us os E' K' :=
  ⟨h.box, h.ri, h.ro, h.ne, hd, hf, fun q hq => ⟨(h.zz q hq).1, (h.zz q hq).2.1, (h.zz q hq).2.2.1, (h.zz q hq).2.2.2.1, hz q hq⟩⟩

theorem own_newZ {g : Nat} {cap n : Nat} : Value.ownBlock (.slice (some ⟨g, 0, none⟩) n cap) = some g := rfl

/-- one more list is kept -/
theorem Bz.pushI (h : Bz Z X w b iv ov us os E K) {g cap n : Nat} {u : Value} (hn : n = us.length + 1) (hg : w.grownBy w1 iv.ownBlock) (hown : w1.ownsRow (b + 1) 30 1 (.slice (some ⟨g, 0, none⟩) n cap) n (us ++ [u]))
    (hat : iv.ownBlock = some g ∨ g = w.heap.size) :
    Bz Z X (w1.setCell ⟨b, 5, none⟩ (.slice (some ⟨g, 0, none⟩) n cap)) b (.slice (some ⟨g, 0, none⟩) n cap) ov (us ++ [u]) os E K ∧
    (∀ q, E q ∨ K q → (w1.setCell ⟨b, 5, none⟩ (.slice (some ⟨g, 0, none⟩) n cap)).heap[q]? = w.heap[q]?) ∧ Zk Z w (w1.setCell ⟨b, 5, none⟩ (.slice (some ⟨g, 0, none⟩) n cap)) := by
  have hlt := World.ownsRow.lt h.ri
  have hlo := World.ownsRow.lt h.ro
  have hbl := h.box.lt
  have hs := grown_set w1 b 5 (.slice (some ⟨g, 0, none⟩) n cap)
  have hnb : some b ≠ iv.ownBlock := fun e => by have := (hlt b e.symm).1; omega
  have hgb : b + 1 ≤ g := (World.ownsRow.lt hown g rfl).1
  have hbox := (h.box.kept hg hnb).set 5 (.slice (some ⟨g, 0, none⟩) n cap)
  have hro1 : w1.ownsRow (b + 1) 24 1 ov os.length os := World.ownsRow.kept h.ro hg (own_sideZ fun q hv e => h.ne q e.symm hv)
  have hog : ov.ownBlock ≠ some g := fun e => by
    rcases hat with e1 | e1
    · exact h.ne g e1 e
    · have := (hlo g e).2; omega
  refine ⟨⟨hbox, ?_, ?_, ?_, ?_, h.far, ?_⟩, ?_, ?_⟩
  · have e1 : (us ++ [u]).length = n := by rw [List.length_append, List.length_singleton, hn]
    rw [e1]
    exact World.ownsRow.kept hown hs (.inr (by rw [own_newZ]; intro e; injection e with e; omega))
  · exact World.ownsRow.kept hro1 hs (own_sideZ fun q hv e => by injection e with e; have := (hlo q hv).1; omega)
  · intro q hq e
    rw [own_newZ] at hq
    injection hq with hq
    subst hq
    exact hog e
  · intro q hq
    have := h.dat q hq
    refine ⟨this.1, ?_, ?_, this.2.2.2⟩
    · exact Nat.lt_of_lt_of_le this.2.1 (Nat.le_trans hg.size hs.size)
    · rw [own_newZ]
      intro e
      injection e with e
      subst e
      rcases hat with e1 | e1
      · exact this.2.2.1 e1
      · omega
  · intro q hq
    have := h.zz q hq
    refine ⟨Nat.lt_of_lt_of_le this.1 (Nat.le_trans hg.size hs.size), this.2.1, ?_, this.2.2.2.1, this.2.2.2.2⟩
    rw [own_newZ]
    intro e
    injection e with e
    subst e
    rcases hat with e1 | e1
    · exact this.2.2.1 e1
    · omega
  · intro q hq
    have := h.dat q hq
    rw [hs.block q (Nat.lt_of_lt_of_le this.2.1 hg.size) (fun e => by injection e with e; omega), hg.block q this.2.1 (fun e => this.2.2.1 e.symm)]
  · exact ((Kp.of hg).mono (fun q e => .inl (fun hq => (h.zz q hq).2.2.1 e.symm))).trans (Kp.of hs) (fun q e => .inl (fun hq => by injection e with e; exact (h.zz q hq).2.1 e))

/-- one more list of lists is kept -/
theorem Bz.pushO (h : Bz Z X w b iv ov us os E K) {g cap n : Nat} {u : Value} (hn : n = os.length + 1) (hg : w.grownBy w1 ov.ownBlock) (hown : w1.ownsRow (b + 1) 24 1 (.slice (some ⟨g, 0, none⟩) n cap) n (os ++ [u]))
    (hat : ov.ownBlock = some g ∨ g = w.heap.size) :
    Bz Z X (w1.setCell ⟨b, 6, none⟩ (.slice (some ⟨g, 0, none⟩) n cap)) b iv (.slice (some ⟨g, 0, none⟩) n cap) us (os ++ [u]) E K ∧
    (∀ q, E q ∨ K q → (w1.setCell ⟨b, 6, none⟩ (.slice (some ⟨g, 0, none⟩) n cap)).heap[q]? = w.heap[q]?) ∧ Zk Z w (w1.setCell ⟨b, 6, none⟩ (.slice (some ⟨g, 0, none⟩) n cap)) := by
  have hlt := World.ownsRow.lt h.ri
  have hlo := World.ownsRow.lt h.ro
  have hbl := h.box.lt
  have hs := grown_set w1 b 6 (.slice (some ⟨g, 0, none⟩) n cap)
  have hnb : some b ≠ ov.ownBlock := fun e => by have := (hlo b e.symm).1; omega
  have hgb : b + 1 ≤ g := (World.ownsRow.lt hown g rfl).1
  have hbox := (h.box.kept hg hnb).set 6 (.slice (some ⟨g, 0, none⟩) n cap)
  have hri1 : w1.ownsRow (b + 1) 30 1 iv us.length us := World.ownsRow.kept h.ri hg (own_sideZ fun q hv e => h.ne q hv e.symm)
  have hog : iv.ownBlock ≠ some g := fun e => by
    rcases hat with e1 | e1
    · exact h.ne g e e1
    · have := (hlt g e).2; omega
  refine ⟨⟨hbox, ?_, ?_, ?_, ?_, h.far, ?_⟩, ?_, ?_⟩
  · exact World.ownsRow.kept hri1 hs (own_sideZ fun q hv e => by injection e with e; have := (hlt q hv).1; omega)
  · have e1 : (os ++ [u]).length = n := by rw [List.length_append, List.length_singleton, hn]
    rw [e1]
    exact World.ownsRow.kept hown hs (.inr (by rw [own_newZ]; intro e; injection e with e; omega))
  · intro q hq e
    rw [own_newZ] at e
    injection e with e
    subst e
    exact hog hq
  · intro q hq
    have := h.dat q hq
    refine ⟨this.1, ?_, this.2.2.1, ?_⟩
    · exact Nat.lt_of_lt_of_le this.2.1 (Nat.le_trans hg.size hs.size)
    · rw [own_newZ]
      intro e
      injection e with e
      subst e
      rcases hat with e1 | e1
      · exact this.2.2.2 e1
      · omega
  · intro q hq
    have := h.zz q hq
    refine ⟨Nat.lt_of_lt_of_le this.1 (Nat.le_trans hg.size hs.size), this.2.1, this.2.2.1, ?_, this.2.2.2.2⟩
    rw [own_newZ]
    intro e
    injection e with e
    subst e
    rcases hat with e1 | e1
    · exact this.2.2.2.1 e1
    · omega
  · intro q hq
    have := h.dat q hq
    rw [hs.block q (Nat.lt_of_lt_of_le this.2.1 hg.size) (fun e => by injection e with e; omega), hg.block q this.2.1 (fun e => this.2.2.2 e.symm)]
  · exact ((Kp.of hg).mono (fun q e => .inl (fun hq => (h.zz q hq).2.2.2.1 e.symm))).trans (Kp.of hs) (fun q e => .inl (fun hq => by injection e with e; exact (h.zz q hq).2.1 e))
end

end Go.Proofs.Ytncmgnmcggkhnaa

namespace Go.Proofs.Ytncmgnmcggkhnaa
open Go.RowKit

theorem Zk.refl (Z : Nat → Prop) (w : World) : Zk Z w w := Kp.refl _ _
theorem Zk.trans {Z : Nat → Prop} {w w1 w2 : World} (h : Zk Z w w1) (h1 : Zk Z w1 w2) : Zk Z w w2 := Kp.trans h h1 (fun _ hq => .inl hq)
theorem Zk.row {Z : Nat → Prop} {w w1 w2 : World} {r : Option Nat} (h : Zk Z w w1) (hg : w1.grownBy w2 r) (hr : ∀ g, r = some g → ¬ Z g) : Zk Z w w2 := Kp.trans h (Kp.of hg) (fun q hq => .inl (hr q hq.symm))

theorem kl_take {lv : Value} {vs : List Value} {i g : Nat} (hi : i < vs.length) (hk : Kl lv vs (i + 1) g ∨ (vs.getD i undef).ownBlock = some g) : Kl lv vs i g ∨ (Value.slice none 0 0).ownBlock = some g := by
  rcases hk with (hk | ⟨j, h1, h2, h3⟩) | hk
  · exact .inl (.inl hk)
  · exact .inl (.inr ⟨j, by omega, h2, h3⟩)
  · exact .inl (.inr ⟨i, Nat.le_refl _, hi, hk⟩)

/-- where the owner of lists stands: lists from `i` on are as they came; `gv` is the one that is growing -/
structure KZ (Z : Nat → Prop) (X : Wd) (w0 w : World) (b : Nat) (lv : Value) (vs : List Value) (xss : List (List Int)) (i : Nat) (iv ov : Value) (us os : List Value) (E : Nat → Prop) (gv : Value) (n : Nat) (m : Int) : Prop where
  bk : Bz Z X w b iv ov us os E (fun g => Kl lv vs i g ∨ gv.ownBlock = some g)
  below : Zk Z w0 w
  row : w.ownsRow (b + 1) 30 1 lv vs.length vs
  own : ∀ j, i ≤ j → j < vs.length → Own w (b + 1) (vs.getD j undef) (xss.getD j [])
  apartL : ∀ j g, i ≤ j → j < vs.length → (vs.getD j undef).ownBlock = some g → lv.ownBlock ≠ some g
  apartV : ∀ j k g, j < k → k < vs.length → (vs.getD j undef).ownBlock = some g → (vs.getD k undef).ownBlock ≠ some g
  gown : Own w (b + 1) gv (List.replicate n m)
  gfar : ∀ g, gv.ownBlock = some g → ¬ Kl lv vs i g
  ints : ∀ k, k < us.length → Ent w (fun g n' => E g ∨ (gv.ownBlock = some g ∧ n' ≤ n)) (us.getD k undef) (mark1 k)
  outs : ∀ k, k < os.length → Ent2 w E (fun g _ => E g) (os.getD k undef) (mark2 k)

section
variable {Z : Nat → Prop} {X : Wd} {w0 w w1 : World} {b : Nat} {lv : Value} {vs : List Value} {xss : List (List Int)} {i : Nat} {iv ov : Value} {us os : List Value} {E : Nat → Prop} {gv : Value} {n : Nat} {m : Int}

/-- new memory -/
theorem KZ.new (h : KZ Z X w0 w b lv vs xss i iv ov us os E gv n m) (hg : w.grownBy w1 none) : KZ Z X w0 w1 b lv vs xss i iv ov us os E gv n m := by
  have hbl := h.bk.box.lt
  have hE : ∀ g, E g → g < w.heap.size := fun g hg => (h.bk.dat g (.inl hg)).2.1
  have hG : ∀ g, gv.ownBlock = some g → g < w.heap.size := fun g hg => (h.gown.lt g hg).2
  refine ⟨h.bk.data hg (fun g e => by cases e), h.below.row hg (fun q e => by cases e), World.ownsRow.kept h.row hg (own_side fun g _ => by simp), fun j hj hl => World.ownsRow.kept (h.own j hj hl) hg (own_side fun g _ => by simp), h.apartL, h.apartV, World.ownsRow.kept h.gown hg (own_side fun g _ => by simp), h.gfar, fun k hk => (h.ints k hk).step fun g n' hs => ⟨hs, fun j hj hc => cell_kept hc hg⟩, fun k hk => (h.outs k hk).step (fun g hgE => ⟨hgE, ?_⟩) fun g n' hs => ⟨hs, fun j gm cm hj hc => cell_kept hc hg⟩⟩
  exact World.cell?_of_block (w := w) (a := ⟨g, 0, none⟩) (hg.block g (hE g hgE) (by simp))

/-- a number is written into the list at hand -/
theorem KZ.write (h : KZ Z X w0 w b lv vs xss i iv ov us os E (.slice none 0 0) 0 m) {g cap k : Nat} {ys : List Int} {x : Int} (hi : i < vs.length) (hv : vs.getD i undef = .slice (some ⟨g, 0, none⟩) ys.length cap) (hx : xss.getD i [] = ys) (hxl : i < xss.length) :
    KZ Z X w0 (w.setCell ⟨g, k, none⟩ (.int .i64 x)) b lv vs (xss.set i (ys.set k x)) i iv ov us os E (.slice none 0 0) 0 m := by
  have hs := grown_set w g k (.int .i64 x)
  have hgb : (vs.getD i undef).ownBlock = some g := by rw [hv]; rfl
  have hK : Kl lv vs i g := .inr ⟨i, Nat.le_refl _, hi, hgb⟩
  have hd := h.bk.dat g (.inr (.inl hK))
  have hEne : ∀ q, E q → some q ≠ some g := fun q hq e => by injection e with e; subst e; exact h.bk.far q hq (.inl hK)
  refine ⟨h.bk.data hs (fun q e => by injection e with e; subst e; exact .inl hK), h.below.row hs (fun q e => by injection e with e; subst e; exact fun hq => (h.bk.zz _ hq).2.2.2.2.2 (.inl hK)), World.ownsRow.kept h.row hs (own_side fun q hq e => ?_), fun j hj hl => ?_, h.apartL, h.apartV, Own.nil _ _, (fun q e => by cases e), fun j hj => (h.ints j hj).step fun q n' hS => ?_, fun j hj => (h.outs j hj).step (fun q hq => ⟨hq, ?_⟩) fun q n' hS => ⟨hS, fun _ _ _ _ hc => hs.cell hc (hEne q hS)⟩⟩
  · injection e with e; subst e; exact h.apartL i q (Nat.le_refl _) hi hgb hq
  · by_cases hij : i = j
    · subst hij
      rw [getD_set_eq _ _ _ _ hxl, hv]
      have ho := h.own i (Nat.le_refl _) hi
      rw [hv, hx] at ho
      have hr : Row w (b + 1) g ys.length cap ys := by
        rcases ho.row with ⟨e, _⟩ | ⟨g', cap', e, hr⟩
        · cases e
        · obtain ⟨rfl, rfl⟩ : g = g' ∧ cap = cap' := by simpa using e
          exact hr
      have := (hr.stored k x).own
      exact this
    · rw [getD_set_ne _ _ _ _ _ hij]
      refine World.ownsRow.kept (h.own j hj hl) hs (own_side fun q hq e => ?_)
      injection e with e
      subst e
      rcases Nat.lt_or_gt_of_ne hij with hlt | hlt
      · exact h.apartV i j q hlt hl hgb hq
      · exact h.apartV j i q hlt hi hq hgb
  · rcases hS with hS | ⟨e, _⟩
    · exact ⟨.inl hS, fun _ _ hc => hs.cell hc (hEne q hS)⟩
    · cases e
  · exact World.cell?_of_block (w := w) (a := ⟨q, 0, none⟩) (hs.block q (h.bk.dat q (.inl hq)).2.1 (hEne q hq))

/-- the list at hand begins to grow -/
theorem KZ.take (h : KZ Z X w0 w b lv vs xss i iv ov us os E (.slice none 0 0) 0 m) (hi : i < vs.length) (hx : xss.getD i [] = List.replicate n m) : KZ Z X w0 w b lv vs xss (i + 1) iv ov us os E (vs.getD i undef) n m := by
  refine ⟨h.bk.sets (fun g hg => h.bk.dat g ?_) (fun g hg hk => h.bk.far g hg ?_) (fun q hq => ⟨(h.bk.zz q hq).2.2.2.2.1, fun hk => (h.bk.zz q hq).2.2.2.2.2 (kl_take hi hk)⟩), h.below, h.row, fun j hj hl => h.own j (by omega) hl, fun j g hj hl => h.apartL j g (by omega) hl, h.apartV, by rw [← hx]; exact h.own i (Nat.le_refl _) hi, ?_, fun k hk => (h.ints k hk).step fun g n' hS => ?_, h.outs⟩
  · rcases hg with hg | (hg | ⟨j, h1, h2, h3⟩) | hg
    · exact .inl hg
    · exact .inr (.inl (.inl hg))
    · exact .inr (.inl (.inr ⟨j, by omega, h2, h3⟩))
    · exact .inr (.inl (.inr ⟨i, Nat.le_refl _, hi, hg⟩))
  · rcases hk with (hk | ⟨j, h1, h2, h3⟩) | hk
    · exact .inl (.inl hk)
    · exact .inl (.inr ⟨j, by omega, h2, h3⟩)
    · exact .inl (.inr ⟨i, Nat.le_refl _, hi, hk⟩)
  · rintro g hg (hk | ⟨j, h1, h2, h3⟩)
    · exact h.apartL i g (Nat.le_refl _) hi hg hk
    · exact h.apartV i j g (by omega) h2 hg h3
  · rcases hS with hS | ⟨e, _⟩
    · exact ⟨.inl hS, fun _ _ hc => hc⟩
    · cases e

/-- it is kept as it is -/
theorem KZ.push (h : KZ Z X w0 w b lv vs xss i iv ov us os E gv n m) {g cap N : Nat} (hN : N = us.length + 1) (hn : n ≤ 1099511627776) (hm : m = mark1 us.length) (hg : w.grownBy w1 iv.ownBlock) (hown : w1.ownsRow (b + 1) 30 1 (.slice (some ⟨g, 0, none⟩) N cap) N (us ++ [gv]))
    (hat : iv.ownBlock = some g ∨ g = w.heap.size) :
    KZ Z X w0 (w1.setCell ⟨b, 5, none⟩ (.slice (some ⟨g, 0, none⟩) N cap)) b lv vs xss i (.slice (some ⟨g, 0, none⟩) N cap) ov (us ++ [gv]) os E gv n m := by
  have hp := h.bk.pushI hN hg hown hat
  have hs := grown_set w1 b 5 (.slice (some ⟨g, 0, none⟩) N cap)
  have hkeep : ∀ (v : Value) (e : TypeId) (n' : Nat) (xs : List Value), w.ownsRow (b + 1) e 1 v n' xs → (∀ q, v.ownBlock = some q → Kl lv vs i q ∨ gv.ownBlock = some q) → (w1.setCell ⟨b, 5, none⟩ (.slice (some ⟨g, 0, none⟩) N cap)).ownsRow (b + 1) e 1 v n' xs := by
    intro v e n' xs ho hv
    refine World.ownsRow.kept (World.ownsRow.kept ho hg (own_side fun q hq e => ?_)) hs (own_side fun q hq e => ?_)
    · exact (h.bk.dat q (.inr (hv q hq))).2.2.1 e.symm
    · injection e with e; have := (h.bk.dat q (.inr (hv q hq))).1; omega
  have hcell : ∀ q j u, E q ∨ (Kl lv vs i q ∨ gv.ownBlock = some q) → w.cell? ⟨q, j, none⟩ = some u → (w1.setCell ⟨b, 5, none⟩ (.slice (some ⟨g, 0, none⟩) N cap)).cell? ⟨q, j, none⟩ = some u := fun q j u hq hc => cell_block (hp.2.1 q hq) hc
  refine ⟨hp.1, h.below.trans hp.2.2, hkeep _ _ _ _ h.row (fun q hq => .inl (.inl hq)), fun j hj hl => hkeep _ _ _ _ (h.own j hj hl) (fun q hq => .inl (.inr ⟨j, hj, hl, hq⟩)), h.apartL, h.apartV, hkeep _ _ _ _ h.gown (fun q hq => .inr hq), h.gfar, fun k hk => ?_, fun k hk => (h.outs k hk).step (fun q hq => ⟨hq, World.cell?_of_block (w := w) (a := ⟨q, 0, none⟩) (hp.2.1 q (.inl hq))⟩) fun q n' hS => ⟨hS, fun j gm cm hj hc => hcell q j _ (.inl hS) hc⟩⟩
  rw [List.length_append, List.length_singleton] at hk
  by_cases hke : k < us.length
  · rw [show (us ++ [gv]).getD k undef = us.getD k undef by simp [List.getD, List.getElem?_append_left hke]]
    refine (h.ints k hke).step fun q n' hS => ⟨hS, fun j _ hc => hcell q j _ ?_ hc⟩
    rcases hS with hS | ⟨hS, _⟩
    · exact .inl hS
    · exact .inr (.inr hS)
  · obtain rfl : k = us.length := by omega
    rw [show (us ++ [gv]).getD us.length undef = gv by simp [List.getD]]
    rw [← hm]
    have hl := h.gown.ls
    rcases hl with ⟨rfl, e⟩ | ⟨q, c, hv, hc⟩
    · exact ⟨none, 0, 0, by omega, rfl, fun j hj => by omega⟩
    · rw [List.length_replicate] at hv hc
      refine ⟨_, n, c, hn, hv, fun j hj => ⟨q, rfl, .inr ⟨by rw [hv]; rfl, Nat.le_refl _⟩, ?_⟩⟩
      have := hc j hj
      rw [show (List.replicate n m).getD j 0 = m by simp [List.getD, hj]] at this
      exact hcell q j _ (.inr (.inr (by rw [hv]; rfl))) this

/-- it grows by one -/
theorem KZ.grow (h : KZ Z X w0 w b lv vs xss i iv ov us os E gv n m) {g cap : Nat} (hown : w1.ownsRow (b + 1) 3 1 (.slice (some ⟨g, 0, none⟩) (n + 1) cap) (n + 1) ((List.replicate n m).map (Value.int .i64) ++ [.int .i64 m]))
    (hat : (gv.ownBlock = some g ∧ w.grownBy w1 (some g)) ∨ (g = w.heap.size ∧ w.grownBy w1 none)) :
    ∃ E', KZ Z X w0 w1 b lv vs xss i iv ov us os E' (.slice (some ⟨g, 0, none⟩) (n + 1) cap) (n + 1) m := by
  have hbl := h.bk.box.lt
  have hrep : (List.replicate n m).map (Value.int .i64) ++ [.int .i64 m] = (List.replicate (n + 1) m).map (Value.int .i64) := by
    rw [show List.replicate (n + 1) m = List.replicate n m ++ [m] from List.replicate_succ', List.map_append]; rfl
  rw [hrep] at hown
  have hgo : Own w1 (b + 1) (.slice (some ⟨g, 0, none⟩) (n + 1) cap) (List.replicate (n + 1) m) := by
    unfold Own
    rw [List.length_replicate]
    exact hown
  have hri := World.ownsRow.lt h.bk.ri
  have hro := World.ownsRow.lt h.bk.ro
  have hnc : ∀ j, j < n + 1 → w1.cell? ⟨g, j, none⟩ = some (.int .i64 m) := by
    intro j hj
    rcases hgo.row with ⟨e, _⟩ | ⟨g', cap', e, hr⟩
    · cases e
    · injection e with e1 _ e3
      injection e1 with e1
      injection e1 with e1
      subst e1
      have := hr.cell j (by rw [List.length_replicate]; exact hj)
      rwa [show (List.replicate (n + 1) m).getD j 0 = m by simp [List.getD, hj]] at this
  rcases hat with ⟨hgv, hg⟩ | ⟨hgn, hg⟩
  · have hK : Kl lv vs i g ∨ gv.ownBlock = some g := .inr hgv
    have hnk := h.gfar g hgv
    have hEne : ∀ q, E q → some q ≠ some g := fun q hq e => by injection e with e; subst e; exact h.bk.far q hq hK
    have hbg := (h.bk.dat g (.inr hK)).1
    refine ⟨E, ⟨(h.bk.data hg (fun q e => by injection e with e; subst e; exact hK)).sets (fun q hq => (h.bk.data hg (fun q e => by injection e with e; subst e; exact hK)).dat q ?_) (fun q hq hk => h.bk.far q hq ?_) (fun q hq => ⟨(h.bk.zz q hq).2.2.2.2.1, fun hk => (h.bk.zz q hq).2.2.2.2.2 (by rcases hk with hk | hk; exact .inl hk; rw [own_new] at hk; injection hk with hk; subst hk; exact .inr hgv)⟩), h.below.row hg (fun q e => by injection e with e; subst e; exact fun hq => (h.bk.zz _ hq).2.2.2.2.2 hK), World.ownsRow.kept h.row hg (own_side fun q hq e => ?_), fun j hj hl => World.ownsRow.kept (h.own j hj hl) hg (own_side fun q hq e => ?_), h.apartL, h.apartV, hgo, fun q hq => ?_, fun k hk => (h.ints k hk).step fun q n' hS => ?_, fun k hk => (h.outs k hk).step (fun q hq => ⟨hq, World.cell?_of_block (w := w) (a := ⟨q, 0, none⟩) (hg.block q (h.bk.dat q (.inl hq)).2.1 (hEne q hq))⟩) fun q n' hS => ⟨hS, fun _ _ _ _ hc => hg.cell hc (hEne q hS)⟩⟩⟩
    · rcases hq with hq | hq | hq
      · exact .inl hq
      · exact .inr (.inl hq)
      · rw [own_new] at hq; injection hq with hq; subst hq; exact .inr (.inr hgv)
    · rcases hk with hk | hk
      · exact .inl hk
      · rw [own_new] at hk; injection hk with hk; subst hk; exact .inr hgv
    · injection e with e; subst e; exact hnk (.inl hq)
    · injection e with e; subst e; exact hnk (.inr ⟨j, hj, hl, hq⟩)
    · rw [own_new] at hq; injection hq with hq; subst hq; exact hnk
    · rcases hS with hS | ⟨hS, hle⟩
      · exact ⟨.inl hS, fun _ _ hc => hg.cell hc (hEne q hS)⟩
      · rw [hgv] at hS
        injection hS with hS
        subst hS
        refine ⟨.inr ⟨rfl, by omega⟩, fun j hj hc => ?_⟩
        have h1 := hnc j (by omega)
        have h0 : w.cell? ⟨g, j, none⟩ = some (.int .i64 m) := by
          rcases h.gown.row with ⟨e, _⟩ | ⟨g', cap', e, hr⟩
          · rw [e] at hgv; cases hgv
          · rw [e] at hgv
            rw [own_new] at hgv
            injection hgv with hgv
            subst hgv
            have := hr.cell j (by rw [List.length_replicate]; omega)
            rwa [show (List.replicate n m).getD j 0 = m by simp [List.getD, show j < n by omega]] at this
        rw [h0] at hc
        rw [h1, hc]
  · have hge : ∀ q, q < w.heap.size → q ≠ g := fun q hq => by omega
    have hkl : ∀ q, Kl lv vs i q → q < w.heap.size := fun q hq => (h.bk.dat q (.inr (.inl hq))).2.1
    refine ⟨fun q => E q ∨ gv.ownBlock = some q, ⟨(h.bk.data hg (fun q e => by cases e)).sets (fun q hq => ?_) (fun q hq hk => ?_) (fun q hq => ⟨fun hk => by rcases hk with hk | hk; exact (h.bk.zz q hq).2.2.2.2.1 hk; exact (h.bk.zz q hq).2.2.2.2.2 (.inr hk), fun hk => by rcases hk with hk | hk; exact (h.bk.zz q hq).2.2.2.2.2 (.inl hk); rw [own_new] at hk; injection hk with hk; have := (h.bk.zz q hq).1; omega⟩), h.below.row hg (fun q e => by cases e), World.ownsRow.kept h.row hg (own_side fun q _ => by simp), fun j hj hl => World.ownsRow.kept (h.own j hj hl) hg (own_side fun q _ => by simp), h.apartL, h.apartV, hgo, fun q hq hk => ?_, fun k hk => (h.ints k hk).step fun q n' hS => ⟨?_, fun _ _ hc => cell_kept hc hg⟩, fun k hk => (h.outs k hk).step (fun q hq => ⟨.inl hq, World.cell?_of_block (w := w) (a := ⟨q, 0, none⟩) (hg.block q (h.bk.dat q (.inl hq)).2.1 (by simp))⟩) fun q n' hS => ⟨.inl hS, fun _ _ _ _ hc => cell_kept hc hg⟩⟩⟩
    · have hold : (E q ∨ (Kl lv vs i q ∨ gv.ownBlock = some q)) ∨ q = g := by
        rcases hq with (hq | hq) | hq | hq
        · exact .inl (.inl hq)
        · exact .inl (.inr (.inr hq))
        · exact .inl (.inr (.inl hq))
        · rw [own_new] at hq; injection hq with hq; exact .inr hq.symm
      rcases hold with hold | rfl
      · have := h.bk.dat q hold
        exact ⟨this.1, Nat.lt_of_lt_of_le this.2.1 hg.size, this.2.2⟩
      · refine ⟨by omega, (hgo.lt q rfl).2, fun e => by have := (hri q e).2; omega, fun e => by have := (hro q e).2; omega⟩
    · rcases hk with hk | hk
      · rcases hq with hq | hq
        · exact h.bk.far q hq (.inl hk)
        · exact h.gfar q hq hk
      · rw [own_new] at hk
        injection hk with hk
        subst hk
        rcases hq with hq | hq
        · have := (h.bk.dat g (.inl hq)).2.1; omega
        · have := (h.gown.lt g hq).2; omega
    · rw [own_new] at hq
      injection hq with hq
      subst hq
      have := hkl g hk
      omega
    · rcases hS with hS | ⟨hS, _⟩
      · exact .inl (.inl hS)
      · exact .inl (.inr hS)

/-- it is left alone from here on -/
theorem KZ.done (h : KZ Z X w0 w b lv vs xss i iv ov us os E gv n m) (m' : Int) : KZ Z X w0 w b lv vs xss i iv ov us os (fun q => E q ∨ gv.ownBlock = some q) (.slice none 0 0) 0 m' := by
  refine ⟨h.bk.sets (fun g hg => h.bk.dat g ?_) (fun g hg hk => ?_) (fun q hq => ⟨fun hk => by rcases hk with hk | hk; exact (h.bk.zz q hq).2.2.2.2.1 hk; exact (h.bk.zz q hq).2.2.2.2.2 (.inr hk), fun hk => by rcases hk with hk | hk; exact (h.bk.zz q hq).2.2.2.2.2 (.inl hk); cases hk⟩), h.below, h.row, h.own, h.apartL, h.apartV, Own.nil _ _, (fun q e => by cases e), fun k hk => (h.ints k hk).step fun g n' hS => ⟨?_, fun _ _ hc => hc⟩, fun k hk => (h.outs k hk).step (fun g hg => ⟨.inl hg, rfl⟩) fun g n' hS => ⟨.inl hS, fun _ _ _ _ hc => hc⟩⟩
  · rcases hg with (hg | hg) | hg | hg
    · exact .inl hg
    · exact .inr (.inr hg)
    · exact .inr (.inl hg)
    · cases hg
  · rcases hk with hk | hk
    · rcases hg with hg | hg
      · exact h.bk.far g hg (.inl hk)
      · exact h.gfar g hg hk
    · cases hk
  · rcases hS with hS | ⟨hS, _⟩
    · exact .inl (.inl hS)
    · exact .inl (.inr hS)
end
end Go.Proofs.Ytncmgnmcggkhnaa
