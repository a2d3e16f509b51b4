import Derived.Test.YtncmgnmcggkhnaaG07
import Derived.Deep.DeepCutAuto
import Derived.Deep.LoopGhost
import Derived.Test.YtncmgnmcggkhnaaG10
import Derived.Below
import Derived.Deep.AppendLies
import Derived.ArgAppend
namespace Go.Proofs.Ytncmgnmcggkhnaa
open Go.RowKit

/-- a list of one number only -/
def Mk (w : World) (v : Value) (m : Int) : Prop :=
  ∃ (a : Option Addr) (n c : Nat), n ≤ 1099511627776 ∧ v = .slice a n c ∧ ∀ j, j < n → ∃ g, a = some ⟨g, 0, none⟩ ∧ w.cell? ⟨g, j, none⟩ = some (.int .i64 m)

/-- a list of lists of one number each -/
def Mk2 (w : World) (v : Value) (m : Int) : Prop :=
  ∃ (a : Option Addr) (n c : Nat), n ≤ 1099511627776 ∧ v = .slice a n c ∧ ∀ j, j < n → ∃ g gm cm, a = some ⟨g, 0, none⟩ ∧ w.cell? ⟨g, j, none⟩ = some (.slice (some ⟨gm, 0, none⟩) 1 cm) ∧ w.cell? ⟨gm, 0, none⟩ = some (.int .i64 m)

/-- a list of kept things, four of each mark -/
def Shelf (P : Value → Int → Prop) (w : World) (v : Value) (N : Nat) (m0 : Int) : Prop :=
  ∃ (a : Option Addr) (c : Nat), v = .slice a N c ∧ ∀ i, i < N → ∃ g u, a = some ⟨g, 0, none⟩ ∧ w.cell? ⟨g, i, none⟩ = some u ∧ P u (m0 - ((i / 4 : Nat) : Int))

set_option maxHeartbeats 2000000 in
set_option maxRecDepth 20000 in
theorem looks_true (w : World) (b N M : Nat) (iv ov : Value) (hN : N ≤ 1099511627776) (hM : M ≤ 1099511627776) (h0 : w.cell? ⟨b, 0, none⟩ = some iv) (h1 : w.cell? ⟨b, 1, none⟩ = some ov)
    (hi : Shelf (Mk w) w iv N (-1000000)) (ho : Shelf (Mk2 w) w ov M (-2000000)) :
    Calls Try.prog 20 #[.pointer (some ⟨b, 0, none⟩)] w fun e w' => e = .returned (.bool true) ∧ w' = w := by
  obtain ⟨a0, c0, rfl, hi⟩ := hi
  obtain ⟨a1, c1, rfl, ho⟩ := ho
  have HI : Hid _ := hi
  have HO : Hid _ := ho
  clear hi ho
  go_enter Try.func20, Try.ntmps20
  go_wp2_with fail
  go_loopg [3] N (fun gk i wr => ∃ k : Nat, gk + k = N ∧ i = .int .i64 k ∧ wr = w)
  case atStart => exact ⟨0, rfl, rfl, rfl⟩
  case round =>
    obtain ⟨k, hk, rfl, rfl⟩ := hrel
    by_cases hlt : k < N
    · obtain ⟨g, u, rfl, hu, a, n, c, hn, rfl, hc⟩ := HI.out k hlt
      have HC : Hid _ := hc
      have hq : (k : Int).tdiv 4 = ((k / 4 : Nat) : Int) := rfl
      obtain ⟨q, hqq⟩ : ∃ q, k / 4 = q := ⟨_, rfl⟩
      have hqb : q ≤ 1099511627776 := by omega
      rw [hqq] at hq
      have HQ : Hid (k / 4 = q) := hqq
      clear hc hqq
      go_wp2_with fail
      obtain ⟨ko, rfl⟩ : ∃ ko : Nat, ko = gk := ⟨_, rfl⟩
      go_loopg [4] n (fun gq i wq => ∃ j : Nat, gq + j = n ∧ i = .int .i64 j ∧ wq = wr)
      case atStart => exact ⟨0, rfl, rfl, rfl⟩
      case round =>
        obtain ⟨j, hj, rfl, rfl⟩ := hrel
        by_cases hjn : j < n
        · obtain ⟨gg, rfl, hcc⟩ := HC.out j hjn
          rw [HQ.out] at hcc
          have hne : ((-1000000 - (q : Int) : Int) != (-1000000 - (q : Int))) = false := by simp
          go_wp2
          go_roundg (gk - 1)
          case measure => omega
          case rel => exact ⟨j + 1, by omega, by go_num, rfl⟩
        · have tj : decide ((j : Int) < (n : Int)) = false := decide_eq_false (by omega)
          go_wp2
          go_roundg (ko - 1)
          case measure => omega
          case rel => exact ⟨k + 1, by omega, by go_num, rfl⟩
    · have tk : decide ((k : Int) < (N : Int)) = false := decide_eq_false (by omega)
      go_wp2_with fail
      clear tk hlt hk
      go_loopg [5] M (fun gk i wq => ∃ k : Nat, gk + k = M ∧ i = .int .i64 k ∧ wq = wr)
      case atStart => exact ⟨0, rfl, rfl, rfl⟩
      case round =>
        obtain ⟨k, hk, rfl, rfl⟩ := hrel
        by_cases hlt : k < M
        · obtain ⟨g, u, rfl, hu, a, n, c, hn, rfl, hc⟩ := HO.out k hlt
          have HC : Hid _ := hc
          have hq : (k : Int).tdiv 4 = ((k / 4 : Nat) : Int) := rfl
          obtain ⟨q, hqq⟩ : ∃ q, k / 4 = q := ⟨_, rfl⟩
          have hqb : q ≤ 1099511627776 := by omega
          rw [hqq] at hq
          have HQ : Hid (k / 4 = q) := hqq
          clear hc hqq
          go_wp2_with fail
          obtain ⟨ko, rfl⟩ : ∃ ko : Nat, ko = gk := ⟨_, rfl⟩
          go_loopg [6] n (fun gq i wq => ∃ j : Nat, gq + j = n ∧ i = .int .i64 j ∧ wq = wr)
          case atStart => exact ⟨0, rfl, rfl, rfl⟩
          case round =>
            obtain ⟨j, hj, rfl, rfl⟩ := hrel
            by_cases hjn : j < n
            · obtain ⟨gg, gm, cm, rfl, hcc, hcm⟩ := HC.out j hjn
              rw [HQ.out] at hcm
              have hne : ((-2000000 - (q : Int) : Int) != (-2000000 - (q : Int))) = false := by simp
              go_wp2
              go_roundg (gk - 1)
              case measure => omega
              case rel => exact ⟨j + 1, by omega, by go_num, rfl⟩
            · have tj : decide ((j : Int) < (n : Int)) = false := decide_eq_false (by omega)
              go_wp2
              go_roundg (ko - 1)
              case measure => omega
              case rel => exact ⟨k + 1, by omega, by go_num, rfl⟩
        · have tk : decide ((k : Int) < (M : Int)) = false := decide_eq_false (by omega)
          go_wp2
          go_ret
          exact ⟨rfl, rfl⟩
end Go.Proofs.Ytncmgnmcggkhnaa

namespace Go.Proofs.Ytncmgnmcggkhnaa
open Go.RowKit

/-- the book in memory: its two rows. `E`: blocks of what it keeps; `K`: blocks that are still written -/
structure Bk (w : World) (b : Nat) (iv ov : Value) (us os : List Value) (E K : Nat → Prop) : Prop where
  box : Box w b #[iv, ov] 34
  ri : w.ownsRow (b + 1) 30 1 iv us.length us
  ro : w.ownsRow (b + 1) 24 1 ov os.length os
  ne : ∀ g, iv.ownBlock = some g → ov.ownBlock ≠ some g
  dat : ∀ g, E g ∨ K g → b < g ∧ g < w.heap.size ∧ iv.ownBlock ≠ some g ∧ ov.ownBlock ≠ some g
  far : ∀ g, E g → ¬ K g

section
variable {w w1 : World} {b : Nat} {iv ov : Value} {us os : List Value} {E K E' K' : Nat → Prop}

theorem own_side {v : Value} {row : Option Nat} (h : ∀ g, v.ownBlock = some g → some g ≠ row) : v.ownBlock = none ∨ v.ownBlock ≠ row := by
  cases hv : v.ownBlock with
  | none => exact .inl rfl
  | some g => exact .inr (h g hv)

/-- a write into a live block; new blocks -/
theorem Bk.data {row : Option Nat} (h : Bk w b iv ov us os E K) (hg : w.grownBy w1 row) (hr : ∀ g, row = some g → K g) : Bk w1 b iv ov us os E K := by
  refine ⟨h.box.kept hg (fun e => ?_), World.ownsRow.kept h.ri hg (own_side fun g hv e => ?_), World.ownsRow.kept h.ro hg (own_side fun g hv e => ?_), h.ne, fun g hgE => ?_, h.far⟩
  · have := (h.dat b (.inr (hr b e.symm))).1; omega
  · exact (h.dat g (.inr (hr g e.symm))).2.2.1 hv
  · exact (h.dat g (.inr (hr g e.symm))).2.2.2 hv
  · have := h.dat g hgE
    exact ⟨this.1, Nat.lt_of_lt_of_le this.2.1 hg.size, this.2.2⟩

/-- other sets -/
theorem Bk.sets (h : Bk w b iv ov us os E K) (hd : ∀ g, E' g ∨ K' g → b < g ∧ g < w.heap.size ∧ iv.ownBlock ≠ some g ∧ ov.ownBlock ≠ some g) (hf : ∀ g, E' g → ¬ K' g) : Bk w b iv ov us os E' K' :=
  ⟨h.box, h.ri, h.ro, h.ne, hd, hf⟩

theorem own_new {g : Nat} {cap n : Nat} : Value.ownBlock (.slice (some ⟨g, 0, none⟩) n cap) = some g := rfl

/-- one more list is kept -/
theorem Bk.pushI (h : Bk w b iv ov us os E K) {g cap n : Nat} {u : Value} (hn : n = us.length + 1) (hg : w.grownBy w1 iv.ownBlock) (hown : w1.ownsRow (b + 1) 30 1 (.slice (some ⟨g, 0, none⟩) n cap) n (us ++ [u]))
    (hat : iv.ownBlock = some g ∨ g = w.heap.size) :
    Bk (w1.setCell ⟨b, 0, none⟩ (.slice (some ⟨g, 0, none⟩) n cap)) b (.slice (some ⟨g, 0, none⟩) n cap) ov (us ++ [u]) os E K ∧
    (∀ q, E q ∨ K q → (w1.setCell ⟨b, 0, none⟩ (.slice (some ⟨g, 0, none⟩) n cap)).heap[q]? = w.heap[q]?) ∧ Below b w (w1.setCell ⟨b, 0, none⟩ (.slice (some ⟨g, 0, none⟩) n cap)) := by
  have hlt := World.ownsRow.lt h.ri
  have hlo := World.ownsRow.lt h.ro
  have hbl := h.box.lt
  have hs := grown_set w1 b 0 (.slice (some ⟨g, 0, none⟩) n cap)
  have hnb : some b ≠ iv.ownBlock := fun e => by have := (hlt b e.symm).1; omega
  have hgb : b + 1 ≤ g := (World.ownsRow.lt hown g rfl).1
  have hbox := (h.box.kept hg hnb).set 0 (.slice (some ⟨g, 0, none⟩) n cap)
  have hro1 : w1.ownsRow (b + 1) 24 1 ov os.length os := World.ownsRow.kept h.ro hg (own_side fun q hv e => h.ne q e.symm hv)
  have hog : ov.ownBlock ≠ some g := fun e => by
    rcases hat with e1 | e1
    · exact h.ne g e1 e
    · have := (hlo g e).2; omega
  refine ⟨⟨hbox, ?_, ?_, ?_, ?_, h.far⟩, ?_, ?_⟩
  · have e1 : (us ++ [u]).length = n := by rw [List.length_append, List.length_singleton, hn]
    rw [e1]
    exact World.ownsRow.kept hown hs (.inr (by rw [own_new]; intro e; injection e with e; omega))
  · exact World.ownsRow.kept hro1 hs (own_side fun q hv e => by injection e with e; have := (hlo q hv).1; omega)
  · intro q hq e
    rw [own_new] at hq
    injection hq with hq
    subst hq
    exact hog e
  · intro q hq
    have := h.dat q hq
    refine ⟨this.1, ?_, ?_, this.2.2.2⟩
    · exact Nat.lt_of_lt_of_le this.2.1 (Nat.le_trans hg.size hs.size)
    · rw [own_new]
      intro e
      injection e with e
      subst e
      rcases hat with e1 | e1
      · exact this.2.2.1 e1
      · omega
  · intro q hq
    have := h.dat q hq
    rw [hs.block q (Nat.lt_of_lt_of_le this.2.1 hg.size) (fun e => by injection e with e; omega), hg.block q this.2.1 (fun e => this.2.2.1 e.symm)]
  · exact ((Below.refl b w).grown hg (by omega) (fun k e => by have := (hlt k e).1; omega)).setCell (Nat.le_refl _) _

/-- one more list of lists is kept -/
theorem Bk.pushO (h : Bk w b iv ov us os E K) {g cap n : Nat} {u : Value} (hn : n = os.length + 1) (hg : w.grownBy w1 ov.ownBlock) (hown : w1.ownsRow (b + 1) 24 1 (.slice (some ⟨g, 0, none⟩) n cap) n (os ++ [u]))
    (hat : ov.ownBlock = some g ∨ g = w.heap.size) :
    Bk (w1.setCell ⟨b, 1, none⟩ (.slice (some ⟨g, 0, none⟩) n cap)) b iv (.slice (some ⟨g, 0, none⟩) n cap) us (os ++ [u]) E K ∧
    (∀ q, E q ∨ K q → (w1.setCell ⟨b, 1, none⟩ (.slice (some ⟨g, 0, none⟩) n cap)).heap[q]? = w.heap[q]?) ∧ Below b w (w1.setCell ⟨b, 1, none⟩ (.slice (some ⟨g, 0, none⟩) n cap)) := by
  have hlt := World.ownsRow.lt h.ri
  have hlo := World.ownsRow.lt h.ro
  have hbl := h.box.lt
  have hs := grown_set w1 b 1 (.slice (some ⟨g, 0, none⟩) n cap)
  have hnb : some b ≠ ov.ownBlock := fun e => by have := (hlo b e.symm).1; omega
  have hgb : b + 1 ≤ g := (World.ownsRow.lt hown g rfl).1
  have hbox := (h.box.kept hg hnb).set 1 (.slice (some ⟨g, 0, none⟩) n cap)
  have hri1 : w1.ownsRow (b + 1) 30 1 iv us.length us := World.ownsRow.kept h.ri hg (own_side fun q hv e => h.ne q hv e.symm)
  have hog : iv.ownBlock ≠ some g := fun e => by
    rcases hat with e1 | e1
    · exact h.ne g e e1
    · have := (hlt g e).2; omega
  refine ⟨⟨hbox, ?_, ?_, ?_, ?_, h.far⟩, ?_, ?_⟩
  · exact World.ownsRow.kept hri1 hs (own_side fun q hv e => by injection e with e; have := (hlt q hv).1; omega)
  · have e1 : (os ++ [u]).length = n := by rw [List.length_append, List.length_singleton, hn]
    rw [e1]
    exact World.ownsRow.kept hown hs (.inr (by rw [own_new]; intro e; injection e with e; omega))
  · intro q hq e
    rw [own_new] at e
    injection e with e
    subst e
    exact hog hq
  · intro q hq
    have := h.dat q hq
    refine ⟨this.1, ?_, this.2.2.1, ?_⟩
    · exact Nat.lt_of_lt_of_le this.2.1 (Nat.le_trans hg.size hs.size)
    · rw [own_new]
      intro e
      injection e with e
      subst e
      rcases hat with e1 | e1
      · exact this.2.2.2 e1
      · omega
  · intro q hq
    have := h.dat q hq
    rw [hs.block q (Nat.lt_of_lt_of_le this.2.1 hg.size) (fun e => by injection e with e; omega), hg.block q this.2.1 (fun e => this.2.2.2 e.symm)]
  · exact ((Below.refl b w).grown hg (by omega) (fun k e => by have := (hlo k e).1; omega)).setCell (Nat.le_refl _) _
end

/-- a kept list: numbers `m` only, in a block of `S` (with its length) -/
def Ent (w : World) (S : Nat → Nat → Prop) (v : Value) (m : Int) : Prop :=
  ∃ (a : Option Addr) (n c : Nat), n ≤ 1099511627776 ∧ v = .slice a n c ∧ ∀ j, j < n → ∃ g, a = some ⟨g, 0, none⟩ ∧ S g n ∧ w.cell? ⟨g, j, none⟩ = some (.int .i64 m)

theorem Ent.mk {w : World} {S : Nat → Nat → Prop} {v : Value} {m : Int} (h : Ent w S v m) : Mk w v m := by
  obtain ⟨a, n, c, hn, hv, hc⟩ := h
  exact ⟨a, n, c, hn, hv, fun j hj => by obtain ⟨g, h1, _, h3⟩ := hc j hj; exact ⟨g, h1, h3⟩⟩

theorem Ent.step {w w' : World} {S S' : Nat → Nat → Prop} {v : Value} {m : Int} (h : Ent w S v m) (hs : ∀ g n, S g n → S' g n ∧ ∀ j, j < n → w.cell? ⟨g, j, none⟩ = some (.int .i64 m) → w'.cell? ⟨g, j, none⟩ = some (.int .i64 m)) : Ent w' S' v m := by
  obtain ⟨a, n, c, hn, hv, hc⟩ := h
  refine ⟨a, n, c, hn, hv, fun j hj => ?_⟩
  obtain ⟨g, h1, h2, h3⟩ := hc j hj
  exact ⟨g, h1, (hs g n h2).1, (hs g n h2).2 j hj h3⟩

/-- a kept list of lists -/
def Ent2 (w : World) (E : Nat → Prop) (S : Nat → Nat → Prop) (v : Value) (m : Int) : Prop :=
  ∃ (a : Option Addr) (n c : Nat), n ≤ 1099511627776 ∧ v = .slice a n c ∧ ∀ j, j < n → ∃ g gm cm, a = some ⟨g, 0, none⟩ ∧ S g n ∧ E gm ∧ w.cell? ⟨g, j, none⟩ = some (.slice (some ⟨gm, 0, none⟩) 1 cm) ∧ w.cell? ⟨gm, 0, none⟩ = some (.int .i64 m)

theorem Ent2.mk {w : World} {E : Nat → Prop} {S : Nat → Nat → Prop} {v : Value} {m : Int} (h : Ent2 w E S v m) : Mk2 w v m := by
  obtain ⟨a, n, c, hn, hv, hc⟩ := h
  exact ⟨a, n, c, hn, hv, fun j hj => by obtain ⟨g, gm, cm, h1, _, _, h3, h4⟩ := hc j hj; exact ⟨g, gm, cm, h1, h3, h4⟩⟩

theorem Ent2.step {w w' : World} {E E' : Nat → Prop} {S S' : Nat → Nat → Prop} {v : Value} {m : Int} (h : Ent2 w E S v m) (he : ∀ g, E g → E' g ∧ w'.cell? ⟨g, 0, none⟩ = w.cell? ⟨g, 0, none⟩)
    (hs : ∀ g n, S g n → S' g n ∧ ∀ j gm cm, j < n → w.cell? ⟨g, j, none⟩ = some (.slice (some ⟨gm, 0, none⟩) 1 cm) → w'.cell? ⟨g, j, none⟩ = some (.slice (some ⟨gm, 0, none⟩) 1 cm)) : Ent2 w' E' S' v m := by
  obtain ⟨a, n, c, hn, hv, hc⟩ := h
  refine ⟨a, n, c, hn, hv, fun j hj => ?_⟩
  obtain ⟨g, gm, cm, h1, h2, h3, h4, h5⟩ := hc j hj
  exact ⟨g, gm, cm, h1, (hs g n h2).1, (he gm h3).1, (hs g n h2).2 j gm cm hj h4, by rw [(he gm h3).2]; exact h5⟩
end Go.Proofs.Ytncmgnmcggkhnaa

namespace Go.Proofs.Ytncmgnmcggkhnaa
open Go.RowKit

/-- append: in its own block, or in a new one, and then the old block is as it was -/
theorem run_append_both {P : Program} (w : World) (t ty : TypeId) (base : Nat) (e : TypeId) (i : TypeInfo) (z : Value) (bytes : Nat) (ht : P.underlying t = some (.slice e)) (hi : P.info? e = some i) (hz : i.zero = some z)
    (hsize : i.size = 1) (hby : i.bytes = bytes) (hzs : z.cells.size = 1)
    (v : Value) (n : Nat) (xs : List Value) (hown : w.ownsRow base e 1 v n xs)
    (ad : Addr) (c : Nat) (x : Value) (hx : w.cell? ad = some x) (h1 : x.oneCell' = true)
    (h63 : n + 1 ≤ maxLen) (hbytes : (n + 1) * bytes ≤ 140737488355328) (hbase : base ≤ w.heap.size) :
    ∃ g cap w', (Builtin.append_ #[t, t] ty #[v, .slice (some ad) 1 c]).run P w = .ok (.slice (some ⟨g, 0, none⟩) (n + 1) cap) w' ∧
      w'.ownsRow base e 1 (.slice (some ⟨g, 0, none⟩) (n + 1) cap) (n + 1) (xs ++ [x]) ∧ ((v.ownBlock = some g ∧ w.grownBy w' (some g)) ∨ (g = w.heap.size ∧ w.grownBy w' none)) ∧ g < w'.heap.size := by
  have hnews : ∀ j u, [x][j]? = some u → w.cell? (ad.add j) = some u := fun j u hu => by
    cases j with
    | zero => rw [show ad.add 0 = ad by unfold Addr.add; split <;> simp_all]; rw [hx]; simpa using hu
    | succ j => simp at hu
  have h1' : ∀ u ∈ [x], u.oneCell' = true := fun u hu => by rw [List.mem_singleton.1 hu]; exact h1
  obtain ⟨g, cap, w', hr, h2, h3, h4, h5⟩ := run_append_lies (P := P) w t ty base e i z 1 bytes ht hi hz hsize hby hzs (by omega) v n xs hown ad 1 c [x] rfl hnews h1' (by omega) h63 hbytes hbase w.heap.size rfl
  refine ⟨g, cap, w', hr, h2, ?_, h5⟩
  rcases hown.2 with ⟨rfl, rfl⟩ | ⟨g0, cap0, cur, rfl, hb0, hblk, hnc, hcm, hcs, htake⟩
  · rcases h4 with h4 | h4
    · cases h4
    · exact .inr ⟨h4, h3⟩
  · rcases h4 with h4 | h4
    · exact .inl ⟨h4, by rw [← h4]; exact h3⟩
    · right
      refine ⟨h4, ?_⟩
      have hlt : g0 < w.heap.size := by
        rcases Nat.lt_or_ge g0 w.heap.size with h | h
        · exact h
        · rw [Array.getElem?_eq_none h] at hblk; cases hblk
      by_cases hroom : n + 1 ≤ cap0
      · have hcell : ∀ j, w.cell? ⟨g0, j, none⟩ = cur[j]? := fun j => cell_of_row w g0 j cur e (0, 0) hblk
        have hrun := run_append_room_cells (P := P) w t ty e i ht hi g0 0 n cap0 ad 1 c [x] (by rw [hsize]; rfl) hnews h1' hroom
          (fun j hj => by
            have hj0 : j = 0 := by simpa using hj
            rw [hcell, hj0, hsize, Array.getElem?_eq_getElem (by omega)]; rfl)
          (fun j hj => World.ownsRow.frozenAt hown _)
        rw [hr] at hrun
        injection hrun with e1 _
        injection e1 with e1
        injection e1 with e1
        injection e1 with e1
        omega
      · obtain ⟨v', w2, hrun, _, hgr⟩ := run_append_arg_grows (P := P) w t ty e i z 1 bytes ht hi hz hsize hby hzs (by omega) ⟨g0, 0, none⟩ n cap0 xs hown.1 (fun j u hu => by
            have e9 : (⟨g0, 0, none⟩ : Addr).add j = ⟨g0, j, none⟩ := by
              unfold Addr.add
              split
              · rename_i e; rw [e]
              · simp
            rw [e9, cell_of_row w g0 j cur e (0, 0) hblk]
            have hjl : j < n * 1 := by
              rcases Nat.lt_or_ge j xs.length with h | h
              · rw [← hown.1]; exact h
              · rw [List.getElem?_eq_none h] at hu; cases hu
            rw [← htake, List.getElem?_take_of_lt hjl] at hu
            simpa using hu) ad 1 c [x] rfl hnews (by omega) h63 hbytes
        rw [hr] at hrun
        injection hrun with _ e2
        rw [e2]
        exact hgr

theorem wpList_append_both {P : Program} (w : World) {ops : Array Oper} {rest : List Oper} {o : Oper} {a : Act} {Q : Exit → Act → World → Prop} (hgd : o.guard = none) (s x : Operand) (t : TypeId)
    (ho : o.op = .call { callee := .builtin .append, args := #[s, x], argTypes := #[t, t] })
    (base : Nat) (e : TypeId) (i : TypeInfo) (z : Value) (bytes : Nat) (ht : P.underlying t = some (.slice e)) (hi : P.info? e = some i) (hz : i.zero = some z)
    (hsize : i.size = 1) (hby : i.bytes = bytes) (hzs : z.cells.size = 1)
    (v : Value) (n : Nat) (xs : List Value) (hs : a.eval s = v) (hown : w.ownsRow base e 1 v n xs)
    (ad : Addr) (c : Nat) (u : Value) (hx : a.eval x = .slice (some ad) 1 c) (hu : w.cell? ad = some u) (h1 : u.oneCell' = true)
    (h63 : n + 1 ≤ maxLen) (hbytes : (n + 1) * bytes ≤ 140737488355328) (hbase : base ≤ w.heap.size)
    (h : ∀ g cap w', w'.ownsRow base e 1 (.slice (some ⟨g, 0, none⟩) (n + 1) cap) (n + 1) (xs ++ [u]) → ((v.ownBlock = some g ∧ w.grownBy w' (some g)) ∨ (g = w.heap.size ∧ w.grownBy w' none)) → g < w'.heap.size → wpList P ops Q rest (a.put o.dst (.slice (some ⟨g, 0, none⟩) (n + 1) cap)) w') :
    wpList P ops Q (o :: rest) a w := by
  refine wpList_plain hgd fun K hK => ?_
  obtain ⟨g, cap, w', hr, h2, h3, h4⟩ := run_append_both (P := P) w t o.type base e i z bytes ht hi hz hsize hby hzs v n xs hown ad c u hu h1 h63 hbytes hbase
  unfold Oper.wp execOp
  simp only [ho, resolve, invoke, builtin, Sem.run_bind, Sem.run_pure, Result.andThen_ok, List.map_toArray, List.map_cons, List.map_nil, hs, hx, hr]
  exact hK _ _ (h g cap w' h2 h3 h4)
end Go.Proofs.Ytncmgnmcggkhnaa

namespace Go.Proofs.Ytncmgnmcggkhnaa
open Go.RowKit

/-- the blocks of lists that are still to be kept -/
def Kl (lv : Value) (vs : List Value) (i : Nat) (g : Nat) : Prop := lv.ownBlock = some g ∨ ∃ j, i ≤ j ∧ j < vs.length ∧ (vs.getD j undef).ownBlock = some g

def mark1 (k : Nat) : Int := -1000000 - ((k / 4 : Nat) : Int)
def mark2 (k : Nat) : Int := -2000000 - ((k / 4 : Nat) : Int)

/-- where the owner of lists stands: lists from `i` on are as they came; `gv` is the one that is growing -/
structure KS (w0 w : World) (b : Nat) (lv : Value) (vs : List Value) (xss : List (List Int)) (i : Nat) (iv ov : Value) (us os : List Value) (E : Nat → Prop) (gv : Value) (n : Nat) (m : Int) : Prop where
  bk : Bk w b iv ov us os E (fun g => Kl lv vs i g ∨ gv.ownBlock = some g)
  below : Below b w0 w
  row : w.ownsRow (b + 1) 30 1 lv vs.length vs
  own : ∀ j, i ≤ j → j < vs.length → Own w (b + 1) (vs.getD j undef) (xss.getD j [])
  apartL : ∀ j g, i ≤ j → j < vs.length → (vs.getD j undef).ownBlock = some g → lv.ownBlock ≠ some g
  apartV : ∀ j k g, j < k → k < vs.length → (vs.getD j undef).ownBlock = some g → (vs.getD k undef).ownBlock ≠ some g
  gown : Own w (b + 1) gv (List.replicate n m)
  gfar : ∀ g, gv.ownBlock = some g → ¬ Kl lv vs i g
  ints : ∀ k, k < us.length → Ent w (fun g n' => E g ∨ (gv.ownBlock = some g ∧ n' ≤ n)) (us.getD k undef) (mark1 k)
  outs : ∀ k, k < os.length → Ent2 w E (fun g _ => E g) (os.getD k undef) (mark2 k)

section
variable {w0 w w1 : World} {b : Nat} {lv : Value} {vs : List Value} {xss : List (List Int)} {i : Nat} {iv ov : Value} {us os : List Value} {E : Nat → Prop} {gv : Value} {n : Nat} {m : Int}

theorem cell_block {w w' : World} {g j : Nat} {u : Value} (e : w'.heap[g]? = w.heap[g]?) (h : w.cell? ⟨g, j, none⟩ = some u) : w'.cell? ⟨g, j, none⟩ = some u := by
  rw [← h]; exact World.cell?_of_block (w := w) (a := ⟨g, j, none⟩) e

/-- new memory -/
theorem KS.new (h : KS w0 w b lv vs xss i iv ov us os E gv n m) (hg : w.grownBy w1 none) : KS w0 w1 b lv vs xss i iv ov us os E gv n m := by
  have hbl := h.bk.box.lt
  have hE : ∀ g, E g → g < w.heap.size := fun g hg => (h.bk.dat g (.inl hg)).2.1
  have hG : ∀ g, gv.ownBlock = some g → g < w.heap.size := fun g hg => (h.gown.lt g hg).2
  refine ⟨h.bk.data hg (fun g e => by cases e), h.below.grown hg (by omega) (fun k e => by cases e), World.ownsRow.kept h.row hg (own_side fun g _ => by simp), fun j hj hl => World.ownsRow.kept (h.own j hj hl) hg (own_side fun g _ => by simp), h.apartL, h.apartV, World.ownsRow.kept h.gown hg (own_side fun g _ => by simp), h.gfar, fun k hk => (h.ints k hk).step fun g n' hs => ⟨hs, fun j hj hc => cell_kept hc hg⟩, fun k hk => (h.outs k hk).step (fun g hgE => ⟨hgE, ?_⟩) fun g n' hs => ⟨hs, fun j gm cm hj hc => cell_kept hc hg⟩⟩
  exact World.cell?_of_block (w := w) (a := ⟨g, 0, none⟩) (hg.block g (hE g hgE) (by simp))

/-- a number is written into the list at hand -/
theorem KS.write (h : KS w0 w b lv vs xss i iv ov us os E (.slice none 0 0) 0 m) {g cap k : Nat} {ys : List Int} {x : Int} (hi : i < vs.length) (hv : vs.getD i undef = .slice (some ⟨g, 0, none⟩) ys.length cap) (hx : xss.getD i [] = ys) (hxl : i < xss.length) :
    KS w0 (w.setCell ⟨g, k, none⟩ (.int .i64 x)) b lv vs (xss.set i (ys.set k x)) i iv ov us os E (.slice none 0 0) 0 m := by
  have hs := grown_set w g k (.int .i64 x)
  have hgb : (vs.getD i undef).ownBlock = some g := by rw [hv]; rfl
  have hK : Kl lv vs i g := .inr ⟨i, Nat.le_refl _, hi, hgb⟩
  have hd := h.bk.dat g (.inr (.inl hK))
  have hEne : ∀ q, E q → some q ≠ some g := fun q hq e => by injection e with e; subst e; exact h.bk.far q hq (.inl hK)
  refine ⟨h.bk.data hs (fun q e => by injection e with e; subst e; exact .inl hK), h.below.setCell (by show b ≤ g; omega) _, World.ownsRow.kept h.row hs (own_side fun q hq e => ?_), fun j hj hl => ?_, h.apartL, h.apartV, Own.nil _ _, (fun q e => by cases e), fun j hj => (h.ints j hj).step fun q n' hS => ?_, fun j hj => (h.outs j hj).step (fun q hq => ⟨hq, ?_⟩) fun q n' hS => ⟨hS, fun _ _ _ _ hc => hs.cell hc (hEne q hS)⟩⟩
  · injection e with e; subst e; exact h.apartL i q (Nat.le_refl _) hi hgb hq
  · by_cases hij : i = j
    · subst hij
      rw [getD_set_eq _ _ _ _ hxl, hv]
      have ho := h.own i (Nat.le_refl _) hi
      rw [hv, hx] at ho
      have hr : Row w (b + 1) g ys.length cap ys := by
        rcases ho.row with ⟨e, _⟩ | ⟨g', cap', e, hr⟩
        · cases e
        · obtain ⟨rfl, rfl⟩ : g = g' ∧ cap = cap' := by simpa using e
          exact hr
      have := (hr.stored k x).own
      exact this
    · rw [getD_set_ne _ _ _ _ _ hij]
      refine World.ownsRow.kept (h.own j hj hl) hs (own_side fun q hq e => ?_)
      injection e with e
      subst e
      rcases Nat.lt_or_gt_of_ne hij with hlt | hlt
      · exact h.apartV i j q hlt hl hgb hq
      · exact h.apartV j i q hlt hi hq hgb
  · rcases hS with hS | ⟨e, _⟩
    · exact ⟨.inl hS, fun _ _ hc => hs.cell hc (hEne q hS)⟩
    · cases e
  · exact World.cell?_of_block (w := w) (a := ⟨q, 0, none⟩) (hs.block q (h.bk.dat q (.inl hq)).2.1 (hEne q hq))

/-- the list at hand begins to grow -/
theorem KS.take (h : KS w0 w b lv vs xss i iv ov us os E (.slice none 0 0) 0 m) (hi : i < vs.length) (hx : xss.getD i [] = List.replicate n m) : KS w0 w b lv vs xss (i + 1) iv ov us os E (vs.getD i undef) n m := by
  refine ⟨h.bk.sets (fun g hg => h.bk.dat g ?_) (fun g hg hk => h.bk.far g hg ?_), h.below, h.row, fun j hj hl => h.own j (by omega) hl, fun j g hj hl => h.apartL j g (by omega) hl, h.apartV, by rw [← hx]; exact h.own i (Nat.le_refl _) hi, ?_, fun k hk => (h.ints k hk).step fun g n' hS => ?_, h.outs⟩
  · rcases hg with hg | (hg | ⟨j, h1, h2, h3⟩) | hg
    · exact .inl hg
    · exact .inr (.inl (.inl hg))
    · exact .inr (.inl (.inr ⟨j, by omega, h2, h3⟩))
    · exact .inr (.inl (.inr ⟨i, Nat.le_refl _, hi, hg⟩))
  · rcases hk with (hk | ⟨j, h1, h2, h3⟩) | hk
    · exact .inl (.inl hk)
    · exact .inl (.inr ⟨j, by omega, h2, h3⟩)
    · exact .inl (.inr ⟨i, Nat.le_refl _, hi, hk⟩)
  · rintro g hg (hk | ⟨j, h1, h2, h3⟩)
    · exact h.apartL i g (Nat.le_refl _) hi hg hk
    · exact h.apartV i j g (by omega) h2 hg h3
  · rcases hS with hS | ⟨e, _⟩
    · exact ⟨.inl hS, fun _ _ hc => hc⟩
    · cases e

/-- it is kept as it is -/
theorem KS.push (h : KS w0 w b lv vs xss i iv ov us os E gv n m) {g cap N : Nat} (hN : N = us.length + 1) (hn : n ≤ 1099511627776) (hm : m = mark1 us.length) (hg : w.grownBy w1 iv.ownBlock) (hown : w1.ownsRow (b + 1) 30 1 (.slice (some ⟨g, 0, none⟩) N cap) N (us ++ [gv]))
    (hat : iv.ownBlock = some g ∨ g = w.heap.size) :
    KS w0 (w1.setCell ⟨b, 0, none⟩ (.slice (some ⟨g, 0, none⟩) N cap)) b lv vs xss i (.slice (some ⟨g, 0, none⟩) N cap) ov (us ++ [gv]) os E gv n m := by
  have hp := h.bk.pushI hN hg hown hat
  have hs := grown_set w1 b 0 (.slice (some ⟨g, 0, none⟩) N cap)
  have hkeep : ∀ (v : Value) (e : TypeId) (n' : Nat) (xs : List Value), w.ownsRow (b + 1) e 1 v n' xs → (∀ q, v.ownBlock = some q → Kl lv vs i q ∨ gv.ownBlock = some q) → (w1.setCell ⟨b, 0, none⟩ (.slice (some ⟨g, 0, none⟩) N cap)).ownsRow (b + 1) e 1 v n' xs := by
    intro v e n' xs ho hv
    refine World.ownsRow.kept (World.ownsRow.kept ho hg (own_side fun q hq e => ?_)) hs (own_side fun q hq e => ?_)
    · exact (h.bk.dat q (.inr (hv q hq))).2.2.1 e.symm
    · injection e with e; have := (h.bk.dat q (.inr (hv q hq))).1; omega
  have hcell : ∀ q j u, E q ∨ (Kl lv vs i q ∨ gv.ownBlock = some q) → w.cell? ⟨q, j, none⟩ = some u → (w1.setCell ⟨b, 0, none⟩ (.slice (some ⟨g, 0, none⟩) N cap)).cell? ⟨q, j, none⟩ = some u := fun q j u hq hc => cell_block (hp.2.1 q hq) hc
  refine ⟨hp.1, h.below.trans hp.2.2, hkeep _ _ _ _ h.row (fun q hq => .inl (.inl hq)), fun j hj hl => hkeep _ _ _ _ (h.own j hj hl) (fun q hq => .inl (.inr ⟨j, hj, hl, hq⟩)), h.apartL, h.apartV, hkeep _ _ _ _ h.gown (fun q hq => .inr hq), h.gfar, fun k hk => ?_, fun k hk => (h.outs k hk).step (fun q hq => ⟨hq, World.cell?_of_block (w := w) (a := ⟨q, 0, none⟩) (hp.2.1 q (.inl hq))⟩) fun q n' hS => ⟨hS, fun j gm cm hj hc => hcell q j _ (.inl hS) hc⟩⟩
  rw [List.length_append, List.length_singleton] at hk
  by_cases hke : k < us.length
  · rw [show (us ++ [gv]).getD k undef = us.getD k undef by simp [List.getD, List.getElem?_append_left hke]]
    refine (h.ints k hke).step fun q n' hS => ⟨hS, fun j _ hc => hcell q j _ ?_ hc⟩
    rcases hS with hS | ⟨hS, _⟩
    · exact .inl hS
    · exact .inr (.inr hS)
  · obtain rfl : k = us.length := by omega
    rw [show (us ++ [gv]).getD us.length undef = gv by simp [List.getD]]
    rw [← hm]
    have hl := h.gown.ls
    rcases hl with ⟨rfl, e⟩ | ⟨q, c, hv, hc⟩
    · exact ⟨none, 0, 0, by omega, rfl, fun j hj => by omega⟩
    · rw [List.length_replicate] at hv hc
      refine ⟨_, n, c, hn, hv, fun j hj => ⟨q, rfl, .inr ⟨by rw [hv]; rfl, Nat.le_refl _⟩, ?_⟩⟩
      have := hc j hj
      rw [show (List.replicate n m).getD j 0 = m by simp [List.getD, hj]] at this
      exact hcell q j _ (.inr (.inr (by rw [hv]; rfl))) this

/-- it grows by one -/
theorem KS.grow (h : KS w0 w b lv vs xss i iv ov us os E gv n m) {g cap : Nat} (hown : w1.ownsRow (b + 1) 3 1 (.slice (some ⟨g, 0, none⟩) (n + 1) cap) (n + 1) ((List.replicate n m).map (Value.int .i64) ++ [.int .i64 m]))
    (hat : (gv.ownBlock = some g ∧ w.grownBy w1 (some g)) ∨ (g = w.heap.size ∧ w.grownBy w1 none)) :
    ∃ E', KS w0 w1 b lv vs xss i iv ov us os E' (.slice (some ⟨g, 0, none⟩) (n + 1) cap) (n + 1) m := by
  have hbl := h.bk.box.lt
  have hrep : (List.replicate n m).map (Value.int .i64) ++ [.int .i64 m] = (List.replicate (n + 1) m).map (Value.int .i64) := by
    rw [show List.replicate (n + 1) m = List.replicate n m ++ [m] from List.replicate_succ', List.map_append]; rfl
  rw [hrep] at hown
  have hgo : Own w1 (b + 1) (.slice (some ⟨g, 0, none⟩) (n + 1) cap) (List.replicate (n + 1) m) := by
    unfold Own
    rw [List.length_replicate]
    exact hown
  have hri := World.ownsRow.lt h.bk.ri
  have hro := World.ownsRow.lt h.bk.ro
  have hnc : ∀ j, j < n + 1 → w1.cell? ⟨g, j, none⟩ = some (.int .i64 m) := by
    intro j hj
    rcases hgo.row with ⟨e, _⟩ | ⟨g', cap', e, hr⟩
    · cases e
    · injection e with e1 _ e3
      injection e1 with e1
      injection e1 with e1
      subst e1
      have := hr.cell j (by rw [List.length_replicate]; exact hj)
      rwa [show (List.replicate (n + 1) m).getD j 0 = m by simp [List.getD, hj]] at this
  rcases hat with ⟨hgv, hg⟩ | ⟨hgn, hg⟩
  · have hK : Kl lv vs i g ∨ gv.ownBlock = some g := .inr hgv
    have hnk := h.gfar g hgv
    have hEne : ∀ q, E q → some q ≠ some g := fun q hq e => by injection e with e; subst e; exact h.bk.far q hq hK
    have hbg := (h.bk.dat g (.inr hK)).1
    refine ⟨E, ⟨(h.bk.data hg (fun q e => by injection e with e; subst e; exact hK)).sets (fun q hq => (h.bk.data hg (fun q e => by injection e with e; subst e; exact hK)).dat q ?_) (fun q hq hk => h.bk.far q hq ?_), h.below.grown hg (by omega) (fun k e => by injection e with e; omega), World.ownsRow.kept h.row hg (own_side fun q hq e => ?_), fun j hj hl => World.ownsRow.kept (h.own j hj hl) hg (own_side fun q hq e => ?_), h.apartL, h.apartV, hgo, fun q hq => ?_, fun k hk => (h.ints k hk).step fun q n' hS => ?_, fun k hk => (h.outs k hk).step (fun q hq => ⟨hq, World.cell?_of_block (w := w) (a := ⟨q, 0, none⟩) (hg.block q (h.bk.dat q (.inl hq)).2.1 (hEne q hq))⟩) fun q n' hS => ⟨hS, fun _ _ _ _ hc => hg.cell hc (hEne q hS)⟩⟩⟩
    · rcases hq with hq | hq | hq
      · exact .inl hq
      · exact .inr (.inl hq)
      · rw [own_new] at hq; injection hq with hq; subst hq; exact .inr (.inr hgv)
    · rcases hk with hk | hk
      · exact .inl hk
      · rw [own_new] at hk; injection hk with hk; subst hk; exact .inr hgv
    · injection e with e; subst e; exact hnk (.inl hq)
    · injection e with e; subst e; exact hnk (.inr ⟨j, hj, hl, hq⟩)
    · rw [own_new] at hq; injection hq with hq; subst hq; exact hnk
    · rcases hS with hS | ⟨hS, hle⟩
      · exact ⟨.inl hS, fun _ _ hc => hg.cell hc (hEne q hS)⟩
      · rw [hgv] at hS
        injection hS with hS
        subst hS
        refine ⟨.inr ⟨rfl, by omega⟩, fun j hj hc => ?_⟩
        have h1 := hnc j (by omega)
        have h0 : w.cell? ⟨g, j, none⟩ = some (.int .i64 m) := by
          rcases h.gown.row with ⟨e, _⟩ | ⟨g', cap', e, hr⟩
          · rw [e] at hgv; cases hgv
          · rw [e] at hgv
            rw [own_new] at hgv
            injection hgv with hgv
            subst hgv
            have := hr.cell j (by rw [List.length_replicate]; omega)
            rwa [show (List.replicate n m).getD j 0 = m by simp [List.getD, show j < n by omega]] at this
        rw [h0] at hc
        rw [h1, hc]
  · have hge : ∀ q, q < w.heap.size → q ≠ g := fun q hq => by omega
    have hkl : ∀ q, Kl lv vs i q → q < w.heap.size := fun q hq => (h.bk.dat q (.inr (.inl hq))).2.1
    refine ⟨fun q => E q ∨ gv.ownBlock = some q, ⟨(h.bk.data hg (fun q e => by cases e)).sets (fun q hq => ?_) (fun q hq hk => ?_), h.below.grown hg (by omega) (fun k e => by cases e), World.ownsRow.kept h.row hg (own_side fun q _ => by simp), fun j hj hl => World.ownsRow.kept (h.own j hj hl) hg (own_side fun q _ => by simp), h.apartL, h.apartV, hgo, fun q hq hk => ?_, fun k hk => (h.ints k hk).step fun q n' hS => ⟨?_, fun _ _ hc => cell_kept hc hg⟩, fun k hk => (h.outs k hk).step (fun q hq => ⟨.inl hq, World.cell?_of_block (w := w) (a := ⟨q, 0, none⟩) (hg.block q (h.bk.dat q (.inl hq)).2.1 (by simp))⟩) fun q n' hS => ⟨.inl hS, fun _ _ _ _ hc => cell_kept hc hg⟩⟩⟩
    · have hold : (E q ∨ (Kl lv vs i q ∨ gv.ownBlock = some q)) ∨ q = g := by
        rcases hq with (hq | hq) | hq | hq
        · exact .inl (.inl hq)
        · exact .inl (.inr (.inr hq))
        · exact .inl (.inr (.inl hq))
        · rw [own_new] at hq; injection hq with hq; exact .inr hq.symm
      rcases hold with hold | rfl
      · have := h.bk.dat q hold
        exact ⟨this.1, Nat.lt_of_lt_of_le this.2.1 hg.size, this.2.2⟩
      · refine ⟨by omega, (hgo.lt q rfl).2, fun e => by have := (hri q e).2; omega, fun e => by have := (hro q e).2; omega⟩
    · rcases hk with hk | hk
      · rcases hq with hq | hq
        · exact h.bk.far q hq (.inl hk)
        · exact h.gfar q hq hk
      · rw [own_new] at hk
        injection hk with hk
        subst hk
        rcases hq with hq | hq
        · have := (h.bk.dat g (.inl hq)).2.1; omega
        · have := (h.gown.lt g hq).2; omega
    · rw [own_new] at hq
      injection hq with hq
      subst hq
      have := hkl g hk
      omega
    · rcases hS with hS | ⟨hS, _⟩
      · exact .inl (.inl hS)
      · exact .inl (.inr hS)

/-- it is left alone from here on -/
theorem KS.done (h : KS w0 w b lv vs xss i iv ov us os E gv n m) (m' : Int) : KS w0 w b lv vs xss i iv ov us os (fun q => E q ∨ gv.ownBlock = some q) (.slice none 0 0) 0 m' := by
  refine ⟨h.bk.sets (fun g hg => h.bk.dat g ?_) (fun g hg hk => ?_), h.below, h.row, h.own, h.apartL, h.apartV, Own.nil _ _, (fun q e => by cases e), fun k hk => (h.ints k hk).step fun g n' hS => ⟨?_, fun _ _ hc => hc⟩, fun k hk => (h.outs k hk).step (fun g hg => ⟨.inl hg, rfl⟩) fun g n' hS => ⟨.inl hS, fun _ _ _ _ hc => hc⟩⟩
  · rcases hg with (hg | hg) | hg | hg
    · exact .inl hg
    · exact .inr (.inr hg)
    · exact .inr (.inl hg)
    · cases hg
  · rcases hk with hk | hk
    · rcases hg with hg | hg
      · exact h.bk.far g hg (.inl hk)
      · exact h.gfar g hg hk
    · cases hk
  · rcases hS with hS | ⟨hS, _⟩
    · exact .inl (.inl hS)
    · exact .inl (.inr hS)
end
end Go.Proofs.Ytncmgnmcggkhnaa
