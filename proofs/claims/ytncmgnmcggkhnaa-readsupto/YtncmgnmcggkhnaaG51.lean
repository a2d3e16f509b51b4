import Derived.Test.YtncmgnmcggkhnaaG50
import Derived.Test.YtncmgnmcggkhnaaG37
import Derived.Test.YtncmgnmcggkhnaaG38
import Derived.Test.YtncmgnmcggkhnaaG41
import Derived.BigQuiet
import Derived.Deep.RegionHeld
namespace Go.Proofs.Ytncmgnmcggkhnaa
open Go.RowKit

/-- the book of a world; `S`: its blocks, the world's own among them -/
def BookS (X : Wd) (w : World) (b N M : Nat) (S : Nat → Prop) : Prop :=
  ∃ iv ov us os E, Bz (fun _ => False) X w b iv ov us os E (fun _ => False) ∧ us.length = N ∧ os.length = M ∧ (∀ k, k < us.length → Ent w (fun g _ => E g) (us.getD k undef) (mark1 k)) ∧ (∀ k, k < os.length → Ent2 w E (fun g _ => E g) (os.getD k undef) (mark2 k)) ∧
    ∀ q, S q ↔ (q = b ∨ iv.ownBlock = some q ∨ ov.ownBlock = some q ∨ E q)

section
variable {X : Wd} {w w' : World} {b N M : Nat} {S T : Nat → Prop}

theorem BookS.lt (h : BookS X w b N M S) : ∀ q, S q → b ≤ q ∧ q < w.heap.size := by
  obtain ⟨iv, ov, us, os, E, hbk, _, _, _, _, hS⟩ := h
  intro q hq
  rcases (hS q).mp hq with rfl | h1 | h1 | h1
  · exact ⟨Nat.le_refl _, hbk.box.lt⟩
  · have := World.ownsRow.lt hbk.ri q h1; omega
  · have := World.ownsRow.lt hbk.ro q h1; omega
  · have := hbk.dat q (.inl h1); omega

theorem BookS.own (h : BookS X w b N M S) : S b := by
  obtain ⟨iv, ov, us, os, E, hbk, _, _, _, _, hS⟩ := h
  exact (hS b).mpr (.inl rfl)

theorem BookS.box (h : BookS X w b N M S) : ∃ iv ov, Box w b (wdC X iv ov) 54 := by
  obtain ⟨iv, ov, us, os, E, hbk, _⟩ := h
  exact ⟨iv, ov, hbk.box⟩

theorem BookS.kp (h : BookS X w b N M S) (hk : Kp w w' T) (hn : ∀ q, S q → ¬ T q) : BookS X w' b N M S := by
  obtain ⟨iv, ov, us, os, E, hbk, hN, hM, hi, ho, hS⟩ := h
  have hE : ∀ q, E q → ¬ T q := fun q hq => hn q ((hS q).mpr (.inr (.inr (.inr hq))))
  have hcell : ∀ q j u, E q → w.cell? ⟨q, j, none⟩ = some u → w'.cell? ⟨q, j, none⟩ = some u := fun q j u hq hc => cell_kp hc hk (cell_lt hc) (hE q hq)
  refine ⟨iv, ov, us, os, E, ⟨hbk.box.kp hk (hn b ((hS b).mpr (.inl rfl))), ownsRow_kp hbk.ri hk (fun q hq => hn q ((hS q).mpr (.inr (.inl hq)))), ownsRow_kp hbk.ro hk (fun q hq => hn q ((hS q).mpr (.inr (.inr (.inl hq))))), hbk.ne, fun g hg => ?_, hbk.far, fun q hq => hq.elim⟩, hN, hM, fun k hk' => (hi k hk').step fun g n hs => ⟨hs, fun j _ hc => hcell g j _ hs hc⟩, fun k hk' => (ho k hk').step (fun g hg => ⟨hg, ?_⟩) fun g n hs => ⟨hs, fun j _ _ _ hc => hcell g j _ hs hc⟩, hS⟩
  · have := hbk.dat g hg
    exact ⟨this.1, Nat.lt_of_lt_of_le this.2.1 hk.size, this.2.2⟩
  · exact World.cell?_of_block (w := w) (a := ⟨g, 0, none⟩) (hk.block g (hbk.dat g (.inl hg)).2.1 (hE g hg))

theorem BookS.start {S : Nat → Prop} (h : Box w b (wdC X (.slice none 0 0) (.slice none 0 0)) 54) (hS : ∀ q, S q ↔ q = b) : BookS X w b 0 0 S :=
  ⟨_, _, [], [], fun _ => False, ⟨h, World.ownsRow_nil _ _ _ _, World.ownsRow_nil _ _ _ _, (fun g e => by cases e), (fun g hg => by rcases hg with hg | hg <;> exact hg.elim), fun g hg => hg.elim, fun q hq => hq.elim⟩, rfl, rfl, (fun k hk => by simp at hk), (fun k hk => by simp at hk), fun q => by rw [hS q]; constructor; exact .inl; rintro (h | h | h | h); exact h; cases h; cases h; exact h.elim⟩

/-- the world is elsewhere -/
theorem BookS.move (h : BookS X w b N M S) (p : Nat) : BookS { X with pos := p } (w.setCell ⟨b, 4, none⟩ (.int .i64 p)) b N M S := by
  obtain ⟨iv, ov, us, os, E, hbk, hN, hM, hi, ho, hS⟩ := h
  have hk := Kp.of (grown_set w b 4 (.int .i64 p))
  have hne : ∀ q, b < q → ¬ some q = some b := fun q hq e => by injection e with e; omega
  have hE : ∀ q, E q → b < q := fun q hq => (hbk.dat q (.inl hq)).1
  have hcell : ∀ q j u, E q → w.cell? ⟨q, j, none⟩ = some u → (w.setCell ⟨b, 4, none⟩ (.int .i64 p)).cell? ⟨q, j, none⟩ = some u := fun q j u hq hc => cell_kp hc hk (cell_lt hc) (hne q (hE q hq))
  refine ⟨iv, ov, us, os, E, ⟨hbk.box.set 4 (.int .i64 p), ownsRow_kp hbk.ri hk (fun q hq => hne q (World.ownsRow.lt hbk.ri q hq).1), ownsRow_kp hbk.ro hk (fun q hq => hne q (World.ownsRow.lt hbk.ro q hq).1), hbk.ne, fun g hg => ?_, hbk.far, fun q hq => hq.elim⟩, hN, hM, fun k hk' => (hi k hk').step fun g n hs => ⟨hs, fun j _ hc => hcell g j _ hs hc⟩, fun k hk' => (ho k hk').step (fun g hg => ⟨hg, ?_⟩) fun g n hs => ⟨hs, fun j _ _ _ hc => hcell g j _ hs hc⟩, hS⟩
  · have := hbk.dat g hg
    exact ⟨this.1, Nat.lt_of_lt_of_le this.2.1 hk.size, this.2.2⟩
  · exact World.cell?_of_block (w := w) (a := ⟨g, 0, none⟩) (hk.block g (hbk.dat g (.inl hg)).2.1 (hne g (hE g hg)))

theorem BookS.looks (h : BookS X w b N M S) (hN : N ≤ 1073741924) (hM : M ≤ 1073741924) :
    Calls Try.prog 20 #[.pointer (some ⟨b, 5, none⟩)] w fun e w' => e = .returned (.bool true) ∧ w' = w := by
  obtain ⟨iv, ov, us, os, E, hbk, hNe, hMe, hi, ho, _⟩ := h
  subst hNe hMe
  refine looks_five w b us.length os.length iv ov (by omega) (by omega) (hbk.box.cell 5) (hbk.box.cell 6) ?_ ?_
  · obtain ⟨a, c, hv⟩ := row_sliceK hbk.ri
    refine ⟨a, c, hv, fun i hlt => ?_⟩
    have hri := hbk.ri
    rw [hv] at hri
    obtain ⟨g, ha, _, hc, _⟩ := row_cell1 hri hlt
    exact ⟨g, _, ha, hc, (hi i hlt).mk⟩
  · obtain ⟨a, c, hv⟩ := row_sliceK hbk.ro
    refine ⟨a, c, hv, fun i hlt => ?_⟩
    have hro := hbk.ro
    rw [hv] at hro
    obtain ⟨g, ha, _, hc, _⟩ := row_cell1 hro hlt
    exact ⟨g, _, ha, hc, (ho i hlt).mk⟩

/-- keep: lists that are nobody else's -/
theorem BookS.keep {B : Nat} {lv : Value} {vs : List Value} {xss : List (List Int)} (h : BookS X w b N M S) (hs : Subs w B lv vs xss) (hB : b < B) (hfar : ∀ q, Kl lv vs 0 q → ¬ S q) (hN : N % 4 = 0) (hNb : N ≤ 1073741824) (hM : M % 4 = 0) (hMb : M ≤ 1073741824)
    (hx2 : xss.length ≤ 2) (hxl : ∀ j, j < xss.length → (xss.getD j []).length ≤ 1000000) :
    Calls Try.prog 19 #[.pointer (some ⟨b, 5, none⟩), lv] w fun e w' => e = .returned (.tuple #[]) ∧ Kp w w' (fun q => S q ∨ Kl lv vs 0 q) ∧ ∃ S', BookS X w' b (N + 4 * xss.length) (M + 4) S' ∧ ∀ q, S' q → S q ∨ Kl lv vs 0 q ∨ w.heap.size ≤ q := by
  obtain ⟨iv, ov, us, os, E, hbk, hNe, hMe, hi, ho, hS⟩ := h
  subst hNe hMe
  have hlv := World.ownsRow.lt hs.row
  have hK : ∀ g, Kl lv vs 0 g → B ≤ g ∧ g < w.heap.size := by
    rintro g (hg | ⟨j, _, hj, hg⟩)
    · exact hlv g hg
    · exact (hs.own j hj).lt g hg
  have hbz : Bz (fun q => q < w.heap.size ∧ ¬ S q ∧ ¬ Kl lv vs 0 q) X w b iv ov us os E (fun g => Kl lv vs 0 g ∨ (Value.slice none 0 0).ownBlock = some g) := by
    refine ⟨hbk.box, hbk.ri, hbk.ro, hbk.ne, fun g hg => ?_, fun g hg hk => ?_, fun q hq => ⟨hq.1, fun e => hq.2.1 ((hS q).mpr (.inl e)), fun e => hq.2.1 ((hS q).mpr (.inr (.inl e))), fun e => hq.2.1 ((hS q).mpr (.inr (.inr (.inl e)))), fun e => hq.2.1 ((hS q).mpr (.inr (.inr (.inr e)))), fun e => ?_⟩⟩
    · rcases hg with hg | hg | hg
      · exact hbk.dat g (.inl hg)
      · have h1 := hK g hg
        have h2 := hfar g hg
        exact ⟨by omega, h1.2, fun e => h2 ((hS g).mpr (.inr (.inl e))), fun e => h2 ((hS g).mpr (.inr (.inr (.inl e))))⟩
      · cases hg
    · rcases hk with hk | hk
      · exact hfar g hk ((hS g).mpr (.inr (.inr (.inr hg))))
      · cases hk
    · rcases e with e | e
      · exact hq.2.2 e
      · cases e
  have hkz : KZ (fun q => q < w.heap.size ∧ ¬ S q ∧ ¬ Kl lv vs 0 q) X w w b lv vs xss 0 iv ov us os E (.slice none 0 0) 0 0 :=
    ⟨hbz, Zk.refl _ _, ownsRow_mono hs.row (by omega), fun j _ hj => Own.mono (hs.own j hj) (by omega), fun j g _ hj hv => hs.apartL j g hj hv, hs.apartV, Own.nil _ _, (fun g e => by cases e), fun k hk => (hi k hk).step fun g n hS => ⟨.inl hS, fun _ _ hc => hc⟩, ho⟩
  have hl := hs.len
  refine (keep_bookZ _ X w b lv vs xss iv ov us os E hkz hN hNb hM hMb hl (by omega) hxl).mono ?_
  rintro e w' ⟨rfl, hz, iv', ov', us', os', E', hbk', hN', hM', hi', ho'⟩
  have hnz : ∀ q, ¬ (q < w.heap.size ∧ ¬ S q ∧ ¬ Kl lv vs 0 q) → S q ∨ Kl lv vs 0 q ∨ w.heap.size ≤ q := by
    intro q hq
    by_cases h1 : S q
    · exact .inl h1
    · by_cases h2 : Kl lv vs 0 q
      · exact .inr (.inl h2)
      · exact .inr (.inr (Nat.le_of_not_lt fun h3 => hq ⟨h3, h1, h2⟩))
  refine ⟨rfl, Kp.mono hz (fun q hq => ?_), fun q => q = b ∨ iv'.ownBlock = some q ∨ ov'.ownBlock = some q ∨ E' q, ⟨iv', ov', us', os', E', ⟨hbk'.box, hbk'.ri, hbk'.ro, hbk'.ne, hbk'.dat, hbk'.far, fun q hq => hq.elim⟩, by rw [hN', hl], hM', hi', ho', fun q => Iff.rfl⟩, fun q hq => ?_⟩
  · rcases hnz q hq with h1 | h1 | h1
    · exact .inl (.inl h1)
    · exact .inl (.inr h1)
    · exact .inr h1
  · refine hnz q fun hZ => ?_
    have hz' := hbk'.zz q hZ
    rcases hq with h1 | h1 | h1 | h1
    · exact hz'.2.1 h1
    · exact hz'.2.2.1 h1
    · exact hz'.2.2.2.1 h1
    · exact hz'.2.2.2.2.1 h1
end

end Go.Proofs.Ytncmgnmcggkhnaa

namespace Go.Proofs.Ytncmgnmcggkhnaa
open Go.RowKit

/-- a reader, its sound, its book: their blocks lie apart -/
structure SideP (w : World) (gW : Nat) (X : Wd) (gM : Nat) (h : Head) (chs : List (List Int)) (l : List Fr) (pv : Value) (nM : Nat) (M : Int → Option Value) (KB D BS : Nat → Prop) (N Mo t : Nat) : Prop where
  book : BookS X w gW N Mo BS
  rdr : Rdr w X.gB gM h l pv X.pos nM M KB
  fr : FrOk h chs l
  snd : Ins w D X.lv chs
  pos : X.pos ≤ h.total
  dlt : ∀ q, D q → q < w.heap.size
  rd : ∀ q, rdrB X.gB gM pv KB q → ¬ D q ∧ ¬ BS q
  db : ∀ q, D q → ¬ BS q
  n4 : N % 4 = 0
  m4 : Mo % 4 = 0
  nb : N ≤ 8 * t
  mb : Mo ≤ 4 * t
  mm : nM ≤ 1300 * t

def sideB (gB gM : Nat) (pv : Value) (KB D BS : Nat → Prop) (q : Nat) : Prop := rdrB gB gM pv KB q ∨ D q ∨ BS q

def Side (w : World) (gW t : Nat) (S : Nat → Prop) : Prop := ∃ X gM h chs l pv nM M KB D BS N Mo, SideP w gW X gM h chs l pv nM M KB D BS N Mo t ∧ ∀ q, S q ↔ sideB X.gB gM pv KB D BS q

section
variable {w w' : World} {gW : Nat} {X : Wd} {gM : Nat} {h : Head} {chs : List (List Int)} {l : List Fr} {pv : Value} {nM : Nat} {M : Int → Option Value} {KB D BS S T : Nat → Prop} {N Mo t : Nat}

theorem SideP.lt (hs : SideP w gW X gM h chs l pv nM M KB D BS N Mo t) : ∀ q, sideB X.gB gM pv KB D BS q → q < w.heap.size := by
  rintro q (hq | hq | hq)
  · exact hs.rdr.blt q hq
  · exact hs.dlt q hq
  · exact (hs.book.lt q hq).2

theorem SideP.kp (hs : SideP w gW X gM h chs l pv nM M KB D BS N Mo t) (hk : Kp w w' T) (hn : ∀ q, sideB X.gB gM pv KB D BS q → ¬ T q) : SideP w' gW X gM h chs l pv nM M KB D BS N Mo t :=
  ⟨hs.book.kp hk (fun q hq => hn q (.inr (.inr hq))), hs.rdr.kp hk (fun q hq => hn q (.inl hq)), hs.fr, hs.snd.kp hk (fun q hq => hn q (.inr (.inl hq))), hs.pos, fun q hq => Nat.lt_of_lt_of_le (hs.dlt q hq) hk.size, hs.rd, hs.db, hs.n4, hs.m4, hs.nb, hs.mb, hs.mm⟩

theorem SideP.later (hs : SideP w gW X gM h chs l pv nM M KB D BS N Mo t) : SideP w gW X gM h chs l pv nM M KB D BS N Mo (t + 1) :=
  ⟨hs.book, hs.rdr, hs.fr, hs.snd, hs.pos, hs.dlt, hs.rd, hs.db, hs.n4, hs.m4, by have := hs.nb; omega, by have := hs.mb; omega, by have := hs.mm; omega⟩

theorem SideP.new (hs : SideP w gW X gM h chs l pv nM M KB D BS N Mo t) (hg : w.grownBy w' none) : SideP w' gW X gM h chs l pv nM M KB D BS N Mo t := hs.kp (Kp.ofNone (S := fun _ => False) hg) (fun _ _ e => e)

theorem Side.kp (hs : Side w gW t S) (hk : Kp w w' T) (hn : ∀ q, S q → ¬ T q) : Side w' gW t S := by
  obtain ⟨X, gM, h, chs, l, pv, nM, M, KB, D, BS, N, Mo, hp, hS⟩ := hs
  exact ⟨X, gM, h, chs, l, pv, nM, M, KB, D, BS, N, Mo, hp.kp hk (fun q hq => hn q ((hS q).mpr hq)), hS⟩

theorem Side.lt (hs : Side w gW t S) : ∀ q, S q → q < w.heap.size := by
  obtain ⟨X, gM, h, chs, l, pv, nM, M, KB, D, BS, N, Mo, hp, hS⟩ := hs
  exact fun q hq => hp.lt q ((hS q).mp hq)

theorem Side.later (hs : Side w gW t S) : Side w gW (t + 1) S := by
  obtain ⟨X, gM, h, chs, l, pv, nM, M, KB, D, BS, N, Mo, hp, hS⟩ := hs
  exact ⟨X, gM, h, chs, l, pv, nM, M, KB, D, BS, N, Mo, hp.later, hS⟩

theorem Side.looks (hs : Side w gW t S) (ht : t ≤ 100000000) : Calls Try.prog 20 #[.pointer (some ⟨gW, 5, none⟩)] w fun e w' => e = .returned (.bool true) ∧ w' = w := by
  obtain ⟨X, gM, h, chs, l, pv, nM, M, KB, D, BS, N, Mo, hp, hS⟩ := hs
  exact hp.book.looks (by have := hp.nb; omega) (by have := hp.mb; omega)

/-- how many samples there are -/
theorem side_total (hbk : BookS X w gW N Mo BS) (hfr : FrOk h chs l) (hsn : Ins w D X.lv chs) : Calls Try.prog 57 #[.pointer (some ⟨gW, 0, none⟩)] w fun e w' => e = .returned (.int .i64 h.total) ∧ w' = w := by
  obtain ⟨iv, ov, hb⟩ := hbk.box
  obtain ⟨a, c, hv⟩ := hsn.slice
  rw [hv] at hsn
  have hc := hfr.ch
  have hc1 := hfr.ch1
  obtain ⟨lg, vi, rfl, h1, h2⟩ := hsn.at 0 (by omega)
  have hlen := hfr.total 0 (by omega)
  obtain ⟨a0, c0, rfl⟩ : ∃ a0 c0, vi = .slice a0 h.total c0 := by
    rcases h2 with ⟨rfl, e⟩ | ⟨b, off, cap, rfl, _⟩
    · rw [e] at hlen; rw [← hlen]; exact ⟨none, 0, rfl⟩
    · rw [hlen]; exact ⟨_, cap, rfl⟩
  exact wd_total w gW X iv ov a0 lg h.total chs.length c c0 hb hv (by omega) h1

theorem SideP.total (hs : SideP w gW X gM h chs l pv nM M KB D BS N Mo t) : Calls Try.prog 57 #[.pointer (some ⟨gW, 0, none⟩)] w fun e w' => e = .returned (.int .i64 h.total) ∧ w' = w := side_total hs.book hs.fr hs.snd
end

/-- what a step leaves -/
def StepPost (w : World) (gW t : Nat) (S : Nat → Prop) (e : Ending) (w' : World) : Prop :=
  e = .returned (.bool true) ∧ Kp w w' S ∧ ∃ S', Side w' gW (t + 1) S' ∧ ∀ q, S' q → S q ∨ w.heap.size ≤ q

/-- nothing but new memory -/
theorem StepPost.same {w w' : World} {gW t : Nat} {S : Nat → Prop} (hs : Side w gW t S) (hg : w.grownBy w' none) : StepPost w gW t S (.returned (.bool true)) w' :=
  ⟨rfl, Kp.ofNone hg, S, (hs.kp (Kp.ofNone (S := fun _ => False) hg) (fun _ _ e => e)).later, fun _ hq => .inl hq⟩

def opW (w : World) (kind n : Int) : World := w.alloc (Obj.cells #[.int .i64 kind, .int .i64 n] 57)

theorem opW_grown (w : World) (kind n : Int) : w.grownBy (opW w kind n) none := grown_alloc (grown_refl w none) _
theorem opW_box (w : World) (kind n : Int) : Box (opW w kind n) w.heap.size #[.int .i64 kind, .int .i64 n] 57 := Box.new w #[.int .i64 kind, .int .i64 n] 57

set_option maxHeartbeats 1000000 in
set_option maxRecDepth 20000 in
/-- another kind -/
theorem step_other (w : World) (gW t : Nat) (S : Nat → Prop) (hs : Side w gW t S) (kind n : Int) (hk : kind ≠ 1 ∧ kind ≠ 2 ∧ kind ≠ 3) :
    Calls Try.prog 29 #[.pointer (some ⟨gW, 0, none⟩), .agg #[.int .i64 kind, .int .i64 n]] w (StepPost w gW t S) := by
  have hg := opW_grown w kind n
  have d0 : (opW w kind n).cell? ⟨w.heap.size, 0, none⟩ = some (.int .i64 kind) := (opW_box w kind n).cell 0
  have HP : Hid (StepPost w gW t S (.returned (.bool true)) (opW w kind n)) := StepPost.same hs hg
  have t1 : (kind == 1) = false := by simpa using hk.1
  have t2 : (kind == 2) = false := by simpa using hk.2.1
  have t3 : (kind == 3) = false := by simpa using hk.2.2
  clear hs hg
  unfold opW at d0 HP
  go_enter Try.func29, Try.ntmps29
  go_wp2
  go_ret
  exact HP.out

set_option maxHeartbeats 1000000 in
set_option maxRecDepth 20000 in
/-- where it is -/
theorem step_tell (w : World) (gW t : Nat) (S : Nat → Prop) (hs : Side w gW t S) (n : Int) :
    Calls Try.prog 29 #[.pointer (some ⟨gW, 0, none⟩), .agg #[.int .i64 3, .int .i64 n]] w (StepPost w gW t S) := by
  have hg := opW_grown w 3 n
  have d0 : (opW w 3 n).cell? ⟨w.heap.size, 0, none⟩ = some (.int .i64 3) := (opW_box w 3 n).cell 0
  have HP : Hid (StepPost w gW t S (.returned (.bool true)) (opW w 3 n)) := StepPost.same hs hg
  obtain ⟨X, gM, h, chs, l, pv, nM, M, KB, D, BS, N, Mo, hp, hS⟩ := hs
  have hp0 := hp.new hg
  obtain ⟨iv, ov, hb⟩ := hp0.book.box
  have c0 : (opW w 3 n).cell? ⟨gW, 0, none⟩ = some (.pointer (some ⟨X.gB, 0, none⟩)) := hb.cell 0
  have c4 : (opW w 3 n).cell? ⟨gW, 4, none⟩ = some (.int .i64 X.pos) := hb.cell 4
  have HT := rdr_tell _ _ _ _ _ _ _ _ _ _ hp0.rdr
  have HN := rdr_total _ _ _ _ _ _ _ _ _ _ hp0.rdr
  have HW := hp0.total
  obtain ⟨tot, ht⟩ : ∃ tot, h.total = tot := ⟨_, rfl⟩
  obtain ⟨ps, hps⟩ : ∃ ps, X.pos = ps := ⟨_, rfl⟩
  rw [hps] at c4 HT
  rw [ht] at HN HW
  have t1 : ((ps : Int) == (ps : Int)) = true := by simp
  have t2 : ((tot : Int) == (tot : Int)) = true := by simp
  clear hp hp0 hb hg hps ht hS
  unfold opW at d0 HP c0 c4 HT HN HW
  go_enter Try.func29, Try.ntmps29
  go_wp2_with (first
    | (go_at_call 34; refine HT.mono ?_; rintro e w1 ⟨rfl, rfl⟩)
    | (go_at_call 28; refine HN.mono ?_; rintro e w2 ⟨rfl, rfl⟩)
    | (go_at_call 57; refine HW.mono ?_; rintro e w2 ⟨rfl, rfl⟩))
  go_ret
  exact HP.out
end Go.Proofs.Ytncmgnmcggkhnaa

namespace Go.Proofs.Ytncmgnmcggkhnaa
open Go.RowKit

section
variable {w w' : World} {gW : Nat} {X : Wd} {gM : Nat} {h : Head} {chs : List (List Int)} {l : List Fr} {pv : Value} {nM : Nat} {M : Int → Option Value} {KB D BS S T : Nat → Prop} {N Mo t p : Nat}

/-- the world is where its reader is -/
theorem side_move (hb : BookS X w gW N Mo BS) (hr : Rdr w X.gB gM h l pv p nM M KB) (hf : FrOk h chs l) (hsn : Ins w D X.lv chs) (hp : p ≤ h.total) (hd : ∀ q, D q → q < w.heap.size) (hrd : ∀ q, rdrB X.gB gM pv KB q → ¬ D q ∧ ¬ BS q) (hdb : ∀ q, D q → ¬ BS q) (h4 : N % 4 = 0) (m4 : Mo % 4 = 0) (nb : N ≤ 8 * t) (mb : Mo ≤ 4 * t) (mm : nM ≤ 1300 * t) :
    SideP (w.setCell ⟨gW, 4, none⟩ (.int .i64 p)) gW { X with pos := p } gM h chs l pv nM M KB D BS N Mo t := by
  have hk := Kp.of (grown_set w gW 4 (.int .i64 p))
  have ho := hb.own
  refine ⟨hb.move p, hr.kp hk (fun q hq e => ?_), hf, hsn.kp hk (fun q hq e => ?_), hp, fun q hq => Nat.lt_of_lt_of_le (hd q hq) hk.size, hrd, hdb, h4, m4, nb, mb, mm⟩
  · injection e with e; subst e; exact (hrd q hq).2 ho
  · injection e with e; subst e; exact hdb q hq ho

theorem SideP.seek (hs : SideP w gW X gM h chs l pv nM M KB D BS N Mo t) (hg : w.grownBy w' (some X.gB)) (hr : Rdr w' X.gB gM h l pv p nM M KB) (hp : p ≤ h.total) :
    SideP (w'.setCell ⟨gW, 4, none⟩ (.int .i64 p)) gW { X with pos := p } gM h chs l pv nM M KB D BS N Mo t := by
  have hk := Kp.of hg
  have hr0 := hs.rd X.gB (.inl rfl)
  refine side_move (hs.book.kp hk (fun q hq e => ?_)) hr hs.fr (hs.snd.kp hk (fun q hq e => ?_)) hp (fun q hq => Nat.lt_of_lt_of_le (hs.dlt q hq) hk.size) hs.rd hs.db hs.n4 hs.m4 hs.nb hs.mb hs.mm
  · injection e with e; subst e; exact hr0.2 hq
  · injection e with e; subst e; exact hr0.1 hq
end

set_option maxHeartbeats 1000000 in
set_option maxRecDepth 20000 in
/-- to a place -/
theorem step_seek (w : World) (gW t : Nat) (S : Nat → Prop) (X : Wd) (gM : Nat) (h : Head) (chs : List (List Int)) (l : List Fr) (pv : Value) (nM : Nat) (M : Int → Option Value) (KB D BS : Nat → Prop) (N Mo : Nat) (hp : SideP w gW X gM h chs l pv nM M KB D BS N Mo t) (hS : ∀ q, S q ↔ sideB X.gB gM pv KB D BS q) (p : Nat) (hpt : p ≤ h.total) :
    Calls Try.prog 29 #[.pointer (some ⟨gW, 0, none⟩), .agg #[.int .i64 1, .int .i64 p]] w (StepPost w gW t S) := by
  have hg := opW_grown w 1 p
  have d0 : (opW w 1 p).cell? ⟨w.heap.size, 0, none⟩ = some (.int .i64 1) := (opW_box w 1 p).cell 0
  have d1 : (opW w 1 p).cell? ⟨w.heap.size, 1, none⟩ = some (.int .i64 p) := (opW_box w 1 p).cell 1
  have hlt : w.heap.size < (opW w 1 p).heap.size := (opW_box w 1 p).lt
  have hp0 := hp.new hg
  obtain ⟨iv, ov, hb⟩ := hp0.book.box
  have c0 : (opW w 1 p).cell? ⟨gW, 0, none⟩ = some (.pointer (some ⟨X.gB, 0, none⟩)) := hb.cell 0
  have hbl := hp.lt X.gB (.inl (.inl rfl))
  have hne : X.gB ≠ w.heap.size := by omega
  have hpd := hp0.new (grown_drew (grown_refl (opW w 1 p) none))
  have HK := rdr_seek _ _ _ _ _ _ _ _ _ _ hpd.rdr p hpt
  have HPD : Hid _ := hpd
  have HG : Hid _ := grown_drew hg
  have hgW := hp0.book.own
  have hneW : X.gB ≠ gW := fun e => (hp.rd X.gB (.inl rfl)).2 (by rw [e]; exact hgW)
  have HSP : Hid (∀ w1 d, (opW w 1 p).drew.grownBy w1 (some X.gB) → Rdr w1 X.gB gM h l pv p nM M KB → StepPost w gW t S (.returned (.bool true)) ((w1.drewN d).setCell ⟨gW, 4, none⟩ (.int .i64 p))) := by
    intro w1 d hg1 hr1
    have hr2 : Rdr (w1.drewN d) X.gB gM h l pv p nM M KB := hr1.kp (Kp.ofNone (S := fun _ => False) (grown_drewN (grown_refl w1 none) d)) (fun _ _ e => e)
    have hg2 : (opW w 1 p).drew.grownBy (w1.drewN d) (some X.gB) := grown_drewN hg1 d
    have hsk := HPD.out.seek hg2 hr2 hpt
    refine ⟨rfl, ?_, S, ⟨_, gM, h, chs, l, pv, nM, M, KB, D, BS, N, Mo, hsk.later, hS⟩, fun q hq => .inl hq⟩
    have k1 : Kp w (w1.drewN d) S := (Kp.ofNone HG.out).trans (Kp.of hg2) (fun q e => by injection e with e; subst e; exact .inl ((hS _).mpr (.inl (.inl rfl))))
    exact k1.trans (Kp.of (grown_set _ _ _ _)) (fun q e => by injection e with e; subst e; exact .inl ((hS _).mpr (.inr (.inr hgW))))
  have tn : decide ((p : Int) < 0) = false := decide_eq_false (by omega)
  obtain ⟨tot, ht⟩ : ∃ tot, h.total = tot := ⟨_, rfl⟩
  have tg : decide ((tot : Int) < (p : Int)) = false := decide_eq_false (by omega)
  have tg2 : decide (tot < p) = false := decide_eq_false (by omega)
  have HT : Hid (∀ w1, (opW w 1 p).drew.grownBy w1 (some X.gB) → Rdr w1 X.gB gM h l pv p nM M KB → w1.cell? ⟨w.heap.size, 1, none⟩ = some (.int .i64 p) ∧ (∃ u, w1.cell? ⟨gW, 4, none⟩ = some u) ∧ w1.frozen? ⟨gW, 4, none⟩ = false ∧ ∀ d, Calls Try.prog 57 #[.pointer (some ⟨gW, 0, none⟩)] (w1.drewN d) fun e w' => e = .returned (.int .i64 tot) ∧ w' = w1.drewN d) := by
    intro w1 hg1 hr1
    have hk1 := Kp.of hg1
    have hbk1 := HPD.out.book.kp hk1 (fun q hq e => by injection e with e; subst e; exact (hp.rd _ (.inl rfl)).2 hq)
    have hsn1 := HPD.out.snd.kp hk1 (fun q hq e => by injection e with e; subst e; exact (hp.rd _ (.inl rfl)).1 hq)
    obtain ⟨iv1, ov1, hb1⟩ := hbk1.box
    refine ⟨hg1.cell d1 (by simp; omega), ⟨_, hb1.cell 4⟩, hb1.fz 4, fun d => ?_⟩
    have hgd := grown_drewN (grown_refl w1 none) d
    have := side_total (hbk1.kp (Kp.ofNone (S := fun _ => False) hgd) (fun _ _ e => e)) hp.fr (hsn1.kept hgd)
    rw [ht] at this
    exact this
  clear hp hp0 hpd hb hg hlt hbl HPD HG hgW hS ht hpt
  unfold opW at d0 d1 c0 HK HSP HT
  go_enter Try.func29, Try.ntmps29
  go_upto_region 3 with fail
  generalize (w.alloc (Obj.cells #[.int .i64 1, .int .i64 (p : Int)] 57)) = w0 at d0 d1 c0 HK HSP HT ⊢
  generalize w.heap.size = gO at d0 d1 hne HT ⊢
  have hn1 : some gW ≠ some X.gB := fun e => hneW (by injection e with e; exact e.symm)
  have hn2 : some gO ≠ some X.gB := fun e => hne (by injection e with e; exact e.symm)
  have HN1 : Hid _ := hn1
  have HN2 : Hid _ := hn2
  clear hn1 hn2
  go_region_held (fun w' => w'.cell? ⟨gW, 0, none⟩ = some (.pointer (some ⟨X.gB, 0, none⟩)) ∧ w'.cell? ⟨gO, 1, none⟩ = some (.int .i64 p)) (go_keep) (first
    | (go_at_call 35; refine HK.mono ?_; rintro e w1 ⟨rfl, hr1, hg1⟩; have q0 : w1.cell? ⟨gW, 0, none⟩ = some (.pointer (some ⟨X.gB, 0, none⟩)) := hg1.cell c0 HN1.out; have q1 : w1.cell? ⟨gO, 1, none⟩ = some (.int .i64 p) := hg1.cell d1 HN2.out; have HQ := HT.out w1 hg1 hr1; have HZ : Hid _ := HSP.out w1; have HR1 : Hid _ := hr1; have HG1 : Hid _ := hg1; clear hr1 hg1))
  all_goals
    obtain ⟨q2, ⟨u4, q3⟩, q4, HW⟩ := HQ
    clear HK HT
    go_upto_region 4 with fail
    go_quiet ((go_at_call 57; exact Calls.quiet_of_same (HW _)))
    go_wp2
    go_ret
    exact HZ.out _ HG1.out HR1.out
end Go.Proofs.Ytncmgnmcggkhnaa

namespace Go.Proofs.Ytncmgnmcggkhnaa
open Go.RowKit

set_option maxHeartbeats 1000000 in
set_option maxRecDepth 20000 in
/-- to no place -/
theorem step_seek_no (w : World) (gW t : Nat) (S : Nat → Prop) (X : Wd) (gM : Nat) (h : Head) (chs : List (List Int)) (l : List Fr) (pv : Value) (nM : Nat) (M : Int → Option Value) (KB D BS : Nat → Prop) (N Mo : Nat) (hp : SideP w gW X gM h chs l pv nM M KB D BS N Mo t) (hS : ∀ q, S q ↔ sideB X.gB gM pv KB D BS q) (p : Int) (hpt : p < 0 ∨ (h.total : Int) < p) :
    Calls Try.prog 29 #[.pointer (some ⟨gW, 0, none⟩), .agg #[.int .i64 1, .int .i64 p]] w (StepPost w gW t S) := by
  have hg := opW_grown w 1 p
  have d0 : (opW w 1 p).cell? ⟨w.heap.size, 0, none⟩ = some (.int .i64 1) := (opW_box w 1 p).cell 0
  have d1 : (opW w 1 p).cell? ⟨w.heap.size, 1, none⟩ = some (.int .i64 p) := (opW_box w 1 p).cell 1
  have hp0 := hp.new hg
  obtain ⟨iv, ov, hb⟩ := hp0.book.box
  have c0 : (opW w 1 p).cell? ⟨gW, 0, none⟩ = some (.pointer (some ⟨X.gB, 0, none⟩)) := hb.cell 0
  have hpd := fun d => hp0.new (grown_drewN (grown_refl (opW w 1 p) none) d)
  have HK := fun d => rdr_seek_no _ _ _ _ _ _ _ _ _ _ (hpd d).rdr p hpt
  have HW := fun d => (hpd d).total
  have HSP : Hid (∀ d, StepPost w gW t S (.returned (.bool true)) ((opW w 1 p).drewN d)) := fun d => StepPost.same ⟨X, gM, h, chs, l, pv, nM, M, KB, D, BS, N, Mo, hp, hS⟩ (grown_drewN hg d)
  obtain ⟨tot, ht⟩ : ∃ tot, h.total = tot := ⟨_, rfl⟩
  rw [ht] at HW hpt
  have HPT : Hid (p < 0 ∨ (tot : Int) < p) := hpt
  clear hp hp0 hpd hb hg hS ht hpt
  unfold opW at d0 d1 c0 HK HSP HW
  go_enter Try.func29, Try.ntmps29
  go_upto_region 3 with fail
  generalize (w.alloc (Obj.cells #[.int .i64 1, .int .i64 p] 57)) = w0 at d0 d1 c0 HK HSP HW ⊢
  generalize w.heap.size = gO at d0 d1 ⊢
  go_quiet ((go_at_call 35; exact Calls.quiet_of_same (HK _)))
  obtain ⟨wz, hwz⟩ : ∃ wz, w0.drewN nq = wz := ⟨_, rfl⟩
  have HWz : ∀ d, Calls Try.prog 57 #[.pointer (some ⟨gW, 0, none⟩)] (wz.drewN d) fun e w' => e = .returned (.int .i64 tot) ∧ w' = wz.drewN d := by
    intro d
    rw [← hwz, World.drewN_drewN]
    exact HW _
  have HSPz : Hid (∀ d, StepPost w gW t S (.returned (.bool true)) (wz.drewN d)) := by
    intro d
    rw [← hwz, World.drewN_drewN]
    exact HSP.out _
  have d1z : wz.cell? ⟨gO, 1, none⟩ = some (.int .i64 p) := by rw [← hwz, World.cell?_drewN]; exact d1
  rw [hwz]
  clear HW HSP hwz d1 d0 c0 HK
  rcases Int.lt_or_le p 0 with h0 | h0
  · have tn : decide (p < 0) = true := decide_eq_true h0
    go_upto_region 4 with fail
    go_quiet ((go_at_call 57; exact Calls.quiet_of_same (HWz _)))
    go_wp2
    go_ret
    exact HSPz.out _
  · have tn : decide (p < 0) = false := decide_eq_false (by omega)
    have tg : decide ((tot : Int) < p) = true := decide_eq_true (by have := HPT.out; omega)
    go_upto_region 4 with fail
    go_quiet ((go_at_call 57; exact Calls.quiet_of_same (HWz _)))
    go_wp2
    go_ret
    exact HSPz.out _

set_option maxHeartbeats 1000000 in
set_option maxRecDepth 20000 in
/-- less than nothing -/
theorem step_read_no (w : World) (gW t : Nat) (S : Nat → Prop) (X : Wd) (gM : Nat) (h : Head) (chs : List (List Int)) (l : List Fr) (pv : Value) (nM : Nat) (M : Int → Option Value) (KB D BS : Nat → Prop) (N Mo : Nat) (hp : SideP w gW X gM h chs l pv nM M KB D BS N Mo t) (hS : ∀ q, S q ↔ sideB X.gB gM pv KB D BS q) (p : Int) (hpt : p < 0) :
    Calls Try.prog 29 #[.pointer (some ⟨gW, 0, none⟩), .agg #[.int .i64 2, .int .i64 p]] w (StepPost w gW t S) := by
  have hg := opW_grown w 2 p
  have d0 : (opW w 2 p).cell? ⟨w.heap.size, 0, none⟩ = some (.int .i64 2) := (opW_box w 2 p).cell 0
  have d1 : (opW w 2 p).cell? ⟨w.heap.size, 1, none⟩ = some (.int .i64 p) := (opW_box w 2 p).cell 1
  have hp0 := hp.new hg
  obtain ⟨iv, ov, hb⟩ := hp0.book.box
  have c0 : (opW w 2 p).cell? ⟨gW, 0, none⟩ = some (.pointer (some ⟨X.gB, 0, none⟩)) := hb.cell 0
  have HK := fun d => rdr_read_no ((opW w 2 p).drewN d) X.gB p hpt
  have HSP : Hid (∀ d, StepPost w gW t S (.returned (.bool true)) ((opW w 2 p).drewN d)) := fun d => StepPost.same ⟨X, gM, h, chs, l, pv, nM, M, KB, D, BS, N, Mo, hp, hS⟩ (grown_drewN hg d)
  have tn : decide (p < 0) = true := decide_eq_true hpt
  clear hp hp0 hb hg hS hpt
  unfold opW at d0 d1 c0 HK HSP
  go_enter Try.func29, Try.ntmps29
  go_upto_region 9 with fail
  generalize (w.alloc (Obj.cells #[.int .i64 2, .int .i64 p] 57)) = w0 at d0 d1 c0 HK HSP ⊢
  generalize w.heap.size = gO at d0 d1 ⊢
  go_quiet ((go_at_call 36; exact Calls.quiet_of_same (HK _)))
  go_wp2
  go_ret
  exact HSP.out _
end Go.Proofs.Ytncmgnmcggkhnaa
