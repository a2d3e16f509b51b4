import Derived.Test.YtncmgnmcggkhnaaG07
import Derived.Laws.ResultCell
namespace Go.Proofs.Ytncmgnmcggkhnaa
open Go.RowKit

/-- a head in memory, as a value -/
def headV (h : Head) : Value := .agg #[.int .i64 h.block, .int .i64 h.rate, .int .i64 h.channels, .int .i64 h.bits, .int .i64 h.total]

def HeadPost (w : World) (b : Nat) (s : ByteArray) (size : Nat) (σ : Option (List Bool)) (e : Ending) (w' : World) : Prop :=
  ∃ h : Head, e = .returned (headV h) ∧ w.grownBy w' (some b) ∧
    ((∃ l r, σ = some l ∧ size = 34 ∧ pInfo l = some (h, r) ∧ St 86 w' b s (some r)) ∨
     ((∀ l, σ = some l → size = 34 → pInfo l = none) ∧ w'.cell? ⟨b, 2, none⟩ = some (.bool true)))

theorem St.rd {t : TypeId} {w : World} {b : Nat} {s : ByteArray} {σ : Option (List Bool)} (h : St t w b s σ) (hs : s.size ≤ 6000) :
    ∃ a m, a ≤ 1099511627776 ∧ Rd t w b s a m ∧ (m = σ.isNone ∧ ∀ l, σ = some l → a = 8 * s.size - l.length) := by
  cases σ with
  | none =>
    obtain ⟨a, ha, h⟩ := h
    exact ⟨a, true, ha, h, rfl, fun l e => by cases e⟩
  | some l =>
    obtain ⟨a, ha, hl, h⟩ := h
    refine ⟨a, false, by omega, h, rfl, fun l' e => ?_⟩
    cases e
    rw [hl, List.length_drop, total_bits]
    omega

theorem five_stores (w : World) (g : Nat) (z0 z1 z2 z3 z4 : Value) (t : TypeId) (v0 v1 v2 v3 v4 : Value) (h : Box w g #[z0, z1, z2, z3, z4] t) :
    Box (((((w.setCell ⟨g, 0, none⟩ v0).setCell ⟨g, 1, none⟩ v1).setCell ⟨g, 2, none⟩ v2).setCell ⟨g, 3, none⟩ v3).setCell ⟨g, 4, none⟩ v4) g #[v0, v1, v2, v3, v4] t ∧
    w.grownBy (((((w.setCell ⟨g, 0, none⟩ v0).setCell ⟨g, 1, none⟩ v1).setCell ⟨g, 2, none⟩ v2).setCell ⟨g, 3, none⟩ v3).setCell ⟨g, 4, none⟩ v4) (some g) := by
  refine ⟨?_, grown_trans (grown_trans (grown_trans (grown_trans (grown_set _ _ _ _) (grown_set _ _ _ _)) (grown_set _ _ _ _)) (grown_set _ _ _ _)) (grown_set _ _ _ _)⟩
  exact ((((h.set 0 v0).set 1 v1).set 2 v2).set 3 v3).set 4 v4

theorem info_chain {block rate ch bt total v48 : Nat} {σ σ1 σ2 σ3 σ4 σ5 σ6 σ7 σ8 : Option (List Bool)} {v128 : Nat} (h1 : Ends (pNum 16) σ block σ1) (h2 : Ends (pMust 16 block) σ1 () σ2) (h3 : Ends (pNum 48) σ2 v48 σ3) (h4 : Ends (pNum 20) σ3 rate σ4)
    (h5 : Ends (pNum 3) σ4 ch σ5) (h6 : Ends (pNum 5) σ5 bt σ6) (h7 : Ends (pNum 36) σ6 total σ7) (h8 : Ends (pNum 128) σ7 v128 σ8) :
    (headOk ⟨block, rate, ch + 1, bt + 1, total⟩ = true → Ends pInfo σ ⟨block, rate, ch + 1, bt + 1, total⟩ σ8) ∧ (headOk ⟨block, rate, ch + 1, bt + 1, total⟩ = false ∨ σ8 = none → ∀ x, Ends pInfo σ x none) := by
  have key : ∀ (x : Head) (σ9 : Option (List Bool)), Ends (fun r7 => if headOk ⟨block, rate, ch + 1, bt + 1, total⟩ = true then some ((⟨block, rate, ch + 1, bt + 1, total⟩ : Head), r7) else none) σ8 x σ9 → Ends pInfo σ x σ9 := by
    intro x σ9 h9
    refine Ends.bind h1 (q := fun block r => (pMust 16 block r).bind fun (_, r1) => (pNum 48 r1).bind fun (_, r2) => (pNum 20 r2).bind fun (rate, r3) => (pNum 3 r3).bind fun (ch, r4) => (pNum 5 r4).bind fun (bt, r5) => (pNum 36 r5).bind fun (total, r6) => (pNum 128 r6).bind fun (_, r7) => if headOk ⟨block, rate, ch + 1, bt + 1, total⟩ = true then some ((⟨block, rate, ch + 1, bt + 1, total⟩ : Head), r7) else none) ?_
    refine Ends.bind h2 (q := fun _ r1 => (pNum 48 r1).bind fun (_, r2) => (pNum 20 r2).bind fun (rate, r3) => (pNum 3 r3).bind fun (ch, r4) => (pNum 5 r4).bind fun (bt, r5) => (pNum 36 r5).bind fun (total, r6) => (pNum 128 r6).bind fun (_, r7) => if headOk ⟨block, rate, ch + 1, bt + 1, total⟩ = true then some ((⟨block, rate, ch + 1, bt + 1, total⟩ : Head), r7) else none) ?_
    refine Ends.bind h3 (q := fun _ r2 => (pNum 20 r2).bind fun (rate, r3) => (pNum 3 r3).bind fun (ch, r4) => (pNum 5 r4).bind fun (bt, r5) => (pNum 36 r5).bind fun (total, r6) => (pNum 128 r6).bind fun (_, r7) => if headOk ⟨block, rate, ch + 1, bt + 1, total⟩ = true then some ((⟨block, rate, ch + 1, bt + 1, total⟩ : Head), r7) else none) ?_
    refine Ends.bind h4 (q := fun rate r3 => (pNum 3 r3).bind fun (ch, r4) => (pNum 5 r4).bind fun (bt, r5) => (pNum 36 r5).bind fun (total, r6) => (pNum 128 r6).bind fun (_, r7) => if headOk ⟨block, rate, ch + 1, bt + 1, total⟩ = true then some ((⟨block, rate, ch + 1, bt + 1, total⟩ : Head), r7) else none) ?_
    refine Ends.bind h5 (q := fun ch r4 => (pNum 5 r4).bind fun (bt, r5) => (pNum 36 r5).bind fun (total, r6) => (pNum 128 r6).bind fun (_, r7) => if headOk ⟨block, rate, ch + 1, bt + 1, total⟩ = true then some ((⟨block, rate, ch + 1, bt + 1, total⟩ : Head), r7) else none) ?_
    refine Ends.bind h6 (q := fun bt r5 => (pNum 36 r5).bind fun (total, r6) => (pNum 128 r6).bind fun (_, r7) => if headOk ⟨block, rate, ch + 1, bt + 1, total⟩ = true then some ((⟨block, rate, ch + 1, bt + 1, total⟩ : Head), r7) else none) ?_
    refine Ends.bind h7 (q := fun total r6 => (pNum 128 r6).bind fun (_, r7) => if headOk ⟨block, rate, ch + 1, bt + 1, total⟩ = true then some ((⟨block, rate, ch + 1, bt + 1, total⟩ : Head), r7) else none) ?_
    refine Ends.bind h8 (q := fun _ r7 => if headOk ⟨block, rate, ch + 1, bt + 1, total⟩ = true then some ((⟨block, rate, ch + 1, bt + 1, total⟩ : Head), r7) else none) ?_
    exact h9
  exact ⟨fun hok => key _ _ (Ends.yes hok), fun hno x => by
    rcases hno with hno | hno
    · exact key _ _ (Ends.no (by rw [hno]; simp))
    · subst hno; exact key _ _ Ends.dead⟩

set_option maxHeartbeats 2000000 in
set_option maxRecDepth 20000 in
theorem rhead (w : World) (b : Nat) (s : ByteArray) (size : Nat) (σ : Option (List Bool)) (hs : s.size ≤ 6000) (_hsz : size < 16777216) (hroom : ∀ l, σ = some l → size = 34 → 272 ≤ l.length) (hst : St 86 w b s σ) :
    Calls Try.prog 65 #[.pointer (some ⟨b, 0, none⟩), .int .i64 size] w (HeadPost w b s size σ) := by
  have hblt := hst.lt
  go_enter Try.func65, Try.ntmps65
  go_wp2_with fail
  have hbr0 := Box.new w #[Value.int .i64 0, .int .i64 0, .int .i64 0, .int .i64 0, .int .i64 0] 87
  have hst0 := hst.alloc (.cells #[Value.int .i64 0, .int .i64 0, .int .i64 0, .int .i64 0, .int .i64 0] 87)
  have hg0 : w.grownBy (w.alloc (.cells #[Value.int .i64 0, .int .i64 0, .int .i64 0, .int .i64 0, .int .i64 0] 87)) (some b) := grown_alloc (grown_refl _ _) _
  have hnr : some w.heap.size ≠ some b := fun e => by injection e with e; omega
  refine (rnum _ _ _ 16 _ hs (by omega) hst0).mono ?_
  rintro e w1 ⟨block, σ1, rfl, hblk0, hg1, hst1, hends1⟩
  have hblk : block < 65536 := hblk0
  have hbr1 := hbr0.kept hg1 hnr
  have hgg1 := grown_trans hg0 hg1
  have hr1lt := hbr1.lt
  clear hbr0 hst0 hg0 hg1 hst hblk0
  obtain ⟨g, hg⟩ : ∃ g, w1.heap.size = g := ⟨_, rfl⟩
  have hbh1 := Box.new w1 #[Value.int .i64 block, .int .i64 0, .int .i64 0, .int .i64 0, .int .i64 0] 87
  have hst1a := hst1.alloc (.cells #[Value.int .i64 block, .int .i64 0, .int .i64 0, .int .i64 0, .int .i64 0] 87)
  have hbr1a := hbr1.kept (grown_alloc (grown_refl w1 none) (.cells #[Value.int .i64 block, .int .i64 0, .int .i64 0, .int .i64 0, .int .i64 0] 87)) (by simp)
  have hgg1a := grown_alloc hgg1 (.cells #[Value.int .i64 block, .int .i64 0, .int .i64 0, .int .i64 0, .int .i64 0] 87)
  rw [hg] at hbh1 hr1lt
  have HG : Hid (w1.heap.size = g) := hg
  clear hg hst1 hbr1 hgg1
  have hng : some g ≠ some b := fun e => by injection e with e; omega
  go_wp2_with fail
  refine (rmustI _ _ _ _ _ 16 block _ rfl rfl hs (by omega) (by omega) hst1a).mono ?_
  rintro e w2 ⟨σ2, rfl, hg2, hst2, hends2⟩
  have hbr2 := hbr1a.kept hg2 hnr
  have hbh2 := hbh1.kept hg2 hng
  have hgg2 := grown_trans hgg1a hg2
  rw [HG.out]
  clear hbr1a hbh1 hgg1a hg2 hst1a
  go_wp2_with fail
  refine (rnum _ _ _ 48 _ hs (by omega) hst2).mono ?_
  rintro e w3 ⟨v48, σ3, rfl, hv48, hg3, hst3, hends3⟩
  have hbr3 := hbr2.kept hg3 hnr
  have hbh3 := hbh2.kept hg3 hng
  have hgg3 := grown_trans hgg2 hg3
  clear hbr2 hbh2 hgg2 hg3 hst2
  go_wp2_with fail
  refine (rnum _ _ _ 20 _ hs (by omega) hst3).mono ?_
  rintro e w4 ⟨rate, σ4, rfl, hrate0, hg4, hst4, hends4⟩
  have hrate : rate < 1048576 := hrate0
  have hbr4 := hbr3.kept hg4 hnr
  have hbh4 := hbh3.kept hg4 hng
  have hgg4 := grown_trans hgg3 hg4
  clear hbr3 hbh3 hgg3 hg4 hst3 hrate0 hv48
  have c4 : w4.cell? ⟨g, 1, none⟩ = some (.int .i64 0) := hbh4.cell 1
  have f4 := hbh4.fz 1
  have hbh4s : Box (w4.setCell ⟨g, 1, none⟩ (.int .i64 rate)) g #[Value.int .i64 block, .int .i64 rate, .int .i64 0, .int .i64 0, .int .i64 0] 87 := hbh4.set 1 _
  have hbr4s := hbr4.kept (grown_set w4 g 1 (.int .i64 rate)) (fun e => by injection e with e; omega)
  have hst4s := hst4.kept (grown_set w4 g 1 (.int .i64 rate)) (fun e => by injection e with e; omega)
  have hgg4s : w.grownBy (w4.setCell ⟨g, 1, none⟩ (.int .i64 rate)) (some b) := grown_own hgg4 (grown_set w4 g 1 _) (fun q hq => by injection hq with hq; omega)
  clear hbh4 hbr4 hst4 hgg4
  go_wp2_with fail
  refine (rnum _ _ _ 3 _ hs (by omega) hst4s).mono ?_
  rintro e w5 ⟨ch, σ5, rfl, hch0, hg5, hst5, hends5⟩
  have hch : ch < 8 := hch0
  have hbr5 := hbr4s.kept hg5 hnr
  have hbh5 := hbh4s.kept hg5 hng
  have hgg5 := grown_trans hgg4s hg5
  clear hbr4s hbh4s hgg4s hg5 hst4s c4 f4 hch0
  have c5 : w5.cell? ⟨g, 2, none⟩ = some (.int .i64 0) := hbh5.cell 2
  have f5 := hbh5.fz 2
  have hbh5s : Box (w5.setCell ⟨g, 2, none⟩ (.int .i64 ((ch : Int) + 1))) g #[Value.int .i64 block, .int .i64 rate, .int .i64 ((ch : Int) + 1), .int .i64 0, .int .i64 0] 87 := hbh5.set 2 _
  have hbr5s := hbr5.kept (grown_set w5 g 2 (.int .i64 ((ch : Int) + 1))) (fun e => by injection e with e; omega)
  have hst5s := hst5.kept (grown_set w5 g 2 (.int .i64 ((ch : Int) + 1))) (fun e => by injection e with e; omega)
  have hgg5s : w.grownBy (w5.setCell ⟨g, 2, none⟩ (.int .i64 ((ch : Int) + 1))) (some b) := grown_own hgg5 (grown_set w5 g 2 _) (fun q hq => by injection hq with hq; omega)
  clear hbh5 hbr5 hst5 hgg5
  go_wp2_with fail
  refine (rnum _ _ _ 5 _ hs (by omega) hst5s).mono ?_
  rintro e w6 ⟨bt, σ6, rfl, hbt0, hg6, hst6, hends6⟩
  have hbt : bt < 32 := hbt0
  have hbr6 := hbr5s.kept hg6 hnr
  have hbh6 := hbh5s.kept hg6 hng
  have hgg6 := grown_trans hgg5s hg6
  clear hbr5s hbh5s hgg5s hg6 hst5s c5 f5 hbt0
  have c6 : w6.cell? ⟨g, 3, none⟩ = some (.int .i64 0) := hbh6.cell 3
  have f6 := hbh6.fz 3
  have hbh6s : Box (w6.setCell ⟨g, 3, none⟩ (.int .i64 ((bt : Int) + 1))) g #[Value.int .i64 block, .int .i64 rate, .int .i64 ((ch : Int) + 1), .int .i64 ((bt : Int) + 1), .int .i64 0] 87 := hbh6.set 3 _
  have hbr6s := hbr6.kept (grown_set w6 g 3 (.int .i64 ((bt : Int) + 1))) (fun e => by injection e with e; omega)
  have hst6s := hst6.kept (grown_set w6 g 3 (.int .i64 ((bt : Int) + 1))) (fun e => by injection e with e; omega)
  have hgg6s : w.grownBy (w6.setCell ⟨g, 3, none⟩ (.int .i64 ((bt : Int) + 1))) (some b) := grown_own hgg6 (grown_set w6 g 3 _) (fun q hq => by injection hq with hq; omega)
  clear hbh6 hbr6 hst6 hgg6
  go_wp2_with fail
  refine (rnum _ _ _ 36 _ hs (by omega) hst6s).mono ?_
  rintro e w7 ⟨total, σ7, rfl, htotal0, hg7, hst7, hends7⟩
  have htotal : total < 68719476736 := htotal0
  have hbr7 := hbr6s.kept hg7 hnr
  have hbh7 := hbh6s.kept hg7 hng
  have hgg7 := grown_trans hgg6s hg7
  clear hbr6s hbh6s hgg6s hg7 hst6s c6 f6 htotal0
  have c7 : w7.cell? ⟨g, 4, none⟩ = some (.int .i64 0) := hbh7.cell 4
  have f7 := hbh7.fz 4
  have hbh7s : Box (w7.setCell ⟨g, 4, none⟩ (.int .i64 total)) g #[Value.int .i64 block, .int .i64 rate, .int .i64 ((ch : Int) + 1), .int .i64 ((bt : Int) + 1), .int .i64 total] 87 := hbh7.set 4 _
  have hbr7s := hbr7.kept (grown_set w7 g 4 (.int .i64 total)) (fun e => by injection e with e; omega)
  have hst7s := hst7.kept (grown_set w7 g 4 (.int .i64 total)) (fun e => by injection e with e; omega)
  have hgg7s : w.grownBy (w7.setCell ⟨g, 4, none⟩ (.int .i64 total)) (some b) := grown_own hgg7 (grown_set w7 g 4 _) (fun q hq => by injection hq with hq; omega)
  clear hbh7 hbr7 hst7 hgg7
  obtain ⟨w8, hw8⟩ : ∃ w8, w7.setCell ⟨g, 4, none⟩ (.int .i64 total) = w8 := ⟨_, rfl⟩
  go_upto_region 8 with fail
  rw [hw8] at hbh7s hbr7s hst7s hgg7s
  clear hw8 c7 f7
  obtain ⟨a, m, ha, hrd, hma⟩ := hst7s.rd hs
  have HMA : Hid (m = σ7.isNone ∧ ∀ l, σ7 = some l → a = 8 * s.size - l.length) := hma
  clear hma
  have k1 := hrd.c1
  have kf1 := hrd.fz 1
  have kf2 := hrd.fz 2
  have k2 := hrd.c2
  have e0 : w8.cell? ⟨g, 0, none⟩ = some (.int .i64 block) := hbh7s.cell 0
  have e1 : w8.cell? ⟨g, 1, none⟩ = some (.int .i64 rate) := hbh7s.cell 1
  have e2 : w8.cell? ⟨g, 2, none⟩ = some (.int .i64 ((ch : Int) + 1)) := hbh7s.cell 2
  have e3 : w8.cell? ⟨g, 3, none⟩ = some (.int .i64 ((bt : Int) + 1)) := hbh7s.cell 3
  have e4 : w8.cell? ⟨g, 4, none⟩ = some (.int .i64 total) := hbh7s.cell 4
  have z0 : w8.cell? ⟨w.heap.size, 0, none⟩ = some (.int .i64 0) := hbr7s.cell 0
  have z1 : w8.cell? ⟨w.heap.size, 1, none⟩ = some (.int .i64 0) := hbr7s.cell 1
  have z2 : w8.cell? ⟨w.heap.size, 2, none⟩ = some (.int .i64 0) := hbr7s.cell 2
  have z3 : w8.cell? ⟨w.heap.size, 3, none⟩ = some (.int .i64 0) := hbr7s.cell 3
  have z4 : w8.cell? ⟨w.heap.size, 4, none⟩ = some (.int .i64 0) := hbr7s.cell 4
  have y0 := hbr7s.fz 0
  have y1 := hbr7s.fz 1
  have y2 := hbr7s.fz 2
  have y3 := hbr7s.fz 3
  have y4 := hbr7s.fz 4
  have hgb : b < g := by omega
  obtain ⟨w9, hw9⟩ : ∃ w9, w8.setCell ⟨b, 1, none⟩ (.int .i64 ((a : Int) + 128)) = w9 := ⟨_, rfl⟩
  have hrd9 : Rd 86 w9 b s (a + 128) m := by rw [← hw9]; exact hrd.set1 (a + 128)
  have hg9 : w8.grownBy w9 (some b) := by rw [← hw9]; exact grown_set _ _ _ _
  have hbh9 := hbh7s.kept hg9 hng
  have hbr9 := hbr7s.kept hg9 hnr
  have hgg9 := grown_trans hgg7s hg9
  obtain ⟨hok, hok0⟩ : ∃ hok, (decide (size = 34) && headOk ⟨block, rate, ch + 1, bt + 1, total⟩) = hok := ⟨_, rfl⟩
  have HOK : Hid ((decide (size = 34) && headOk ⟨block, rate, ch + 1, bt + 1, total⟩) = hok) := hok0
  clear hok0
  go_upto_region 9 with fail
  clear hw9 e0 e1 e2 e3 e4 z0 z1 z2 z3 z4 y0 y1 y2 y3 y4 k1 k2 kf1 kf2
  have e0 : w9.cell? ⟨g, 0, none⟩ = some (.int .i64 block) := hbh9.cell 0
  have e1 : w9.cell? ⟨g, 1, none⟩ = some (.int .i64 rate) := hbh9.cell 1
  have e2 : w9.cell? ⟨g, 2, none⟩ = some (.int .i64 ((ch : Int) + 1)) := hbh9.cell 2
  have e3 : w9.cell? ⟨g, 3, none⟩ = some (.int .i64 ((bt : Int) + 1)) := hbh9.cell 3
  have e4 : w9.cell? ⟨g, 4, none⟩ = some (.int .i64 total) := hbh9.cell 4
  go_cut [78] (fun s78 wx => wx = w9 ∧ s78 = .bool (!hok))
  case first =>
    by_cases q0 : size = 34
    rotate_left
    · have hv : hok = false := by rw [← HOK.out]; simp [headOk]; omega
      have t34 : ((size : Int) != 34) = true := by simp; omega
      clear q0
      go_wp2
      go_meet
      case rel => exact ⟨rfl, by rw [hv]; first | rfl | (congr 1; simp; omega)⟩
    have t34 : ((size : Int) != 34) = false := by simp; omega
    have HQ0 : Hid (size = 34) := q0
    clear q0
    by_cases q1 : 16 ≤ block
    rotate_left
    · have hv : hok = false := by rw [← HOK.out]; simp [headOk]; omega
      have d1 : decide ((block : Int) < 16) = true := decide_eq_true (by omega)
      clear q1
      go_wp2
      go_meet
      case rel => exact ⟨rfl, by rw [hv]; rfl⟩
    have d1 : decide ((block : Int) < 16) = false := decide_eq_false (by omega)
    have Q1 : Hid (16 ≤ block) := q1
    clear q1
    by_cases q2 : block ≤ 256
    rotate_left
    · have hv : hok = false := by rw [← HOK.out]; simp [headOk]; omega
      have d2 : decide ((256 : Int) < (block : Int)) = true := decide_eq_true (by omega)
      clear q2
      go_wp2
      go_meet
      case rel => exact ⟨rfl, by rw [hv]; rfl⟩
    have d2 : decide ((256 : Int) < (block : Int)) = false := decide_eq_false (by omega)
    have Q2 : Hid (block ≤ 256) := q2
    clear q2
    by_cases q3 : 1 ≤ rate
    rotate_left
    · have hv : hok = false := by rw [← HOK.out]; simp [headOk]; omega
      have d3 : decide ((rate : Int) < 1) = true := decide_eq_true (by omega)
      clear q3
      go_wp2
      go_meet
      case rel => exact ⟨rfl, by rw [hv]; rfl⟩
    have d3 : decide ((rate : Int) < 1) = false := decide_eq_false (by omega)
    have Q3 : Hid (1 ≤ rate) := q3
    clear q3
    by_cases q4 : rate ≤ 655350
    rotate_left
    · have hv : hok = false := by rw [← HOK.out]; simp [headOk]; omega
      have d4 : decide ((655350 : Int) < (rate : Int)) = true := decide_eq_true (by omega)
      clear q4
      go_wp2
      go_meet
      case rel => exact ⟨rfl, by rw [hv]; rfl⟩
    have d4 : decide ((655350 : Int) < (rate : Int)) = false := decide_eq_false (by omega)
    have Q4 : Hid (rate ≤ 655350) := q4
    clear q4
    by_cases q5 : ch + 1 ≤ 2
    rotate_left
    · have hv : hok = false := by rw [← HOK.out]; simp [headOk]; omega
      have d5 : decide ((2 : Int) < (ch : Int) + 1) = true := decide_eq_true (by omega)
      clear q5
      go_wp2
      go_meet
      case rel => exact ⟨rfl, by rw [hv]; rfl⟩
    have d5 : decide ((2 : Int) < (ch : Int) + 1) = false := decide_eq_false (by omega)
    have Q5 : Hid (ch + 1 ≤ 2) := q5
    clear q5
    by_cases q6 : 4 ≤ bt + 1
    rotate_left
    · have hv : hok = false := by rw [← HOK.out]; simp [headOk]; omega
      have d6 : decide ((bt : Int) + 1 < 4) = true := decide_eq_true (by omega)
      clear q6
      go_wp2
      go_meet
      case rel => exact ⟨rfl, by rw [hv]; rfl⟩
    have d6 : decide ((bt : Int) + 1 < 4) = false := decide_eq_false (by omega)
    have Q6 : Hid (4 ≤ bt + 1) := q6
    clear q6
    by_cases q7 : bt + 1 ≤ 16
    rotate_left
    · have hv : hok = false := by rw [← HOK.out]; simp [headOk]; omega
      have d7 : decide ((16 : Int) < (bt : Int) + 1) = true := decide_eq_true (by omega)
      clear q7
      go_wp2
      go_meet
      case rel => exact ⟨rfl, by rw [hv]; rfl⟩
    have d7 : decide ((16 : Int) < (bt : Int) + 1) = false := decide_eq_false (by omega)
    have Q7 : Hid (bt + 1 ≤ 16) := q7
    clear q7
    by_cases q8 : total ≤ 1200
    rotate_left
    · have hv : hok = false := by rw [← HOK.out]; simp [headOk]; omega
      have d8 : decide ((1200 : Int) < (total : Int)) = true := decide_eq_true (by omega)
      clear q8
      go_wp2
      go_meet
      case rel => exact ⟨rfl, by rw [hv]; rfl⟩
    have d8 : decide ((1200 : Int) < (total : Int)) = false := decide_eq_false (by omega)
    have Q8 : Hid (total ≤ 1200) := q8
    clear q8
    have hv : hok = true := by rw [← HOK.out]; have := HQ0.out; have := Q1.out; have := Q2.out; have := Q3.out; have := Q4.out; have := Q5.out; have := Q6.out; have := Q7.out; have := Q8.out; simp [headOk]; omega
    go_wp2
    go_meet
    case rel => exact ⟨rfl, by rw [hv]; rfl⟩
  case rest =>
    obtain ⟨hwc, hs78⟩ := hcut
    subst hwc
    subst hs78
    have z0 : wc.cell? ⟨w.heap.size, 0, none⟩ = some (.int .i64 0) := hbr9.cell 0
    have z1 : wc.cell? ⟨w.heap.size, 1, none⟩ = some (.int .i64 0) := hbr9.cell 1
    have z2 : wc.cell? ⟨w.heap.size, 2, none⟩ = some (.int .i64 0) := hbr9.cell 2
    have z3 : wc.cell? ⟨w.heap.size, 3, none⟩ = some (.int .i64 0) := hbr9.cell 3
    have z4 : wc.cell? ⟨w.heap.size, 4, none⟩ = some (.int .i64 0) := hbr9.cell 4
    have y0 := hbr9.fz 0
    have y1 := hbr9.fz 1
    have y2 := hbr9.fz 2
    have y3 := hbr9.fz 3
    have y4 := hbr9.fz 4
    have k2 := hrd9.c2
    have kf2 := hrd9.fz 2
    have hfin : ∀ (wf : World) (mk : Bool), w.grownBy wf (some b) → Box wf w.heap.size #[Value.int .i64 block, .int .i64 rate, .int .i64 ((ch : Int) + 1), .int .i64 ((bt : Int) + 1), .int .i64 total] 87 → Rd 86 wf b s (a + 128) mk →
        (hok = false → mk = true) → (hok = true → mk = m) → HeadPost w b s size σ (.returned (headV ⟨block, rate, ch + 1, bt + 1, total⟩)) wf := by
      intro wf mk hgf _ hrdf hb0 hb1
      refine ⟨_, rfl, hgf, ?_⟩
      have hm1 := HMA.out.1
      have hm2 := HMA.out.2
      have hokv := HOK.out
      cases hok with
      | false =>
        right
        refine ⟨fun l hl h34 => ?_, by rw [← hb0 rfl]; exact hrdf.c2⟩
        have hbad : headOk ⟨block, rate, ch + 1, bt + 1, total⟩ = false := by
          rw [h34] at hokv
          simpa using hokv
        subst hl
        have h8 : ∃ v σ8, Ends (pNum 128) σ7 v σ8 := by
          cases σ7 with
          | none => exact ⟨0, none, rfl⟩
          | some l7 =>
            cases hp : pNum 128 l7 with
            | none => exact ⟨0, none, Ends.fail (fun l0 e0 => by cases e0; exact hp)⟩
            | some yr => exact ⟨yr.1, some yr.2, Ends.of hp⟩
        obtain ⟨v, σ8, h8⟩ := h8
        have := (info_chain hends1 hends2 hends3 hends4 hends5 hends6 hends7 h8).2 (.inl hbad) ⟨0, 0, 0, 0, 0⟩
        rcases this.cases with ⟨r, _, e⟩ | ⟨e, _⟩
        · cases e
        · exact e
      | true =>
        have h34 : size = 34 := by
          rw [Bool.and_eq_true, decide_eq_true_eq] at hokv
          exact hokv.1
        have hgood : headOk ⟨block, rate, ch + 1, bt + 1, total⟩ = true := by
          rw [Bool.and_eq_true] at hokv
          exact hokv.2
        cases σ7 with
        | none =>
          right
          refine ⟨fun l hl _ => ?_, ?_⟩
          · subst hl
            have := (info_chain hends1 hends2 hends3 hends4 hends5 hends6 hends7 (v128 := 0) (σ8 := none) rfl).2 (.inr rfl) ⟨0, 0, 0, 0, 0⟩
            rcases this.cases with ⟨r, _, e⟩ | ⟨e, _⟩
            · cases e
            · exact e
          · have := hb1 rfl
            rw [hm1] at this
            rw [this] at hrdf
            exact hrdf.c2
        | some l7 =>
          left
          obtain ⟨l6, rfl⟩ := hends7.alive
          obtain ⟨l5, rfl⟩ := hends6.alive
          obtain ⟨l4, rfl⟩ := hends5.alive
          obtain ⟨l3, rfl⟩ := hends4.alive
          obtain ⟨l2, rfl⟩ := hends3.alive
          obtain ⟨l1, rfl⟩ := hends2.alive
          obtain ⟨l, rfl⟩ := hends1.alive
          have hr := hroom l rfl h34
          have n1 := num_left hends1
          have n2 := must_left hends2
          have n3 := num_left hends3
          have n4 := num_left hends4
          have n5 := num_left hends5
          have n6 := num_left hends6
          have n7 := num_left hends7
          have hl7 : 128 ≤ l7.length := by omega
          have h8 : Ends (pNum 128) (some l7) (val (l7.take 128)) (some (l7.drop 128)) := Ends.of (by unfold pNum; rw [if_pos hl7])
          have := (info_chain hends1 hends2 hends3 hends4 hends5 hends6 hends7 h8).1 hgood
          refine ⟨l, l7.drop 128, rfl, h34, ?_, ?_⟩
          · rcases this.cases with ⟨r, e, e2⟩ | ⟨_, e⟩
            · injection e2 with e2
              rw [e, e2]
            · cases e
          · have hmk := hb1 rfl
            rw [hm1] at hmk
            rw [hmk] at hrdf
            have ha := hm2 l7 rfl
            have hlive := hst7s
            obtain ⟨a', ha', hl', _⟩ := hlive
            have hlen : l7.length = 8 * s.size - a' := by rw [hl', List.length_drop, total_bits]
            refine ⟨a + 128, by omega, ?_, hrdf⟩
            rw [hl', List.drop_drop]
            congr 1
            omega
    have hbrs := fun (W : World) (hW : Box W w.heap.size #[Value.int .i64 0, .int .i64 0, .int .i64 0, .int .i64 0, .int .i64 0] 87) => five_stores W w.heap.size _ _ _ _ _ _ (.int .i64 block) (.int .i64 rate) (.int .i64 ((ch : Int) + 1)) (.int .i64 ((bt : Int) + 1)) (.int .i64 total) hW
    rcases hok with _ | _
    · have h5 := hbrs (wc.setCell ⟨b, 2, none⟩ (.bool true)) (hbr9.kept (grown_set _ _ _ _) hnr)
      have hg5 : w.grownBy (wc.setCell ⟨b, 2, none⟩ (.bool true)) (some b) := grown_trans hgg9 (grown_set _ _ _ _)
      have hrd5 := hrd9.set2 true
      clear hbrs
      go_wp2
      generalize (World.setCell _ _ (Value.int .i64 total)) = wf at h5 ⊢
      have hgf : w.grownBy wf (some b) := grown_own hg5 h5.2 (fun q hq => by injection hq with hq; omega)
      have hrdf := hrd5.kept h5.2 (fun e => by injection e with e; omega)
      have x0 := h5.1.cell 0
      have x1 := h5.1.cell 1
      have x2 := h5.1.cell 2
      have x3 := h5.1.cell 3
      have x4 := h5.1.cell 4
      exact bodyPost_ret (v := headV ⟨block, rate, ch + 1, bt + 1, total⟩) (by simp [results, Try.results65, go_sem, x0, x1, x2, x3, x4, headV]) rfl (hfin wf true hgf h5.1 hrdf (fun _ => rfl) (fun e => by cases e))
    · have h5 := hbrs wc hbr9
      clear hbrs
      go_wp2
      generalize (World.setCell _ _ (Value.int .i64 total)) = wf at h5 ⊢
      have hgf : w.grownBy wf (some b) := grown_own hgg9 h5.2 (fun q hq => by injection hq with hq; omega)
      have hrdf := hrd9.kept h5.2 (fun e => by injection e with e; omega)
      have x0 := h5.1.cell 0
      have x1 := h5.1.cell 1
      have x2 := h5.1.cell 2
      have x3 := h5.1.cell 3
      have x4 := h5.1.cell 4
      exact bodyPost_ret (v := headV ⟨block, rate, ch + 1, bt + 1, total⟩) (by simp [results, Try.results65, go_sem, x0, x1, x2, x3, x4, headV]) rfl (hfin wf m hgf h5.1 hrdf (fun e => by cases e) (fun _ => rfl))
end Go.Proofs.Ytncmgnmcggkhnaa

namespace Go.Proofs.Ytncmgnmcggkhnaa
open Go.RowKit

theorem block_ends {σ σ1 σ2 σ3 : Option (List Bool)} {last kind size : Nat} (h1 : Ends (pNum 1) σ last σ1) (h2 : Ends (pNum 7) σ1 kind σ2) (h3 : Ends (pNum 24) σ2 size σ3) :
    Ends pBlock σ (last, kind, size) σ3 := by
  refine Ends.bind h1 (q := fun last r => (pNum 7 r).bind fun (kind, r1) => (pNum 24 r1).bind fun (size, r2) => some ((last, kind, size), r2)) ?_
  refine Ends.bind h2 (q := fun kind r1 => (pNum 24 r1).bind fun (size, r2) => some ((last, kind, size), r2)) ?_
  refine Ends.bind h3 (q := fun size r2 => some ((last, kind, size), r2)) ?_
  cases σ3 with
  | none => rfl
  | some r => exact ⟨rfl, rfl⟩

/-- where the loop over the blocks stands: the bits at the start, is it the first block, what was told, the bits left (none: the mark is set), how many more there can be -/
def BlkInv (l : List Bool) (first : Bool) (h : Head) (σ : Option (List Bool)) (gk : Nat) : Prop :=
  match σ with
  | none => pBlocks l = none
  | some r => r.length % 8 = 0 ∧
    match first with
    | true => gk = l.length + 1 ∧ r.length < l.length ∧ pBlocks l = (pBlock r).bind fun ((last, kind, size), r4) =>
        if kind = 0 ∧ size = 34 then (pInfo r4).bind fun (h, r5) => if last = 1 then some (h, r5) else (pMore l.length r5).map fun (_, r6) => (h, r6) else none
    | false => r.length < gk ∧ gk ≤ l.length ∧ pBlocks l = (pMore gk r).map fun (_, r6) => (h, r6)

/-- does the block's head pass? -/
def blkOk (first : Bool) (kind size room : Nat) : Bool :=
  ((kind == 0) == first) && !(kind == 127) && !(kind == 3 && !(size % 18 == 0)) && decide (8 * size ≤ room)

theorem must8 {σ σ' : Option (List Bool)} {v : Nat} (h : Ends (pMust 8 v) σ () σ') : ∀ l', σ' = some l' → ∃ l, σ = some l ∧ pMust 8 v l = some ((), l') ∧ l.length = l'.length + 8 := by
  intro l' e
  subst e
  obtain ⟨l, rfl⟩ := h.alive
  have hn := must_left h
  rcases h.cases with ⟨r, e1, e2⟩ | ⟨_, e2⟩
  · injection e2 with e2
    subst e2
    exact ⟨l, rfl, e1, by omega⟩
  · cases e2

/-- behind the four signs -/
theorem blk_start {l : List Bool} {σ1 σ2 σ3 σ4 : Option (List Bool)} (h8 : l.length % 8 = 0) (h1 : Ends (pMust 8 102) (some l) () σ1) (h2 : Ends (pMust 8 76) σ1 () σ2) (h3 : Ends (pMust 8 97) σ2 () σ3)
    (h4 : Ends (pMust 8 67) σ3 () σ4) (h : Head) : BlkInv l true h σ4 (l.length + 1) := by
  have key : Ends (fun l => (pMust 8 102 l).bind fun (_, r) => (pMust 8 76 r).bind fun (_, r1) => (pMust 8 97 r1).bind fun (_, r2) => pMust 8 67 r2) (some l) () σ4 := by
    refine Ends.bind h1 (q := fun _ r => (pMust 8 76 r).bind fun (_, r1) => (pMust 8 97 r1).bind fun (_, r2) => pMust 8 67 r2) ?_
    refine Ends.bind h2 (q := fun _ r1 => (pMust 8 97 r1).bind fun (_, r2) => pMust 8 67 r2) ?_
    exact Ends.bind h3 (q := fun _ r2 => pMust 8 67 r2) h4
  have hpb : pBlocks l = (((pMust 8 102 l).bind fun (_, r) => (pMust 8 76 r).bind fun (_, r1) => (pMust 8 97 r1).bind fun (_, r2) => pMust 8 67 r2) : Option (Unit × List Bool)).bind fun (_, r3) => (pBlock r3).bind fun ((last, kind, size), r4) =>
        if kind = 0 ∧ size = 34 then (pInfo r4).bind fun (h, r5) => if last = 1 then some (h, r5) else (pMore l.length r5).map fun (_, r6) => (h, r6) else none := by
    unfold pBlocks
    cases pMust 8 102 l with
    | none => rfl
    | some x1 =>
      cases e2 : pMust 8 76 x1.2 with
      | none => simp only [Option.bind_some, e2]; rfl
      | some x2 =>
        cases e3 : pMust 8 97 x2.2 with
        | none => simp only [Option.bind_some, e2, e3]; rfl
        | some x3 => simp only [Option.bind_some, e2, e3]
  rcases σ4 with _ | r
  · show pBlocks l = none
    rcases key.cases with ⟨r, _, e⟩ | ⟨e, _⟩
    · cases e
    · rw [hpb, e]; rfl
  · obtain ⟨l3, rfl, p4, n4⟩ := must8 h4 r rfl
    obtain ⟨l2, rfl, p3, n3⟩ := must8 h3 l3 rfl
    obtain ⟨l1, rfl, p2, n2⟩ := must8 h2 l2 rfl
    obtain ⟨l0, e0, p1, n1⟩ := must8 h1 l1 rfl
    injection e0 with e0
    subst e0
    refine ⟨by omega, rfl, by omega, ?_⟩
    rcases key.cases with ⟨r', e, e'⟩ | ⟨_, e⟩
    · injection e' with e'
      subst e'
      rw [hpb, e]
      rfl
    · cases e

theorem pnum_left {n v : Nat} {l r : List Bool} (e : pNum n l = some (v, r)) : r.length + n = l.length := (num_left (Ends.of e)).1
theorem pmust_left {n v : Nat} {u : Unit} {l r : List Bool} (e : pMust n v l = some (u, r)) : r.length + n = l.length := (must_left (Ends.of e)).1

theorem info_left {l r : List Bool} {h : Head} (e : pInfo l = some (h, r)) : r.length + 272 = l.length := by
  unfold pInfo at e
  obtain ⟨⟨a1, r1⟩, e1, e⟩ := Option.bind_eq_some_iff.mp e
  obtain ⟨⟨a2, r2⟩, e2, e⟩ := Option.bind_eq_some_iff.mp e
  obtain ⟨⟨a3, r3⟩, e3, e⟩ := Option.bind_eq_some_iff.mp e
  obtain ⟨⟨a4, r4⟩, e4, e⟩ := Option.bind_eq_some_iff.mp e
  obtain ⟨⟨a5, r5⟩, e5, e⟩ := Option.bind_eq_some_iff.mp e
  obtain ⟨⟨a6, r6⟩, e6, e⟩ := Option.bind_eq_some_iff.mp e
  obtain ⟨⟨a7, r7⟩, e7, e⟩ := Option.bind_eq_some_iff.mp e
  obtain ⟨⟨a8, r8⟩, e8, e⟩ := Option.bind_eq_some_iff.mp e
  have := pnum_left e1
  have := pmust_left e2
  have := pnum_left e3
  have := pnum_left e4
  have := pnum_left e5
  have := pnum_left e6
  have := pnum_left e7
  have := pnum_left e8
  simp only at e
  split at e
  · injection e with e
    injection e with _ e
    subst e
    omega
  · cases e

theorem info_short (r : List Bool) (hr : r.length < 272) : pInfo r = none := by
  cases e : pInfo r with
  | none => rfl
  | some x =>
    have := info_left (h := x.1) (r := x.2) e
    omega

/-- what a block's head says when it does not pass, or was not there -/
theorem blk_none {l r : List Bool} {first : Bool} {h : Head} {gk last kind size : Nat} {σ3 : Option (List Bool)} (hi : BlkInv l first h (some r) gk) (hb : Ends pBlock (some r) (last, kind, size) σ3)
    (hno : ∀ r3, σ3 = some r3 → blkOk first kind size r3.length = false) : pBlocks l = none := by
  obtain ⟨h8, hi⟩ := hi
  rcases hb.cases with ⟨r3, e, rfl⟩ | ⟨e, _⟩
  · have hn := hno r3 rfl
    cases first with
    | true =>
      obtain ⟨_, _, hp⟩ := hi
      rw [hp, e]
      simp only [Option.bind_some]
      split
      · rename_i hk
        obtain ⟨rfl, rfl⟩ := hk
        have hlen : r3.length < 272 := by
          simp [blkOk] at hn
          omega
        have : pInfo r3 = none := info_short r3 hlen
        rw [this]; rfl
      · rfl
    | false =>
      obtain ⟨hgk, _, hp⟩ := hi
      obtain ⟨g, rfl⟩ : ∃ g, gk = g + 1 := ⟨gk - 1, by omega⟩
      rw [hp]
      show Option.map _ ((pBlock r).bind _) = none
      rw [e]
      simp only [Option.bind_some]
      rw [if_pos]
      · rfl
      · simp [blkOk] at hn
        by_cases k0 : kind = 0
        · exact .inl k0
        · by_cases k1 : kind = 127
          · exact .inr (.inl k1)
          · right; right
            by_cases k3 : kind = 3 ∧ size % 18 ≠ 0
            · exact .inl k3
            · right
              have := hn k0 k1 (by omega)
              omega
  · cases first with
    | true =>
      obtain ⟨_, _, hp⟩ := hi
      rw [hp, e]; rfl
    | false =>
      obtain ⟨hgk, _, hp⟩ := hi
      obtain ⟨g, rfl⟩ : ∃ g, gk = g + 1 := ⟨gk - 1, by omega⟩
      rw [hp]
      show Option.map _ ((pBlock r).bind _) = none
      rw [e]
      rfl

def BlkMid (l : List Bool) (last : Nat) (h : Head) (σ : Option (List Bool)) (gk : Nat) : Prop :=
  if last = 1 then pBlocks l = σ.map fun r => (h, r) else BlkInv l false h σ gk

theorem blk_dead {l : List Bool} {last : Nat} {h : Head} {gk : Nat} (e : pBlocks l = none) : BlkMid l last h none gk := by
  unfold BlkMid
  split
  · exact e
  · exact e

theorem block_left {l r : List Bool} {x : Nat × Nat × Nat} (e : pBlock l = some (x, r)) : r.length + 32 = l.length := by
  unfold pBlock at e
  obtain ⟨⟨a1, r1⟩, e1, e⟩ := Option.bind_eq_some_iff.mp e
  obtain ⟨⟨a2, r2⟩, e2, e⟩ := Option.bind_eq_some_iff.mp e
  obtain ⟨⟨a3, r3⟩, e3, e⟩ := Option.bind_eq_some_iff.mp e
  injection e with e
  injection e with _ e
  subst e
  have := pnum_left e1
  have := pnum_left e2
  have := pnum_left e3
  omega

theorem blk_first {l r r3 r5 : List Bool} {h h' : Head} {gk last : Nat} (hi : BlkInv l true h (some r) gk) (hb : pBlock r = some ((last, 0, 34), r3)) (hp : pInfo r3 = some (h', r5)) :
    BlkMid l last h' (some r5) (gk - 1) := by
  obtain ⟨h8, hgk, hlt, hi⟩ := hi
  have h1 := block_left hb
  have h2 := info_left hp
  rw [hb] at hi
  simp only [Option.bind_some, hp, and_self, if_true] at hi
  unfold BlkMid
  split
  · rename_i e
    rw [if_pos e] at hi
    exact hi
  · rename_i e
    rw [if_neg e] at hi
    have : gk - 1 = l.length := by omega
    rw [this]
    exact ⟨by omega, by omega, Nat.le_refl _, hi⟩

theorem blk_first_none {l r : List Bool} {h : Head} {gk last kind size : Nat} {σ3 : Option (List Bool)} (hi : BlkInv l true h (some r) gk) (hb : Ends pBlock (some r) (last, kind, size) σ3)
    (hp : ∀ r3, σ3 = some r3 → size = 34 → pInfo r3 = none) : pBlocks l = none := by
  obtain ⟨h8, hgk, hlt, hi⟩ := hi
  rcases hb.cases with ⟨r3, e, rfl⟩ | ⟨e, _⟩
  · rw [hi, e]
    simp only [Option.bind_some]
    split
    · rename_i hk
      rw [hp r3 rfl hk.2]
      rfl
    · rfl
  · rw [hi, e]; rfl

theorem blk_next {l r r3 : List Bool} {h : Head} {gk last kind size : Nat} (hi : BlkInv l false h (some r) gk) (hb : pBlock r = some ((last, kind, size), r3)) (hok : blkOk false kind size r3.length = true) :
    BlkMid l last h (some (r3.drop (8 * size))) (gk - 1) := by
  obtain ⟨h8, hgk, hle, hi⟩ := hi
  have h1 := block_left hb
  obtain ⟨g, rfl⟩ : ∃ g, gk = g + 1 := ⟨gk - 1, by omega⟩
  have hk : ¬ (kind = 0 ∨ kind = 127 ∨ (kind = 3 ∧ size % 18 ≠ 0) ∨ r3.length < 8 * size) := by
    simp [blkOk] at hok
    omega
  have hroom : 8 * size ≤ r3.length := by omega
  have hm : pMore (g + 1) r = if last = 1 then some ((), r3.drop (8 * size)) else pMore g (r3.drop (8 * size)) := by
    show (pBlock r).bind _ = _
    rw [hb]
    simp only [Option.bind_some]
    rw [if_neg hk]
  rw [hm] at hi
  unfold BlkMid
  split
  · rename_i e
    rw [if_pos e] at hi
    exact hi
  · rename_i e
    rw [if_neg e] at hi
    refine ⟨?_, ?_, ?_, hi⟩
    · rw [List.length_drop]; omega
    · show _ < g + 1 - 1
      rw [List.length_drop]; omega
    · show g + 1 - 1 ≤ l.length
      omega

theorem blk_next_none {l r : List Bool} {h : Head} {gk last kind size : Nat} (hi : BlkInv l false h (some r) gk) (hb : Ends pBlock (some r) (last, kind, size) none) : pBlocks l = none := by
  obtain ⟨h8, hgk, hle, hi⟩ := hi
  obtain ⟨g, rfl⟩ : ∃ g, gk = g + 1 := ⟨gk - 1, by omega⟩
  rcases hb.cases with ⟨r3, _, e⟩ | ⟨e, _⟩
  · cases e
  · rw [hi]
    show Option.map _ ((pBlock r).bind _) = none
    rw [e]
    rfl
end Go.Proofs.Ytncmgnmcggkhnaa
