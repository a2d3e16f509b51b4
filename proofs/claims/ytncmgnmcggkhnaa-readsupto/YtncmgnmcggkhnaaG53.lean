import Derived.Test.YtncmgnmcggkhnaaG52
namespace Go.Proofs.Ytncmgnmcggkhnaa
open Go.RowKit

theorem decode_err_pos {L : List UInt8} {e p : Nat} (h : decode L = .err e p) : e ≠ 0 := by
  unfold decode at h
  split at h
  · cases h; omega
  · split at h
    · cases h; omega
    · split at h
      · cases h; omega
      · split at h
        · cases h
        · cases h; omega

theorem opened_sound {w w' : World} {s : ByteArray} {e : Ending} {r b : Nat} {chs : List (List Int)} (hA : decode s.data.toList = .sound r b chs) (h : OpenPost w s e w') :
    ∃ gB, e = .returned (.tuple #[.pointer (some ⟨gB, 0, none⟩), .int .i64 0, .int .i64 0]) ∧ w.grownBy w' none ∧ RdrNew w' w.heap.size gB r b chs := by
  obtain ⟨hg, h⟩ := h
  rw [hA] at h
  obtain ⟨gB, h1, h2⟩ := h
  exact ⟨gB, h1, hg, h2⟩

theorem opened_err {w w' : World} {s : ByteArray} {e : Ending} {er p : Nat} (hA : decode s.data.toList = .err er p) (h : OpenPost w s e w') : e = .returned (.tuple #[.pointer none, .int .i64 er, .int .i64 p]) ∧ w.grownBy w' none := by
  obtain ⟨hg, h⟩ := h
  rw [hA] at h
  exact ⟨h, hg⟩

/-- one of two -/
def Pk (p0 p1 : Value) (k : Nat) : Value := if k = 0 then p0 else p1

theorem box_pk {w : World} {g : Nat} {p0 p1 : Value} {t : TypeId} (h : Box w g #[p0, p1] t) (k : Nat) (hk : k < 2) : w.cell? ⟨g, k, none⟩ = some (Pk p0 p1 k) := by
  rcases (show k = 0 ∨ k = 1 by omega) with rfl | rfl
  · exact h.cell 0
  · exact h.cell 1

section
variable {w w' : World} {base gA t : Nat} {p0 p1 : Value} {S0 S1 : Nat → Prop}

theorem Worlds.look (h : Worlds w base gA t p0 p1 S0 S1) (k : Nat) : ∃ S, Slot w t (Pk p0 p1 k) S := by
  unfold Pk
  split
  · exact ⟨_, h.s0⟩
  · exact ⟨_, h.s1⟩

theorem Worlds.stepAt (h : Worlds w base gA t p0 p1 S0 S1) (m gW : Nat) (hp : Pk p0 p1 m = .pointer (some ⟨gW, 0, none⟩)) (hA : gA < w.heap.size) (hbase : base ≤ w.heap.size) :
    ∃ S, Side w gW t S ∧ ∀ w', StepPost w gW t S (.returned (.bool true)) w' → Kp w w' (fun q => base ≤ q ∧ q ≠ gA) ∧ ∃ S0' S1', Worlds w' base gA (t + 1) p0 p1 S0' S1' := by
  unfold Pk at hp
  split at hp
  · rcases h.s0 with ⟨e, _⟩ | ⟨g, e, hs⟩
    · rw [hp] at e; cases e
    · rw [hp] at e
      injection e with e
      injection e with e
      injection e with e
      subst e
      refine ⟨S0, hs, fun w' hpo => ?_⟩
      obtain ⟨S', h1, h2⟩ := h.step hpo hp hA hbase
      exact ⟨h2.mono (fun q hq => .inl (h.a0 q hq)), S', S1, h1⟩
  · rcases h.s1 with ⟨e, _⟩ | ⟨g, e, hs⟩
    · rw [hp] at e; cases e
    · rw [hp] at e
      injection e with e
      injection e with e
      injection e with e
      subst e
      refine ⟨S1, hs, fun w' hpo => ?_⟩
      obtain ⟨S', h1, h2⟩ := h.swap.step hpo hp hA hbase
      exact ⟨h2.mono (fun q hq => .inl (h.a1 q hq)), S0, S', h1.swap⟩
end

/-- the streams that have been opened so far -/
def Opened (w wr : World) (one two : ByteArray) (gT gA i : Nat) : Prop :=
  w.grownBy wr none ∧ w.heap.size ≤ gT ∧ gT < gA ∧ Box wr gT #[.string one, .string two] 9 ∧ ∃ p0 p1 S0 S1, Box wr gA #[p0, p1] 52 ∧ Worlds wr (gA + 1) gA 0 p0 p1 S0 S1 ∧ (i = 0 → p0 = .pointer none) ∧ (i ≤ 1 → p1 = .pointer none)

section
variable {w wr w1 w2 w3 : World} {one two : ByteArray} {gT gA i : Nat}

theorem Opened.str (h : Opened w wr one two gT gA i) (k : Nat) (hk : k < 2) : wr.cell? ⟨gT, k, none⟩ = some (.string (if k = 0 then one else two)) := by
  obtain ⟨_, _, _, hb, _⟩ := h
  rcases (show k = 0 ∨ k = 1 by omega) with rfl | rfl
  · exact hb.cell 0
  · exact hb.cell 1

/-- none -/
theorem Opened.skip (h : Opened w wr one two gT gA i) (hg : wr.grownBy w1 none) : Opened w w1 one two gT gA (i + 1) := by
  obtain ⟨h1, h2, h3, h4, p0, p1, S0, S1, h5, h6, h7, h8⟩ := h
  exact ⟨grown_trans h1 hg, h2, h3, h4.kept hg (by simp), p0, p1, S0, S1, h5.kept hg (by simp), h6.new hg, fun e => by omega, fun e => h8 (by omega)⟩

/-- one more -/
theorem Opened.more {gW : Nat} {S : Nat → Prop} (h : Opened w wr one two gT gA i) (hi : i < 2) (hg : wr.grownBy w1 none) (hs : Side w1 gW 0 S) (hb : ∀ q, S q → wr.heap.size ≤ q) :
    Opened w (w1.setCell ⟨gA, i, none⟩ (.pointer (some ⟨gW, 0, none⟩))) one two gT gA (i + 1) := by
  obtain ⟨h1, h2, h3, h4, p0, p1, S0, S1, h5, h6, h7, h8⟩ := h
  have hk := Kp.of (grown_set w1 gA i (.pointer (some ⟨gW, 0, none⟩)))
  have hgA := h5.lt
  have hz := hg.size
  have hb1 := h5.kept hg (by simp)
  have h6' := h6.new hg
  have hne : ∀ (q : Nat), q ≠ gA → ¬ some q = some gA := fun q hq e => by injection e with e; exact hq e
  have hs' : Side (w1.setCell ⟨gA, i, none⟩ (.pointer (some ⟨gW, 0, none⟩))) gW 0 S := hs.kp hk (fun q hq => hne q (by have := hb q hq; omega))
  have k0 := h6'.s0.kp hk (fun q hq => hne q (h6.a0 q hq).2)
  have k1 := h6'.s1.kp hk (fun q hq => hne q (h6.a1 q hq).2)
  have hgw : w.grownBy (w1.setCell ⟨gA, i, none⟩ (.pointer (some ⟨gW, 0, none⟩))) none := by
    have h9 := grown_trans h1 hg
    exact ⟨hk.os.trans h9.os, hk.tape.trans h9.tape, hk.output.trans h9.output, Nat.le_trans h9.size hk.size, fun b hb' hn => by rw [hk.block b (Nat.lt_of_lt_of_le hb' h9.size) (hne b (by omega)), h9.block b hb' hn]⟩
  have hbT := (h4.kept hg (by simp)).kp hk (hne gT (by omega))
  have hA : ∀ q, S q → gA + 1 ≤ q ∧ q ≠ gA := fun q hq => by have := hb q hq; omega
  have hl0 := h6.s0.lt
  have hl1 := h6.s1.lt
  rcases (show i = 0 ∨ i = 1 by omega) with rfl | rfl
  · refine ⟨hgw, h2, h3, hbT, _, p1, S, S1, hb1.set 0 _, ⟨.inr ⟨gW, rfl, hs'⟩, k1, fun q hq h0 => ?_, hA, h6.a1⟩, fun e => by omega, fun e => h8 (by omega)⟩
    have := hb q hq; have := hl1 q h0; omega
  · refine ⟨hgw, h2, h3, hbT, p0, _, S0, S, hb1.set 1 _, ⟨k0, .inr ⟨gW, rfl, hs'⟩, fun q hq h0 => ?_, h6.a0, hA⟩, fun e => by omega, fun e => by omega⟩
    have := hb q h0; have := hl0 q hq; omega
end

/-- the script's loop -/
def Running (w wr : World) (gA t : Nat) (p0 p1 : Value) : Prop :=
  w.grownBy wr none ∧ w.heap.size ≤ gA ∧ Box wr gA #[p0, p1] 52 ∧ ∃ S0 S1, Worlds wr (gA + 1) gA t p0 p1 S0 S1

theorem Opened.run {w wr : World} {one two : ByteArray} {gT gA i : Nat} (h : Opened w wr one two gT gA i) : ∃ p0 p1, Running w wr gA 0 p0 p1 := by
  obtain ⟨h1, h2, h3, _, p0, p1, S0, S1, h5, h6, _, _⟩ := h
  exact ⟨p0, p1, h1, by omega, h5, S0, S1, h6⟩

theorem Running.later {w wr : World} {gA t : Nat} {p0 p1 : Value} (h : Running w wr gA t p0 p1) : Running w wr gA (t + 1) p0 p1 := by
  obtain ⟨h1, h2, h3, S0, S1, h4⟩ := h
  exact ⟨h1, h2, h3, S0, S1, h4.later⟩

/-- what one slot of the two holds -/
theorem Running.slot {w wr : World} {gA t : Nat} {p0 p1 : Value} (h : Running w wr gA t p0 p1) (k : Nat) (ht : t ≤ 100000000) :
    Pk p0 p1 k = .pointer none ∨ ∃ gW, Pk p0 p1 k = .pointer (some ⟨gW, 0, none⟩) ∧ Calls Try.prog 20 #[.pointer (some ⟨gW, 5, none⟩)] wr fun e w' => e = .returned (.bool true) ∧ w' = wr := by
  obtain ⟨h1, h2, h3, S0, S1, h4⟩ := h
  obtain ⟨S, hs⟩ := h4.look k
  rcases hs with ⟨e, _⟩ | ⟨gW, e, hsd⟩
  · exact .inl e
  · exact .inr ⟨gW, e, hsd.looks ht⟩

theorem Running.step {w wr : World} {gA t : Nat} {p0 p1 : Value} (h : Running w wr gA t p0 p1) (m gW : Nat) (hp : Pk p0 p1 m = .pointer (some ⟨gW, 0, none⟩)) (kind n : Int) (hn : -9223372036854775808 ≤ n ∧ n ≤ 9223372036854775807) (ht : t ≤ 100000000) :
    Calls Try.prog 29 #[.pointer (some ⟨gW, 0, none⟩), .agg #[.int .i64 kind, .int .i64 n]] wr fun e w' => e = .returned (.bool true) ∧ Running w w' gA (t + 1) p0 p1 := by
  obtain ⟨h1, h2, h3, S0, S1, h4⟩ := h
  have hA := h3.lt
  obtain ⟨S, hs, hnext⟩ := h4.stepAt m gW hp hA (by omega)
  refine (hs.step kind n hn ht).mono ?_
  intro e w' hpo
  have he := hpo.1
  subst he
  obtain ⟨hk, S0', S1', h5⟩ := hnext w' hpo
  exact ⟨rfl, ⟨hk.os.trans h1.os, hk.tape.trans h1.tape, hk.output.trans h1.output, Nat.le_trans h1.size hk.size, fun b hb hn => by rw [hk.block b (Nat.lt_of_lt_of_le hb h1.size) (fun e => by omega), h1.block b hb hn]⟩, h2, h3.kp hk (fun e => e.2 rfl), S0', S1', h5⟩

/-- what is opened -/
theorem open_parts {w w1 : World} {s : ByteArray} {e : Ending} (ho : OpenPost w s e w1) :
    (∃ er p : Nat, er ≠ 0 ∧ e = .returned (.tuple #[.pointer none, .int .i64 er, .int .i64 p]) ∧ w.grownBy w1 none ∧
      ∀ w2 e2, DecPost w1 s e2 w2 → e2 = .returned (.tuple #[.agg #[.int .i64 0, .int .i64 0, .slice none 0 0], .int .i64 er, .int .i64 p]) ∧ w1.grownBy w2 none) ∨
    ∃ gB : Nat, e = .returned (.tuple #[.pointer (some ⟨gB, 0, none⟩), .int .i64 0, .int .i64 0]) ∧ w.grownBy w1 none ∧
      ∀ w2 e2, DecPost w1 s e2 w2 → ∃ (r b n c : Nat) (a : Option Addr), e2 = .returned (.tuple #[.agg #[.int .i64 r, .int .i64 b, .slice a n c], .int .i64 0, .int .i64 0]) ∧ w1.grownBy w2 none ∧
        ∀ w3 gW, w2.grownBy w3 none → w2.heap.size ≤ gW → Box w3 gW #[.pointer (some ⟨gB, 0, none⟩), .int .i64 r, .int .i64 b, .slice a n c, .int .i64 0, .slice none 0 0, .slice none 0 0] 54 → ∃ S, Side w3 gW 0 S ∧ ∀ q, S q → w.heap.size ≤ q := by
  cases hA : decode s.data.toList using Answer.each with
  | err er p =>
    obtain ⟨h1, h2⟩ := opened_err hA ho
    refine .inl ⟨er, p, decode_err_pos hA, h1, h2, fun w2 e2 hd => ?_⟩
    obtain ⟨h3, h4⟩ := hd
    rw [hA] at h4
    exact ⟨h4, h3⟩
  | sound r b chs =>
    obtain ⟨gB, h1, h2, hn⟩ := opened_sound hA ho
    refine .inr ⟨gB, h1, h2, fun w2 e2 hd => ?_⟩
    obtain ⟨h3, h4⟩ := hd
    rw [hA] at h4
    obtain ⟨lv, vs, h5, h6⟩ := h4
    obtain ⟨a, c, hlv⟩ := row_sliceK h6.row
    subst hlv
    exact ⟨r, b, _, c, a, h5, h3, fun w3 gW hg3 hgW hb => side_new hn h3 h6 hg3 hgW hb h2.size⟩
end Go.Proofs.Ytncmgnmcggkhnaa

namespace Go.Proofs.Ytncmgnmcggkhnaa
open Go.RowKit

/-- a script that came in -/
def ScriptIn (w : World) (sa : Option Addr) (sn : Nat) (K V : Nat → Int) : Prop :=
  ∀ i, i < sn → ∃ b off, sa = some ⟨b, off, none⟩ ∧ w.cell? ⟨b, off + i * 2, none⟩ = some (.int .i64 (K i)) ∧ w.cell? ⟨b, off + i * 2 + 1, none⟩ = some (.int .i64 (V i)) ∧ -9223372036854775808 ≤ V i ∧ V i ≤ 9223372036854775807

set_option maxHeartbeats 4000000 in
set_option maxRecDepth 20000 in
theorem reads_walk (w : World) (one two : ByteArray) (h1 : one.size ≤ maxLen) (h2 : two.size ≤ maxLen) (sa : Option Addr) (sn sc : Nat) (hsn : sn ≤ 100000000) (K V : Nat → Int) (hs : ScriptIn w sa sn K V) :
    Calls Try.prog 6 #[.string one, .string two, .slice sa sn sc] w fun e w' => e = .returned (.bool true) ∧ w.grownBy w' none := by
  have HS : Hid (ScriptIn w sa sn K V) := hs
  have HZ : Hid (∀ k, (if k = 0 then one else two).size ≤ maxLen) := fun k => by split; exact h1; exact h2
  clear h1 h2 hs
  go_enter Try.func6, Try.ntmps6
  go_wp2_with fail
  refine (qopen w _ (by unfold maxLen; decide)).mono ?_
  intro e w1 hop
  obtain ⟨gY, rfl, hg1, hnew⟩ := opened_sound (r := 1) (b := 8) (chs := [[]]) empty_dec hop
  obtain ⟨h, l, pv, gM, _, _, hf, _, _, hr⟩ := hnew.rdr
  have HTO := rdr_total w1 gY gM h l pv 0 0 _ _ hr
  have ht0 : h.total = 0 := by
    have := hf.ch1
    have h1 := hf.total 0 (by omega)
    rw [← h1]
    rfl
  rw [ht0] at HTO
  clear hop hnew hf hr ht0
  go_wp2_with (go_at_call 28; refine HTO.mono ?_; rintro e w2 ⟨rfl, rfl⟩)
  clear HTO
  have h2n := two_new w2 _ rfl #[.string one, .string two] #[.pointer none, .pointer none] 9 52
  obtain ⟨gT, hgT⟩ : ∃ gT, w2.heap.size = gT := ⟨_, rfl⟩
  obtain ⟨w3, hw3⟩ : ∃ w3, (w2.alloc (.cells #[.string one, .string two] 9)).alloc (.cells #[.pointer none, .pointer none] 52) = w3 := ⟨_, rfl⟩
  rw [hgT, hw3] at h2n
  rw [hgT, hw3]
  obtain ⟨hg3, hbT, hbA⟩ := h2n
  obtain ⟨gA, hgA⟩ : ∃ gA, gT + 1 = gA := ⟨_, rfl⟩
  rw [hgA] at hbA
  rw [hgA]
  have hop0 : Opened w w3 one two gT gA 0 := by
    refine ⟨grown_trans hg1 hg3, by rw [← hgT]; exact hg1.size, by omega, hbT, .pointer none, .pointer none, fun _ => False, fun _ => False, hbA, ⟨.inl ⟨rfl, fun _ e => e⟩, .inl ⟨rfl, fun _ e => e⟩, fun _ e => e.elim, fun _ e => e.elim, fun _ e => e.elim⟩, fun _ => rfl, fun _ => rfl⟩
  clear hgT hw3 hg3 hbT hbA hgA hg1
  go_loopg [12] 2 (fun gk t12 wr => ∃ i : Nat, gk + i = 2 ∧ t12 = .int .i64 i ∧ Opened w wr one two gT gA i)
  case atStart => exact ⟨0, rfl, rfl, hop0⟩
  case round =>
    clear hop0
    obtain ⟨i, hgk, rfl, hO⟩ := hrel
    by_cases hi : i < 2
    · have tlt : decide ((i : Int) < 2) = true := decide_eq_true (by omega)
      have hiz : (i : Int) < 2 := by omega
      have hstr := hO.str i hi
      have hz := HZ.out i
      obtain ⟨s, hs⟩ : ∃ s, (if i = 0 then one else two) = s := ⟨_, rfl⟩
      rw [hs] at hstr hz
      have HO : Hid (Opened w wr one two gT gA i) := hO
      have HRD := fun w => rdecode w s hz
      clear hs hO
      go_wp2_with fail
      refine (qopen wr s hz).mono ?_
      intro e w4 ho
      rcases open_parts ho with ⟨er, p, her, rfl, hg4, hdec⟩ | ⟨gB, rfl, hg4, hdec⟩
      · have hstr4 := hg4.cell hstr (by simp)
        clear ho hstr
        go_wp2_with fail
        refine (HRD w4).mono ?_
        intro e2 w5 hd
        obtain ⟨rfl, hg5⟩ := hdec w5 e2 hd
        have n1 : ((er : Int) != (er : Int)) = false := by simp
        have n2 : ((p : Int) != (p : Int)) = false := by simp
        have n3 : ((er : Int) != 0) = true := by simp; omega
        have HG5 : Hid (wr.grownBy w5 none) := grown_trans hg4 hg5
        clear hd hdec hstr4 HRD her hg4 hg5
        go_wp2
        go_roundg (gk - 1)
        case measure => omega
        case rel => exact ⟨i + 1, by omega, by go_num, HO.out.skip (grown_alloc HG5.out _)⟩
      · have hstr4 := hg4.cell hstr (by simp)
        clear ho hstr
        go_wp2_with fail
        refine (HRD w4).mono ?_
        intro e2 w5 hd
        obtain ⟨r, b, n, c, a, rfl, hg5, hnew⟩ := hdec w5 e2 hd
        go_upto_region 11 with fail
        obtain ⟨w6, hw6⟩ : ∃ w6, w5.alloc (.cells #[.int .i64 r, .int .i64 b, .slice a n c] 26) = w6 := ⟨_, rfl⟩
        obtain ⟨gS, hgS⟩ : ∃ gS, w5.heap.size = gS := ⟨_, rfl⟩
        have hg6 : w5.grownBy w6 none := by rw [← hw6]; exact grown_alloc (grown_refl _ _) _
        have hbS : Box w6 gS #[.int .i64 r, .int .i64 b, .slice a n c] 26 := by rw [← hgS, ← hw6]; exact Box.new _ _ _
        have hg46 := grown_trans hg5 hg6
        have hgr6 := grown_trans hg4 hg46
        obtain ⟨p0, p1, hbA⟩ : ∃ p0 p1, Box wr gA #[p0, p1] 52 := by
          obtain ⟨_, _, _, _, p0, p1, _, _, hbA, _⟩ := HO.out
          exact ⟨p0, p1, hbA⟩
        have hbA6 := hbA.kept hgr6 (by simp)
        have hbA7 := hbA6.kept (grown_alloc (grown_refl w6 none) (.cells #[.pointer (some ⟨gB, 0, none⟩), .int .i64 r, .int .i64 b, .slice a n c, .int .i64 0, .slice none 0 0, .slice none 0 0] 54)) (by simp)
        have cA : (w6.alloc (.cells #[.pointer (some ⟨gB, 0, none⟩), .int .i64 r, .int .i64 b, .slice a n c, .int .i64 0, .slice none 0 0, .slice none 0 0] 54)).cell? ⟨gA, i, none⟩ = some (Pk p0 p1 i) := box_pk hbA7 i hi
        have fA : (w6.alloc (.cells #[.pointer (some ⟨gB, 0, none⟩), .int .i64 r, .int .i64 b, .slice a n c, .int .i64 0, .slice none 0 0, .slice none 0 0] 54)).frozen? ⟨gA, i, none⟩ = false := hbA7.fz i
        have x0 : w6.cell? ⟨gS, 0, none⟩ = some (.int .i64 r) := hbS.cell 0
        have x1 : w6.cell? ⟨gS, 1, none⟩ = some (.int .i64 b) := hbS.cell 1
        have x2 : w6.cell? ⟨gS, 2, none⟩ = some (.slice a n c) := hbS.cell 2
        have HFIN : Hid (∀ w7 gW, w6.grownBy w7 none → w5.heap.size ≤ gW → Box w7 gW #[.pointer (some ⟨gB, 0, none⟩), .int .i64 r, .int .i64 b, .slice a n c, .int .i64 0, .slice none 0 0, .slice none 0 0] 54 → Opened w (w7.setCell ⟨gA, i, none⟩ (.pointer (some ⟨gW, 0, none⟩))) one two gT gA (i + 1)) := by
          intro w7 gW hg7 hgW hb
          obtain ⟨S, hS1, hS2⟩ := hnew w7 gW (grown_trans hg6 hg7) hgW hb
          exact HO.out.more hi (grown_trans hgr6 hg7) hS1 hS2
        have HSZ : Hid (w5.heap.size ≤ w6.heap.size) := hg6.size
        rw [hw6, hgS]
        clear hnew hd hdec hstr4 HRD hg4 hg5 hg6 hbS hg46 hgr6 hbA hbA6 hbA7 hw6 hgS
        go_wp2
        go_roundg (gk - 1)
        case measure => omega
        case rel => exact ⟨i + 1, by omega, by go_num, HFIN.out _ _ (grown_alloc (grown_refl w6 none) _) HSZ.out (Box.new _ _ _)⟩
    · have tlt : decide ((i : Int) < 2) = false := decide_eq_false (by omega)
      obtain ⟨p0, p1, hrun⟩ := hO.run
      have HGO : Hid (w.grownBy wr none) := hO.1
      clear hO hgk hi HZ
      go_wp2_with fail
      clear tlt HGO
      go_loopg [19] sn (fun gk t19 wr => ∃ j : Nat, gk + j = sn ∧ t19 = .int .i64 j ∧ Running w wr gA j p0 p1)
      case atStart => exact ⟨0, by omega, rfl, hrun⟩
      case round =>
        clear hrun
        obtain ⟨j, hgk, rfl, hR⟩ := hrel
        by_cases hj : j < sn
        · have tlt : decide ((j : Int) < (sn : Int)) = true := decide_eq_true (by omega)
          have hjz : (j : Int) < (sn : Int) := by omega
          obtain ⟨sb, so, hsa, ck, cv, hv1, hv2⟩ := HS.out j hj
          subst hsa
          have ck1 := hR.1.cell ck (by simp)
          have cv1 := hR.1.cell cv (by simp)
          obtain ⟨m, hm⟩ : ∃ m, j % 2 = m := ⟨_, rfl⟩
          have hmz : (j : Int) % 2 = (m : Int) := by omega
          have hm2 : m < 2 := by omega
          have hm2z : (m : Int) < 2 := by omega
          have cA := box_pk hR.2.2.1 m hm2
          rcases hR.slot m (by omega) with hpm | ⟨gW, hpm, _⟩
          · rw [hpm] at cA
            have HR : Hid _ := hR.later
            clear hR ck cv ck1 cv1 hm hpm
            go_wp2
            go_roundg (gk - 1)
            case measure => omega
            case rel => exact ⟨j + 1, by omega, by go_num, HR.out⟩
          · have HST := hR.step m gW hpm (K j) (V j) ⟨hv1, hv2⟩ (by omega)
            rw [hpm] at cA
            obtain ⟨kk, hkk⟩ : ∃ kk, K j = kk := ⟨_, rfl⟩
            obtain ⟨vv, hvv⟩ : ∃ vv, V j = vv := ⟨_, rfl⟩
            rw [hkk, hvv] at HST
            rw [hkk] at ck1
            rw [hvv] at cv1
            clear hR ck cv hm hpm hkk hvv
            go_wp2_with fail
            refine HST.mono ?_
            rintro e w5 ⟨rfl, hR5⟩
            have HR5 : Hid (Running w w5 gA (j + 1) p0 p1) := hR5
            have HOM : Hid (gk + j = sn ∧ j < sn) := ⟨hgk, hj⟩
            clear HST hR5 ck1 cv1 cA hmz hm2z hm2 hv1 hv2 tlt hjz
            obtain ⟨ko, rfl⟩ : ∃ ko : Nat, ko = gk := ⟨_, rfl⟩
            go_wp2_with fail
            go_loopg [22] 2 (fun gq t22 wq => ∃ k : Nat, gq + k = 2 ∧ t22 = .int .i64 k ∧ wq = w5)
            case atStart => exact ⟨0, rfl, rfl, rfl⟩
            case round =>
              obtain ⟨k, hgq, rfl, rfl⟩ := hrel
              by_cases hk : k < 2
              · have tk : decide ((k : Int) < 2) = true := decide_eq_true (by omega)
                have hkz : (k : Int) < 2 := by omega
                have cA := box_pk HR5.out.2.2.1 k hk
                rcases HR5.out.slot k (by omega) with hpk | ⟨gX, hpk, HLK⟩
                · rw [hpk] at cA
                  clear hpk
                  go_wp2
                  go_roundg (gk - 1)
                  case measure => omega
                  case rel => exact ⟨k + 1, by omega, by go_num, rfl⟩
                · rw [hpk] at cA
                  clear hpk
                  go_wp2_with (go_at_call 20; refine HLK.mono ?_; rintro e w6 ⟨rfl, rfl⟩)
                  go_roundg (gk - 1)
                  case measure => omega
                  case rel => exact ⟨k + 1, by omega, by go_num, rfl⟩
              · have tk : decide ((k : Int) < 2) = false := decide_eq_false (by omega)
                go_wp2
                go_roundg (ko - 1)
                case measure => have := HOM.out; omega
                case rel => exact ⟨j + 1, by have := HOM.out; omega, by go_num, HR5.out⟩
        · have tlt : decide ((j : Int) < (sn : Int)) = false := decide_eq_false (by omega)
          have HGF : Hid (w.grownBy wr none) := hR.1
          clear hR
          go_wp2
          go_ret
          exact ⟨rfl, HGF.out⟩
end Go.Proofs.Ytncmgnmcggkhnaa
