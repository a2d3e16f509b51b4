import Derived.Test.YtncmgnmcggkhnaaReadsProofJ14
import Derived.Deep.DeepCutAuto
import Derived.Deep.CutBlock
import Derived.Deep.LoopGhost
namespace Go.Proofs.Ytncmgnmcggkhnaa
open Go.RowKit

def BlockPost (w : World) (d : ByteArray) (e : Ending) (w' : World) : Prop :=
  w.grownBy w' none ∧ ∃ (last : Bool) (kind : Nat) (body : ByteArray) (ok : Bool), e = .returned (.tuple #[.agg #[.bool last, .int .i64 kind, .string body], .bool ok]) ∧
    ((ok = true ∧ ∃ ln size, pBlock (bitsOf d.data.toList) = some ((ln, kind, size), bitsOf (d.data.toList.drop 4)) ∧ last = (ln == 1) ∧ ln < 2 ∧ kind < 128 ∧ body = d.extract 4 (4 + size) ∧ 4 + size ≤ d.size) ∨
     (ok = false ∧ last = false ∧ kind = 0 ∧ body = ⟨#[]⟩ ∧ ∀ x r, pBlock (bitsOf d.data.toList) = some (x, r) → r.length < 8 * x.2.2))

theorem block_rest {l r : List Bool} {x : Nat × Nat × Nat} (e : pBlock l = some (x, r)) : r = l.drop 32 := by
  unfold pBlock at e
  obtain ⟨⟨a1, r1⟩, e1, e⟩ := Option.bind_eq_some_iff.mp e
  obtain ⟨⟨a2, r2⟩, e2, e⟩ := Option.bind_eq_some_iff.mp e
  obtain ⟨⟨a3, r3⟩, e3, e⟩ := Option.bind_eq_some_iff.mp e
  injection e with e
  injection e with _ e
  subst e
  have h1 := (num_left (Ends.of e1)).2
  have h2 := (num_left (Ends.of e2)).2
  have h3 := (num_left (Ends.of e3)).2
  rw [h3, h2, h1, List.drop_drop, List.drop_drop]

theorem dlen (d : ByteArray) : d.data.toList.length = d.size := by simp

set_option maxHeartbeats 1000000 in
set_option maxRecDepth 20000 in
theorem qreadblock (w : World) (d : ByteArray) (hd : d.size ≤ 6000) :
    Calls Try.prog 81 #[.string d] w (BlockPost w d) := by
  go_enter Try.func81, Try.ntmps81
  go_wp2_with fail
  have hbr0 := Box.new w #[Value.bool false, .int .i64 0, .string ⟨#[]⟩] 137
  have hg0 : w.grownBy (w.alloc (.cells #[Value.bool false, .int .i64 0, .string ⟨#[]⟩] 137)) none := grown_alloc (grown_refl _ _) _
  refine (qnew _ d).mono ?_
  rintro e w1 ⟨rfl, hsp1, hg1, hsz1⟩
  have hgg1 := grown_trans hg0 hg1
  have hbr1 := hbr0.kept hg1 (by simp)
  obtain ⟨b, hb⟩ : ∃ b, (w.alloc (.cells #[Value.bool false, .int .i64 0, .string ⟨#[]⟩] 137)).heap.size = b := ⟨_, rfl⟩
  have hbw : b = w.heap.size + 1 := by rw [← hb]; simp
  rw [hb] at hsp1
  rw [hb]
  have hne : some w.heap.size ≠ some b := fun e => by injection e with e; omega
  have hbw' : w.heap.size < b := by omega
  clear hbr0 hg0 hg1 hb hsz1 hbw
  go_wp2_with fail
  refine (qnum _ _ _ 1 _ hd (by omega) hsp1).mono ?_
  rintro e w2 ⟨ln, σ2, rfl, hln0, -, hg2, hsp2, hends2⟩
  have hln : ln < 2 := hln0
  have hgg2 := grown_new hgg1 hg2 (fun g e => by injection e with e; omega)
  have hbr2 := hbr1.kept hg2 hne
  clear hbr1 hgg1 hg2 hsp1 hln0
  go_wp2_with fail
  refine (qnum _ _ _ 7 _ hd (by omega) hsp2).mono ?_
  rintro e w3 ⟨kind, σ3, rfl, hkind0, -, hg3, hsp3, hends3⟩
  have hkind : kind < 128 := hkind0
  have hgg3 := grown_new hgg2 hg3 (fun g e => by injection e with e; omega)
  have hbr3 := hbr2.kept hg3 hne
  clear hbr2 hgg2 hg3 hsp2 hkind0
  go_wp2_with fail
  refine (qnum _ _ _ 24 _ hd (by omega) hsp3).mono ?_
  rintro e w4 ⟨size, σ4, rfl, hsize0, -, hg4, hsp4, hends4⟩
  have hsize : size < 16777216 := hsize0
  have hgg4 := grown_new hgg3 hg4 (fun g e => by injection e with e; omega)
  have hbr4 := hbr3.kept hg4 hne
  clear hbr3 hgg3 hg4 hsp3 hsize0
  have hblk := block_ends hends2 hends3 hends4
  clear hends2 hends3 hends4
  go_wp2_with fail
  refine (qover _ _ _ _ hsp4).mono ?_
  rintro e w5 ⟨rfl, rfl⟩
  have z0 : w5.cell? ⟨w.heap.size, 0, none⟩ = some (.bool false) := hbr4.cell 0
  have z1 : w5.cell? ⟨w.heap.size, 1, none⟩ = some (.int .i64 0) := hbr4.cell 1
  have z2 : w5.cell? ⟨w.heap.size, 2, none⟩ = some (.string ⟨#[]⟩) := hbr4.cell 2
  have y0 := hbr4.fz 0
  have y1 := hbr4.fz 1
  have y2 := hbr4.fz 2
  have hbad : (∀ x r, pBlock (bitsOf d.data.toList) = some (x, r) → r.length < 8 * x.2.2) → ∀ wf, w5.grownBy wf (some w.heap.size) → BlockPost w d (.returned (.tuple #[.agg #[.bool false, .int .i64 0, .string ⟨#[]⟩], .bool false])) wf := by
    intro hn wf hgf
    exact ⟨grown_new hgg4 hgf (fun g e => by injection e with e; omega), false, 0, ⟨#[]⟩, false, rfl, .inr ⟨rfl, rfl, rfl, rfl, hn⟩⟩
  have h3 := three_cells w5 w.heap.size _ _ _ _ (.bool false) (.int .i64 0) (.string ⟨#[]⟩) hbr4
  rcases σ4 with _ | r
  · have hno : ∀ x r, pBlock (bitsOf d.data.toList) = some (x, r) → r.length < 8 * x.2.2 := by
      intro x r e
      rcases hblk.cases with ⟨r', _, e'⟩ | ⟨e', _⟩
      · cases e'
      · rw [e'] at e; cases e
    have hf := hbad hno
    clear hbad hno hblk
    go_wp2
    generalize (World.setCell _ _ (Value.string ⟨#[]⟩)) = wf at h3 ⊢
    have x0 := h3.1.cell 0
    have x1 := h3.1.cell 1
    have x2 := h3.1.cell 2
    exact bodyPost_ret (v := .tuple #[.agg #[.bool false, .int .i64 0, .string ⟨#[]⟩], .bool false]) (by simp [results, Try.results81, go_sem, x0, x1, x2]) rfl (hf wf h3.2)
  · have hpb : pBlock (bitsOf d.data.toList) = some ((ln, kind, size), r) := by
      rcases hblk.cases with ⟨r', e, e'⟩ | ⟨_, e'⟩
      · injection e' with e'; rw [e, e']
      · cases e'
    have hleft := block_left hpb
    have hrest := block_rest hpb
    rw [show (32 : Nat) = 8 * 4 by rfl, bitsOf_drop] at hrest
    rw [bitsOf_length, dlen] at hleft
    have hd4 : 4 ≤ d.size := by omega
    by_cases hbig : d.size < 4 + size
    · have hno : ∀ x r, pBlock (bitsOf d.data.toList) = some (x, r) → r.length < 8 * x.2.2 := by
        intro x r' e
        rw [hpb] at e
        injection e with e
        injection e with e1 e2
        subst e1
        subst e2
        show _ < 8 * size
        omega
      have hf := hbad hno
      have tt : decide (((d.size : Int) - 4) < (size : Int)) = true := decide_eq_true (by omega)
      clear hbad hno hblk hpb hrest
      go_wp2
      generalize (World.setCell _ _ (Value.string ⟨#[]⟩)) = wf at h3 ⊢
      have x0 := h3.1.cell 0
      have x1 := h3.1.cell 1
      have x2 := h3.1.cell 2
      exact bodyPost_ret (v := .tuple #[.agg #[.bool false, .int .i64 0, .string ⟨#[]⟩], .bool false]) (by simp [results, Try.results81, go_sem, x0, x1, x2]) rfl (hf wf h3.2)
    · have tt : decide (((d.size : Int) - 4) < (size : Int)) = false := decide_eq_false (by omega)
      have h3' := three_cells w5 w.heap.size _ _ _ _ (.bool ((ln : Int) == 1)) (.int .i64 kind) (.string (d.extract 4 (4 + size))) hbr4
      have hf : ∀ wf, w5.grownBy wf (some w.heap.size) → BlockPost w d (.returned (.tuple #[.agg #[.bool ((ln : Int) == 1), .int .i64 kind, .string (d.extract 4 (4 + size))], .bool true])) wf := by
        intro wf hgf
        refine ⟨grown_new hgg4 hgf (fun g e => by injection e with e; omega), _, kind, _, true, rfl, .inl ⟨rfl, ln, size, by rw [hpb, hrest], ?_, hln, hkind, rfl, by omega⟩⟩
        rw [Bool.eq_iff_iff]; simp; omega
      clear hbad hblk hpb hrest h3
      go_wp2
      generalize (World.setCell _ _ (Value.string (d.extract 4 (4 + size)))) = wf at h3' ⊢
      have x0 := h3'.1.cell 0
      have x1 := h3'.1.cell 1
      have x2 := h3'.1.cell 2
      exact bodyPost_ret (v := .tuple #[.agg #[.bool ((ln : Int) == 1), .int .i64 kind, .string (d.extract 4 (4 + size))], .bool true]) (by simp [results, Try.results81, go_sem, x0, x1, x2]) rfl (hf wf h3'.2)
end Go.Proofs.Ytncmgnmcggkhnaa

namespace Go.Proofs.Ytncmgnmcggkhnaa
open Go.RowKit

theorem num_twice {m n a b : Nat} {σ σ1 σ2 : Option (List Bool)} (h1 : Ends (pNum m) σ a σ1) (h2 : Ends (pNum n) σ1 b σ2) : ∃ v, Ends (pNum (m + n)) σ v σ2 := by
  cases σ with
  | none => exact ⟨0, by have : σ1 = none := h1; subst this; exact h2⟩
  | some l =>
    rcases h1.cases with ⟨r1, e1, rfl⟩ | ⟨e1, rfl⟩
    · have l1 := num_left h1
      rcases h2.cases with ⟨r2, e2, rfl⟩ | ⟨e2, rfl⟩
      · have l2 := num_left h2
        refine ⟨val (l.take (m + n)), Ends.of ?_⟩
        unfold pNum
        rw [if_pos (by omega), l2.2, l1.2, List.drop_drop]
      · refine ⟨0, Ends.fail (fun l0 e => ?_)⟩
        cases e
        unfold pNum at e2 ⊢
        split at e2
        · cases e2
        · rw [if_neg (by omega)]
    · have h0 : σ2 = none := h2
      subst h0
      refine ⟨0, Ends.fail (fun l0 e => ?_)⟩
      cases e
      unfold pNum at e1 ⊢
      split at e1
      · cases e1
      · rw [if_neg (by omega)]

theorem num_alive {n v : Nat} {l : List Bool} {σ' : Option (List Bool)} (h : Ends (pNum n) (some l) v σ') (hn : n ≤ l.length) : σ' = some (l.drop n) := by
  rcases h.cases with ⟨r, e, rfl⟩ | ⟨e, _⟩
  · rw [(num_left h).2]
  · unfold pNum at e
    rw [if_pos hn] at e
    cases e

theorem info_dead {l : List Bool} (h : ∀ x, Ends pInfo (some l) x none) : pInfo l = none := by
  rcases (h ⟨0, 0, 0, 0, 0⟩).cases with ⟨r, _, e⟩ | ⟨e, _⟩
  · cases e
  · exact e

theorem info_vals {l : List Bool} {least most v4 v5 rate ch bt total : Nat} {σ1 σ2 σ3 σ4 σ5 σ6 σ7 σ8 : Option (List Bool)} (hl : l.length = 272) (h1 : Ends (pNum 16) (some l) least σ1) (h2 : Ends (pNum 16) σ1 most σ2)
    (h3 : Ends (pNum 24) σ2 v4 σ3) (h4 : Ends (pNum 24) σ3 v5 σ4) (h5 : Ends (pNum 20) σ4 rate σ5) (h6 : Ends (pNum 3) σ5 ch σ6) (h7 : Ends (pNum 5) σ6 bt σ7) (h8 : Ends (pNum 36) σ7 total σ8) :
    (least = most → headOk ⟨most, rate, ch + 1, bt + 1, total⟩ = true → pInfo l = some (⟨most, rate, ch + 1, bt + 1, total⟩, [])) ∧
      (least ≠ most ∨ headOk ⟨most, rate, ch + 1, bt + 1, total⟩ = false → pInfo l = none) := by
  obtain rfl := num_alive h1 (by omega)
  have l1 : (l.drop 16).length = 256 := by rw [List.length_drop]; omega
  obtain rfl := num_alive h2 (by omega)
  have l2 : ((l.drop 16).drop 16).length = 240 := by rw [List.length_drop]; omega
  obtain rfl := num_alive h3 (by omega)
  have l3 : (((l.drop 16).drop 16).drop 24).length = 216 := by rw [List.length_drop]; omega
  obtain rfl := num_alive h4 (by omega)
  have l4 : ((((l.drop 16).drop 16).drop 24).drop 24).length = 192 := by rw [List.length_drop]; omega
  obtain ⟨v48, h48⟩ := num_twice h3 h4
  obtain rfl := num_alive h5 (by omega)
  have l5 : (((((l.drop 16).drop 16).drop 24).drop 24).drop 20).length = 172 := by rw [List.length_drop]; omega
  obtain rfl := num_alive h6 (by omega)
  have l6 : ((((((l.drop 16).drop 16).drop 24).drop 24).drop 20).drop 3).length = 169 := by rw [List.length_drop]; omega
  obtain rfl := num_alive h7 (by omega)
  have l7 : (((((((l.drop 16).drop 16).drop 24).drop 24).drop 20).drop 3).drop 5).length = 164 := by rw [List.length_drop]; omega
  obtain rfl := num_alive h8 (by omega)
  have l8 : ((((((((l.drop 16).drop 16).drop 24).drop 24).drop 20).drop 3).drop 5).drop 36).length = 128 := by rw [List.length_drop]; omega
  generalize ((((((((l.drop 16).drop 16).drop 24).drop 24).drop 20).drop 3).drop 5).drop 36) = m at h8 l8
  have h128 : Ends (pNum 128) (some m) (val (m.take 128)) (some []) := Ends.of (by
    unfold pNum
    rw [if_pos (by omega), List.drop_of_length_le (by omega)])
  by_cases he : least = most
  · subst he
    have hc := info_chain h1 (must_yes h2 rfl) h48 h5 h6 h7 h8 h128
    refine ⟨fun _ hok => ?_, fun hno => info_dead (hc.2 (.inl (hno.resolve_left (fun hh => hh rfl))))⟩
    rcases (hc.1 hok).cases with ⟨r, e, e2⟩ | ⟨_, e⟩
    · injection e2 with e2
      rw [e, e2]
    · cases e
  · have hc := info_chain (σ8 := none) (v48 := 0) (rate := rate) (ch := ch) (bt := bt) (total := total) (v128 := 0) h1 (must_no h2 (fun e => he e.symm)) (σ3 := none) rfl (σ4 := none) rfl (σ5 := none) rfl (σ6 := none) rfl (σ7 := none) rfl rfl
    exact ⟨fun e => absurd e he, fun _ => info_dead (hc.2 (.inr rfl))⟩

def InfoPost (w : World) (d : ByteArray) (e : Ending) (w' : World) : Prop :=
  w.grownBy w' none ∧ ∃ (h : Head) (ok : Bool), e = .returned (.tuple #[headV h, .bool ok]) ∧
    ((ok = true ∧ d.size = 34 ∧ pInfo (bitsOf d.data.toList) = some (h, [])) ∨ (ok = false ∧ (d.size = 34 → pInfo (bitsOf d.data.toList) = none)))

theorem maybe_ok (block rate ch bits total : Nat) (hc : 1 ≤ ch) : mayBe block rate ch bits total = headOk ⟨block, rate, ch, bits, total⟩ := by
  rw [Bool.eq_iff_iff]
  unfold mayBe headOk
  simp
  omega

set_option maxHeartbeats 4000000 in
set_option maxRecDepth 20000 in
theorem qreadinfo (w : World) (d : ByteArray) (hd : d.size ≤ 6000) :
    Calls Try.prog 82 #[.string d] w (InfoPost w d) := by
  have hg0 : w.grownBy (w.alloc (.cells #[Value.int .i64 0, .int .i64 0, .int .i64 0, .int .i64 0, .int .i64 0] 77)) none := grown_alloc (grown_refl _ _) _
  by_cases h34 : d.size = 34
  rotate_left
  · have t34 : ((d.size : Int) != 34) = true := by simp; omega
    have HN : Hid (¬ d.size = 34) := h34
    clear h34
    go_enter Try.func82, Try.ntmps82
    go_wp2
    exact bodyPost_ret (v := .tuple #[headV ⟨0, 0, 0, 0, 0⟩, .bool false]) (by simp [results, Try.results82, go_sem, headV]) rfl ⟨hg0, _, false, rfl, .inr ⟨rfl, fun e => absurd e HN.out⟩⟩
  have t34 : ((d.size : Int) != 34) = false := by simp; omega
  have hbl : (bitsOf d.data.toList).length = 272 := by rw [total_bits]; omega
  obtain ⟨l, hl⟩ : ∃ l, bitsOf d.data.toList = l := ⟨_, rfl⟩
  have hnew := fun w => qnew w d
  rw [hl] at hbl hnew
  have HL : Hid (bitsOf d.data.toList = l) := hl
  have H34 : Hid (d.size = 34) := h34
  clear h34 hl
  go_enter Try.func82, Try.ntmps82
  go_wp2_with fail
  have hbr0 := Box.new w #[Value.int .i64 0, .int .i64 0, .int .i64 0, .int .i64 0, .int .i64 0] 77
  refine (hnew _).mono ?_
  rintro e w1 ⟨rfl, hsp1, hg1, hsz1⟩
  have hgg1 := grown_trans hg0 hg1
  have hbr1 := hbr0.kept hg1 (by simp)
  obtain ⟨b, hb⟩ : ∃ b, (w.alloc (.cells #[Value.int .i64 0, .int .i64 0, .int .i64 0, .int .i64 0, .int .i64 0] 77)).heap.size = b := ⟨_, rfl⟩
  have hbw : b = w.heap.size + 1 := by rw [← hb]; simp
  rw [hb] at hsp1
  rw [hb]
  have hne : some w.heap.size ≠ some b := fun e => by injection e with e; omega
  have hbw' : w.heap.size < b := by omega
  clear hbr0 hg0 hg1 hb hsz1 hbw hnew
  go_wp2_with fail
  refine (qnum _ _ _ 16 _ hd (by omega) hsp1).mono ?_
  rintro e w2 ⟨least, σ2, rfl, hleast0, -, hg2, hsp2, hends1⟩
  have hleast : least < 65536 := hleast0
  have hgg2 := grown_new hgg1 hg2 (fun g e => by injection e with e; omega)
  have hbr2 := hbr1.kept hg2 hne
  clear hbr1 hgg1 hg2 hsp1 hleast0
  go_wp2_with fail
  refine (qnum _ _ _ 16 _ hd (by omega) hsp2).mono ?_
  rintro e w3 ⟨most, σ3, rfl, hmost0, -, hg3, hsp3, hends2⟩
  have hmost : most < 65536 := hmost0
  have hgg3 := grown_new hgg2 hg3 (fun g e => by injection e with e; omega)
  have hbr3 := hbr2.kept hg3 hne
  clear hbr2 hgg2 hg3 hsp2 hmost0
  go_wp2_with fail
  refine (qnum _ _ _ 24 _ hd (by omega) hsp3).mono ?_
  rintro e w4 ⟨v4, σ4, rfl, hv4, -, hg4, hsp4, hends3⟩
  have hgg4 := grown_new hgg3 hg4 (fun g e => by injection e with e; omega)
  have hbr4 := hbr3.kept hg4 hne
  clear hbr3 hgg3 hg4 hsp3 hv4
  go_wp2_with fail
  refine (qnum _ _ _ 24 _ hd (by omega) hsp4).mono ?_
  rintro e w5 ⟨v5, σ5, rfl, hv5, -, hg5, hsp5, hends4⟩
  have hgg5 := grown_new hgg4 hg5 (fun g e => by injection e with e; omega)
  have hbr5 := hbr4.kept hg5 hne
  clear hbr4 hgg4 hg5 hsp4 hv5
  obtain ⟨g, hg⟩ : ∃ g, w5.heap.size = g := ⟨_, rfl⟩
  have hbg : b < g := by rw [← hg]; exact hsp5.lt
  have hbh5 := Box.new w5 #[Value.int .i64 most, .int .i64 0, .int .i64 0, .int .i64 0, .int .i64 0] 77
  have hga := grown_alloc (grown_refl w5 none) (.cells #[Value.int .i64 most, .int .i64 0, .int .i64 0, .int .i64 0, .int .i64 0] 77)
  have hsp5a := hsp5.kept hga (by simp)
  have hbr5a := hbr5.kept hga (by simp)
  have hgg5a := grown_trans hgg5 hga
  rw [hg] at hbh5
  have HG : Hid (w5.heap.size = g) := hg
  have hng : some g ≠ some b := fun e => by injection e with e; omega
  clear hg hsp5 hbr5 hgg5 hga
  go_wp2_with fail
  refine (qnum _ _ _ 20 _ hd (by omega) hsp5a).mono ?_
  rintro e w6 ⟨rate, σ6, rfl, hrate0, -, hg6, hsp6, hends5⟩
  rw [HG.out]
  have hrate : rate < 1048576 := hrate0
  have hgg6 := grown_new hgg5a hg6 (fun g e => by injection e with e; omega)
  have hbr6 := hbr5a.kept hg6 hne
  have hbh6 := hbh5.kept hg6 hng
  clear hbr5a hbh5 hgg5a hg6 hsp5a hrate0
  have c6 : w6.cell? ⟨g, 1, none⟩ = some (.int .i64 0) := hbh6.cell 1
  have f6 := hbh6.fz 1
  have hs6 := grown_set w6 g 1 (.int .i64 rate)
  have hbh6s : Box (w6.setCell ⟨g, 1, none⟩ (.int .i64 rate)) g #[Value.int .i64 most, .int .i64 rate, .int .i64 0, .int .i64 0, .int .i64 0] 77 := hbh6.set 1 _
  have hbr6s := hbr6.kept hs6 (fun e => by injection e with e; omega)
  have hsp6s := hsp6.kept hs6 (fun e => by injection e with e; omega)
  have hgg6s := grown_new hgg6 hs6 (fun q e => by injection e with e; omega)
  clear hbh6 hbr6 hsp6 hgg6 hs6
  go_wp2_with fail
  refine (qnum _ _ _ 3 _ hd (by omega) hsp6s).mono ?_
  rintro e w7 ⟨ch, σ7, rfl, hch0, -, hg7, hsp7, hends6⟩
  have hch : ch < 8 := hch0
  have hgg7 := grown_new hgg6s hg7 (fun g e => by injection e with e; omega)
  have hbr7 := hbr6s.kept hg7 hne
  have hbh7 := hbh6s.kept hg7 hng
  clear hbr6s hbh6s hgg6s hg7 hsp6s hch0 c6 f6
  have c7 : w7.cell? ⟨g, 2, none⟩ = some (.int .i64 0) := hbh7.cell 2
  have f7 := hbh7.fz 2
  have hs7 := grown_set w7 g 2 (.int .i64 ((ch : Int) + 1))
  have hbh7s : Box (w7.setCell ⟨g, 2, none⟩ (.int .i64 ((ch : Int) + 1))) g #[Value.int .i64 most, .int .i64 rate, .int .i64 ((ch : Int) + 1), .int .i64 0, .int .i64 0] 77 := hbh7.set 2 _
  have hbr7s := hbr7.kept hs7 (fun e => by injection e with e; omega)
  have hsp7s := hsp7.kept hs7 (fun e => by injection e with e; omega)
  have hgg7s := grown_new hgg7 hs7 (fun q e => by injection e with e; omega)
  clear hbh7 hbr7 hsp7 hgg7 hs7
  go_wp2_with fail
  refine (qnum _ _ _ 5 _ hd (by omega) hsp7s).mono ?_
  rintro e w8 ⟨bt, σ8, rfl, hbt0, -, hg8, hsp8, hends7⟩
  have hbt : bt < 32 := hbt0
  have hgg8 := grown_new hgg7s hg8 (fun g e => by injection e with e; omega)
  have hbr8 := hbr7s.kept hg8 hne
  have hbh8 := hbh7s.kept hg8 hng
  clear hbr7s hbh7s hgg7s hg8 hsp7s hbt0 c7 f7
  have c8 : w8.cell? ⟨g, 3, none⟩ = some (.int .i64 0) := hbh8.cell 3
  have f8 := hbh8.fz 3
  have hs8 := grown_set w8 g 3 (.int .i64 ((bt : Int) + 1))
  have hbh8s : Box (w8.setCell ⟨g, 3, none⟩ (.int .i64 ((bt : Int) + 1))) g #[Value.int .i64 most, .int .i64 rate, .int .i64 ((ch : Int) + 1), .int .i64 ((bt : Int) + 1), .int .i64 0] 77 := hbh8.set 3 _
  have hbr8s := hbr8.kept hs8 (fun e => by injection e with e; omega)
  have hsp8s := hsp8.kept hs8 (fun e => by injection e with e; omega)
  have hgg8s := grown_new hgg8 hs8 (fun q e => by injection e with e; omega)
  clear hbh8 hbr8 hsp8 hgg8 hs8
  go_wp2_with fail
  refine (qnum _ _ _ 36 _ hd (by omega) hsp8s).mono ?_
  rintro e w9 ⟨total, σ9, rfl, htot0, -, hg9, hsp9, hends8⟩
  have htot : total < 68719476736 := htot0
  have hgg9 := grown_new hgg8s hg9 (fun g e => by injection e with e; omega)
  have hbr9 := hbr8s.kept hg9 hne
  have hbh9 := hbh8s.kept hg9 hng
  clear hbr8s hbh8s hgg8s hg9 hsp8s htot0 c8 f8
  have c9 : w9.cell? ⟨g, 4, none⟩ = some (.int .i64 0) := hbh9.cell 4
  have f9 := hbh9.fz 4
  have hs9 := grown_set w9 g 4 (.int .i64 total)
  have hbh9s : Box (w9.setCell ⟨g, 4, none⟩ (.int .i64 total)) g #[Value.int .i64 most, .int .i64 rate, .int .i64 ((ch : Int) + 1), .int .i64 ((bt : Int) + 1), .int .i64 total] 77 := hbh9.set 4 _
  have hbr9s := hbr9.kept hs9 (fun e => by injection e with e; omega)
  have hgg9s := grown_new hgg9 hs9 (fun q e => by injection e with e; omega)
  obtain ⟨wa, hwa⟩ : ∃ wa, w9.setCell ⟨g, 4, none⟩ (.int .i64 total) = wa := ⟨_, rfl⟩
  go_upto_region 13 with fail
  rw [hwa] at hbh9s hbr9s hgg9s
  clear hwa hbh9 hbr9 hgg9 hs9 hsp9 c9 f9
  have hpi := info_vals hbl hends1 hends2 hends3 hends4 hends5 hends6 hends7 hends8
  clear hends1 hends2 hends3 hends4 hends5 hends6 hends7 hends8
  have e0 : wa.cell? ⟨g, 0, none⟩ = some (.int .i64 most) := hbh9s.cell 0
  have e1 : wa.cell? ⟨g, 1, none⟩ = some (.int .i64 rate) := hbh9s.cell 1
  have e2 : wa.cell? ⟨g, 2, none⟩ = some (.int .i64 ((ch : Int) + 1)) := hbh9s.cell 2
  have e3 : wa.cell? ⟨g, 3, none⟩ = some (.int .i64 ((bt : Int) + 1)) := hbh9s.cell 3
  have e4 : wa.cell? ⟨g, 4, none⟩ = some (.int .i64 total) := hbh9s.cell 4
  have z0 : wa.cell? ⟨w.heap.size, 0, none⟩ = some (.int .i64 0) := hbr9s.cell 0
  have z1 : wa.cell? ⟨w.heap.size, 1, none⟩ = some (.int .i64 0) := hbr9s.cell 1
  have z2 : wa.cell? ⟨w.heap.size, 2, none⟩ = some (.int .i64 0) := hbr9s.cell 2
  have z3 : wa.cell? ⟨w.heap.size, 3, none⟩ = some (.int .i64 0) := hbr9s.cell 3
  have z4 : wa.cell? ⟨w.heap.size, 4, none⟩ = some (.int .i64 0) := hbr9s.cell 4
  have y0 := hbr9s.fz 0
  have y1 := hbr9s.fz 1
  have y2 := hbr9s.fz 2
  have y3 := hbr9s.fz 3
  have y4 := hbr9s.fz 4
  have hwg : w.heap.size < g := by omega
  by_cases he : least = most
  · have te : ((least : Int) == (most : Int)) = true := by simp; omega
    have HE : Hid (least = most) := he
    have hpost : ∀ wf, w.grownBy wf none → InfoPost w d (.returned (.tuple #[headV ⟨most, rate, ch + 1, bt + 1, total⟩, .bool (mayBe most rate ((ch : Int) + 1) ((bt : Int) + 1) total)])) wf := by
      intro wf hgf
      have hmb : mayBe most rate ((ch : Int) + 1) ((bt : Int) + 1) total = headOk ⟨most, rate, ch + 1, bt + 1, total⟩ := maybe_ok most rate (ch + 1) (bt + 1) total (by omega)
      rw [hmb]
      refine ⟨hgf, _, _, rfl, ?_⟩
      rw [HL.out]
      cases hok : headOk ⟨most, rate, ch + 1, bt + 1, total⟩ with
      | true => exact .inl ⟨rfl, H34.out, hpi.1 he hok⟩
      | false => exact .inr ⟨rfl, fun _ => hpi.2 (.inr hok)⟩
    clear he hpi
    have E0 : Hid (wa.cell? ⟨g, 0, none⟩ = some (.int .i64 most)) := e0
    have E1 : Hid (wa.cell? ⟨g, 1, none⟩ = some (.int .i64 rate)) := e1
    have E2 : Hid (wa.cell? ⟨g, 2, none⟩ = some (.int .i64 ((ch : Int) + 1))) := e2
    have E3 : Hid (wa.cell? ⟨g, 3, none⟩ = some (.int .i64 ((bt : Int) + 1))) := e3
    have E4 : Hid (wa.cell? ⟨g, 4, none⟩ = some (.int .i64 total)) := e4
    have Z0 : Hid (wa.cell? ⟨w.heap.size, 0, none⟩ = some (.int .i64 0)) := z0
    have Z1 : Hid (wa.cell? ⟨w.heap.size, 1, none⟩ = some (.int .i64 0)) := z1
    have Z2 : Hid (wa.cell? ⟨w.heap.size, 2, none⟩ = some (.int .i64 0)) := z2
    have Z3 : Hid (wa.cell? ⟨w.heap.size, 3, none⟩ = some (.int .i64 0)) := z3
    have Z4 : Hid (wa.cell? ⟨w.heap.size, 4, none⟩ = some (.int .i64 0)) := z4
    have HBR : Hid (Box wa w.heap.size #[Value.int .i64 0, .int .i64 0, .int .i64 0, .int .i64 0, .int .i64 0] 77) := hbr9s
    go_region_with ((go_at_call 69; refine (qmaybe _ _ _ _ _ _).mono ?_; rintro e wb ⟨rfl, hgb⟩; have k0 : wb.cell? ⟨g, 0, none⟩ = some (.int .i64 most) := hgb.cell E0.out (by simp); have k1 : wb.cell? ⟨g, 1, none⟩ = some (.int .i64 rate) := hgb.cell E1.out (by simp); have k2 : wb.cell? ⟨g, 2, none⟩ = some (.int .i64 ((ch : Int) + 1)) := hgb.cell E2.out (by simp); have k3 : wb.cell? ⟨g, 3, none⟩ = some (.int .i64 ((bt : Int) + 1)) := hgb.cell E3.out (by simp); have k4 : wb.cell? ⟨g, 4, none⟩ = some (.int .i64 total) := hgb.cell E4.out (by simp); have j0 : wb.cell? ⟨w.heap.size, 0, none⟩ = some (.int .i64 0) := hgb.cell Z0.out (by simp); have j1 : wb.cell? ⟨w.heap.size, 1, none⟩ = some (.int .i64 0) := hgb.cell Z1.out (by simp); have j2 : wb.cell? ⟨w.heap.size, 2, none⟩ = some (.int .i64 0) := hgb.cell Z2.out (by simp); have j3 : wb.cell? ⟨w.heap.size, 3, none⟩ = some (.int .i64 0) := hgb.cell Z3.out (by simp); have j4 : wb.cell? ⟨w.heap.size, 4, none⟩ = some (.int .i64 0) := hgb.cell Z4.out (by simp); have hbrb := Box.kept HBR.out (show wa.grownBy wb none from ⟨hgb.os, hgb.tape, hgb.output, hgb.size, hgb.block⟩) (by simp); have i0 := hbrb.fz 0; have i1 := hbrb.fz 1; have i2 := hbrb.fz 2; have i3 := hbrb.fz 3; have i4 := hbrb.fz 4))
    all_goals
      have h5 := five_stores wb w.heap.size _ _ _ _ _ _ (.int .i64 most) (.int .i64 rate) (.int .i64 ((ch : Int) + 1)) (.int .i64 ((bt : Int) + 1)) (.int .i64 total) hbrb
      go_wp2
      generalize (World.setCell _ _ (Value.int .i64 total)) = wf at h5 ⊢
      have x0 := h5.1.cell 0
      have x1 := h5.1.cell 1
      have x2 := h5.1.cell 2
      have x3 := h5.1.cell 3
      have x4 := h5.1.cell 4
      exact bodyPost_ret (v := .tuple #[headV ⟨most, rate, ch + 1, bt + 1, total⟩, .bool (mayBe most rate ((ch : Int) + 1) ((bt : Int) + 1) total)]) (by simp [results, Try.results82, go_sem, x0, x1, x2, x3, x4, headV]) rfl (hpost wf (grown_new (grown_new hgg9s (show wa.grownBy wb none from ⟨hgb.os, hgb.tape, hgb.output, hgb.size, hgb.block⟩) (fun q e => by cases e)) h5.2 (fun q e => by injection e with e; omega)))
  · have te : ((least : Int) == (most : Int)) = false := by simp; omega
    have HE : Hid (¬ least = most) := he
    have hpost : ∀ wf, w.grownBy wf none → InfoPost w d (.returned (.tuple #[headV ⟨most, rate, ch + 1, bt + 1, total⟩, .bool false])) wf := by
      intro wf hgf
      refine ⟨hgf, _, _, rfl, .inr ⟨rfl, fun _ => ?_⟩⟩
      rw [HL.out]
      exact hpi.2 (.inl he)
    clear he hpi
    go_region_with fail
    all_goals
      have h5 := five_stores wa w.heap.size _ _ _ _ _ _ (.int .i64 most) (.int .i64 rate) (.int .i64 ((ch : Int) + 1)) (.int .i64 ((bt : Int) + 1)) (.int .i64 total) hbr9s
      go_wp2
      generalize (World.setCell _ _ (Value.int .i64 total)) = wf at h5 ⊢
      have x0 := h5.1.cell 0
      have x1 := h5.1.cell 1
      have x2 := h5.1.cell 2
      have x3 := h5.1.cell 3
      have x4 := h5.1.cell 4
      exact bodyPost_ret (v := .tuple #[headV ⟨most, rate, ch + 1, bt + 1, total⟩, .bool false]) (by simp [results, Try.results82, go_sem, x0, x1, x2, x3, x4, headV]) rfl (hpost _ (grown_drew (grown_new hgg9s h5.2 (fun q e => by injection e with e; omega))))
end Go.Proofs.Ytncmgnmcggkhnaa

namespace Go.Proofs.Ytncmgnmcggkhnaa
open Go.RowKit

theorem list_ext4 (l : List UInt8) (h : ¬ 4 ≤ l.length) : l.take 4 ≠ [102, 76, 97, 67] := fun e => by
  have := congrArg List.length e
  simp at this
  omega

theorem prefix_eq (d : ByteArray) : ((d.extract 0 4).toList == [102, 76, 97, 67]) = true ↔ d.data.toList.take 4 = [102, 76, 97, 67] := by
  rw [ByteArray.toList_eq, extract_list]
  simp

def PrePost (w : World) (d : ByteArray) (e : Ending) (w' : World) : Prop := ∃ ok : Bool, e = .returned (.bool ok) ∧ (ok = true ↔ d.data.toList.take 4 = [102, 76, 97, 67]) ∧ w' = w

set_option maxHeartbeats 1000000 in
theorem qprefix0 (w : World) (d : ByteArray) (hd : d.size ≤ 6000) :
    Calls Try.prog 106 #[.string d, .string ⟨#[102, 76, 97, 67]⟩] w (PrePost w d) := by
  by_cases h : 4 ≤ d.size
  · go_enter Try.func106, Try.ntmps106
    go_wp2
    go_ret
    exact ⟨_, rfl, prefix_eq d, rfl⟩
  · have hno := list_ext4 d.data.toList (by rw [dlen]; exact h)
    have HNO : Hid (d.data.toList.take 4 ≠ [102, 76, 97, 67]) := hno
    clear hno
    go_enter Try.func106, Try.ntmps106
    go_wp2
    go_ret
    exact ⟨false, rfl, by simpa using HNO.out, rfl⟩

set_option maxHeartbeats 1000000 in
theorem qprefix (w : World) (d : ByteArray) (hd : d.size ≤ 6000) :
    Calls Try.prog 80 #[.string d, .string ⟨#[102, 76, 97, 67]⟩] w (PrePost w d) := by
  go_enter Try.func80, Try.ntmps80
  go_wp2_with fail
  refine (qprefix0 w d hd).mono ?_
  rintro e w' ⟨ok, rfl, hok, rfl⟩
  have HOK : Hid (ok = true ↔ d.data.toList.take 4 = [102, 76, 97, 67]) := hok
  clear hok
  go_wp2
  go_ret
  exact ⟨ok, rfl, HOK.out, rfl⟩

theorem val_byte (b : UInt8) : val (byteBits b) = b.toNat := by
  have h : ∀ n, n < 256 → val [n.testBit 7, n.testBit 6, n.testBit 5, n.testBit 4, n.testBit 3, n.testBit 2, n.testBit 1, n.testBit 0] = n := by decide +kernel
  exact h b.toNat b.toNat_lt

theorem must_byte (b : UInt8) (v : Nat) (l : List Bool) : pMust 8 v (byteBits b ++ l) = if b.toNat = v then some ((), l) else none := by
  unfold pMust pNum
  have h1 : (byteBits b).length = 8 := byteBits_length b
  rw [if_pos (by rw [List.length_append]; omega)]
  have e1 : (byteBits b ++ l).take 8 = byteBits b := by rw [← h1, List.take_left]
  have e2 : (byteBits b ++ l).drop 8 = l := by rw [← h1, List.drop_left]
  rw [e1, e2, val_byte]
  rfl

theorem must_nil (v : Nat) : pMust 8 v [] = none := rfl

/-- what stands behind the four signs -/
def afterMark (n : Nat) (l : List Bool) : Option (Head × List Bool) :=
  (pBlock l).bind fun ((last, kind, size), r4) =>
    if kind = 0 ∧ size = 34 then (pInfo r4).bind fun (h, r5) => if last = 1 then some (h, r5) else (pMore n r5).map fun (_, r6) => (h, r6) else none

theorem blocks_bytes (L : List UInt8) : pBlocks (bitsOf L) = if L.take 4 = [102, 76, 97, 67] then afterMark (8 * L.length) (bitsOf (L.drop 4)) else none := by
  have hn : ∀ (b : UInt8) (v : Nat), (b.toNat = v) → b = UInt8.ofNat v := fun b v e => by rw [← e]; simp
  match L with
  | [] => rfl
  | [a] =>
    rw [if_neg (by simp)]
    unfold pBlocks
    rw [bitsOf_cons, must_byte]
    split <;> rfl
  | [a, b] =>
    rw [if_neg (by simp)]
    unfold pBlocks
    rw [bitsOf_cons, must_byte]
    split
    · show (pMust 8 76 (bitsOf [b])).bind _ = _
      rw [bitsOf_cons, must_byte]
      split <;> rfl
    · rfl
  | [a, b, c] =>
    rw [if_neg (by simp)]
    unfold pBlocks
    rw [bitsOf_cons, must_byte]
    split
    · show (pMust 8 76 (bitsOf [b, c])).bind _ = _
      rw [bitsOf_cons, must_byte]
      split
      · show (pMust 8 97 (bitsOf [c])).bind _ = _
        rw [bitsOf_cons, must_byte]
        split <;> rfl
      · rfl
    · rfl
  | a :: b :: c :: e :: M =>
    have hlen : (bitsOf (a :: b :: c :: e :: M)).length = 8 * (a :: b :: c :: e :: M).length := bitsOf_length _
    unfold pBlocks
    rw [hlen]
    rw [bitsOf_cons, must_byte]
    by_cases h1 : a.toNat = 102
    · rw [if_pos h1]
      show (pMust 8 76 (bitsOf (b :: c :: e :: M))).bind _ = _
      rw [bitsOf_cons, must_byte]
      by_cases h2 : b.toNat = 76
      · rw [if_pos h2]
        show (pMust 8 97 (bitsOf (c :: e :: M))).bind _ = _
        rw [bitsOf_cons, must_byte]
        by_cases h3 : c.toNat = 97
        · rw [if_pos h3]
          show (pMust 8 67 (bitsOf (e :: M))).bind _ = _
          rw [bitsOf_cons, must_byte]
          by_cases h4 : e.toNat = 67
          · rw [if_pos h4]
            rw [if_pos (by rw [hn a _ h1, hn b _ h2, hn c _ h3, hn e _ h4]; rfl)]
            rfl
          · rw [if_neg h4, if_neg (by simp; intro _ _ _ e4; rw [e4] at h4; exact h4 rfl)]
            rfl
        · rw [if_neg h3, if_neg (by simp; intro _ _ e3; rw [e3] at h3; exact absurd rfl h3)]
          rfl
      · rw [if_neg h2, if_neg (by simp; intro _ e2; rw [e2] at h2; exact absurd rfl h2)]
        rfl
    · rw [if_neg h1, if_neg (by simp; intro e1; rw [e1] at h1; exact absurd rfl h1)]
      rfl
end Go.Proofs.Ytncmgnmcggkhnaa

namespace Go.Proofs.Ytncmgnmcggkhnaa
open Go.RowKit

def ReadPost (w : World) (d : ByteArray) (e : Ending) (w' : World) : Prop :=
  w.grownBy w' none ∧ ∃ (h : Head) (at' : Nat) (ok : Bool), e = .returned (.tuple #[headV h, .int .i64 at', .bool ok]) ∧
    ((ok = true ∧ at' ≤ d.size ∧ pBlocks (bitsOf d.data.toList) = some (h, bitsOf (d.data.toList.drop at'))) ∨ (ok = false ∧ pBlocks (bitsOf d.data.toList) = none))

/-- where the loop over the blocks stands -/
def RInv (L : List UInt8) (res : Option (Head × List Bool)) (ok last : Bool) (h : Head) (at' gk : Nat) : Prop :=
  (ok = false ∧ res = none) ∨ (ok = true ∧ at' ≤ L.length ∧
    ((last = true ∧ res = some (h, bitsOf (L.drop at'))) ∨ (last = false ∧ 8 * (L.length - at') < gk ∧ res = (pMore gk (bitsOf (L.drop at'))).map fun (_, r) => (h, r))))

/-- nothing is answered -/
theorem read_err {w X : World} {d : ByteArray} (hg : w.grownBy X none) (hb : Box X w.heap.size #[Value.int .i64 0, .int .i64 0, .int .i64 0, .int .i64 0, .int .i64 0] 77) (hd : pBlocks (bitsOf d.data.toList) = none) :
    Box (((((X.setCell ⟨w.heap.size, 0, none⟩ (.int .i64 0)).setCell ⟨w.heap.size, 1, none⟩ (.int .i64 0)).setCell ⟨w.heap.size, 2, none⟩ (.int .i64 0)).setCell ⟨w.heap.size, 3, none⟩ (.int .i64 0)).setCell ⟨w.heap.size, 4, none⟩ (.int .i64 0)) w.heap.size #[Value.int .i64 0, .int .i64 0, .int .i64 0, .int .i64 0, .int .i64 0] 77 ∧
    ReadPost w d (.returned (.tuple #[headV ⟨0, 0, 0, 0, 0⟩, .int .i64 0, .bool false])) (((((X.setCell ⟨w.heap.size, 0, none⟩ (.int .i64 0)).setCell ⟨w.heap.size, 1, none⟩ (.int .i64 0)).setCell ⟨w.heap.size, 2, none⟩ (.int .i64 0)).setCell ⟨w.heap.size, 3, none⟩ (.int .i64 0)).setCell ⟨w.heap.size, 4, none⟩ (.int .i64 0)) := by
  have h5 := five_stores X w.heap.size _ _ _ _ _ _ (.int .i64 0) (.int .i64 0) (.int .i64 0) (.int .i64 0) (.int .i64 0) hb
  exact ⟨h5.1, grown_new hg h5.2 (fun g e => by injection e with e; omega), ⟨0, 0, 0, 0, 0⟩, 0, false, rfl, .inr ⟨rfl, hd⟩⟩

theorem after_none {n : Nat} {l : List Bool} (h : ∀ x r, pBlock l = some (x, r) → r.length < 8 * x.2.2) : afterMark n l = none := by
  unfold afterMark
  cases e : pBlock l with
  | none => rfl
  | some x =>
    obtain ⟨⟨last, kind, size⟩, r⟩ := x
    have := h _ _ e
    show (if kind = 0 ∧ size = 34 then _ else _) = _
    split
    · rename_i hk
      obtain ⟨_, rfl⟩ := hk
      rw [info_short r (by simpa using this)]
      rfl
    · rfl

theorem after_kind {n last kind size : Nat} {l r : List Bool} (h : pBlock l = some ((last, kind, size), r)) (hk : kind ≠ 0) : afterMark n l = none := by
  unfold afterMark
  rw [h]
  show (if kind = 0 ∧ size = 34 then _ else _) = _
  rw [if_neg (fun hh => hk hh.1)]

theorem num_app (n : Nat) (l m : List Bool) (h : n ≤ l.length) : pNum n (l ++ m) = some (val (l.take n), l.drop n ++ m) ∧ pNum n l = some (val (l.take n), l.drop n) := by
  unfold pNum
  refine ⟨?_, by rw [if_pos h]⟩
  rw [if_pos (by rw [List.length_append]; omega), List.take_append_of_le_length h, List.drop_append_of_le_length h]

theorem info_app (l m : List Bool) (hl : l.length = 272) : pInfo (l ++ m) = (pInfo l).map fun (h, r) => (h, r ++ m) := by
  unfold pInfo pMust
  have k1 := num_app 16 l m (by omega)
  rw [k1.1, k1.2]
  simp only [Option.bind_some]
  have l1 : (l.drop 16).length = 256 := by rw [List.length_drop]; omega
  have k2 := num_app 16 (l.drop 16) m (by omega)
  rw [k2.1, k2.2]
  simp only [Option.bind_some]
  have l2 : ((l.drop 16).drop 16).length = 240 := by rw [List.length_drop]; omega
  generalize (l.drop 16).drop 16 = a at l2 ⊢
  split
  · simp only [Option.bind_some]
    have k3 := num_app 48 a m (by omega)
    rw [k3.1, k3.2]
    simp only [Option.bind_some]
    have l3 : (a.drop 48).length = 192 := by rw [List.length_drop]; omega
    generalize a.drop 48 = b at l3 ⊢
    have k4 := num_app 20 b m (by omega)
    rw [k4.1, k4.2]
    simp only [Option.bind_some]
    have l4 : (b.drop 20).length = 172 := by rw [List.length_drop]; omega
    have k5 := num_app 3 (b.drop 20) m (by omega)
    rw [k5.1, k5.2]
    simp only [Option.bind_some]
    have l5 : ((b.drop 20).drop 3).length = 169 := by rw [List.length_drop]; omega
    have k6 := num_app 5 ((b.drop 20).drop 3) m (by omega)
    rw [k6.1, k6.2]
    simp only [Option.bind_some]
    have l6 : (((b.drop 20).drop 3).drop 5).length = 164 := by rw [List.length_drop]; omega
    have k7 := num_app 36 (((b.drop 20).drop 3).drop 5) m (by omega)
    rw [k7.1, k7.2]
    simp only [Option.bind_some]
    have l7 : ((((b.drop 20).drop 3).drop 5).drop 36).length = 128 := by rw [List.length_drop]; omega
    have k8 := num_app 128 ((((b.drop 20).drop 3).drop 5).drop 36) m (by omega)
    rw [k8.1, k8.2]
    simp only [Option.bind_some]
    split
    · rfl
    · rfl
  · rfl

theorem bits_take_drop (L : List UInt8) (k : Nat) : bitsOf L = bitsOf (L.take k) ++ bitsOf (L.drop k) := by
  rw [← bitsOf_append, List.take_append_drop]

/-- the first block has been read -/
theorem rinv_first {L : List UInt8} {h : Head} {ln size : Nat} (hpb : pBlock (bitsOf (L.drop 4)) = some ((ln, 0, size), bitsOf ((L.drop 4).drop 4))) (hroom : 8 + size ≤ L.length) (ok : Bool)
    (hinfo : (ok = true ∧ size = 34 ∧ pInfo (bitsOf (((L.drop 4).drop 4).take size)) = some (h, [])) ∨ (ok = false ∧ (size = 34 → pInfo (bitsOf (((L.drop 4).drop 4).take size)) = none))) :
    RInv L (afterMark (8 * L.length) (bitsOf (L.drop 4))) ok (ln == 1) h (4 + (4 + size)) (8 * L.length) := by
  have hlen : ((L.drop 4).drop 4).length = L.length - 8 := by rw [List.length_drop, List.length_drop]; omega
  have hsplit := bits_take_drop ((L.drop 4).drop 4) size
  have hdrop : ((L.drop 4).drop 4).drop size = L.drop (4 + (4 + size)) := by rw [List.drop_drop, List.drop_drop]
  have happ : size = 34 → pInfo (bitsOf ((L.drop 4).drop 4)) = (pInfo (bitsOf (((L.drop 4).drop 4).take size))).map fun (h, r) => (h, r ++ bitsOf (L.drop (4 + (4 + size)))) := by
    intro e
    rw [hsplit, info_app _ _ (by rw [bitsOf_length, List.length_take, hlen, e]; omega), hdrop]
  have ham : afterMark (8 * L.length) (bitsOf (L.drop 4)) = if size = 34 then (pInfo (bitsOf ((L.drop 4).drop 4))).bind fun (h, r5) => if ln = 1 then some (h, r5) else (pMore (8 * L.length) r5).map fun (_, r6) => (h, r6) else none := by
    unfold afterMark
    rw [hpb]
    simp
  rw [ham]
  rcases hinfo with ⟨rfl, h34, hi⟩ | ⟨rfl, hi⟩
  · rw [if_pos h34, happ h34, hi]
    refine .inr ⟨rfl, by omega, ?_⟩
    simp only [Option.map_some, Option.bind_some, List.nil_append]
    by_cases h1 : ln = 1
    · exact .inl ⟨by simp [h1], by rw [if_pos h1]⟩
    · exact .inr ⟨by simp [h1], by omega, by rw [if_neg h1]⟩
  · refine .inl ⟨rfl, ?_⟩
    by_cases h34 : size = 34
    · rw [if_pos h34, happ h34, hi h34]
      rfl
    · rw [if_neg h34]

theorem rinv_next {L : List UInt8} {res : Option (Head × List Bool)} {h : Head} {a gk ln kind size : Nat} (hi : RInv L res true false h a gk) (hpb : pBlock (bitsOf (L.drop a)) = some ((ln, kind, size), bitsOf ((L.drop a).drop 4))) (hroom : 4 + size ≤ L.length - a) :
    RInv L res (follows kind size) (ln == 1) h (a + (4 + size)) (gk - 1) := by
  rcases hi with ⟨e, _⟩ | ⟨_, hle, ⟨e, _⟩ | ⟨_, hlt, hr⟩⟩
  · cases e
  · cases e
  · obtain ⟨g, rfl⟩ : ∃ g, gk = g + 1 := ⟨gk - 1, by omega⟩
    have hlen : (bitsOf ((L.drop a).drop 4)).length = 8 * (L.length - a - 4) := by rw [bitsOf_length, List.length_drop, List.length_drop]
    have hdrop : (bitsOf ((L.drop a).drop 4)).drop (8 * size) = bitsOf (L.drop (a + (4 + size))) := by
      rw [bitsOf_drop, List.drop_drop, List.drop_drop]
    have hm : pMore (g + 1) (bitsOf (L.drop a)) = if follows kind size = true then (if ln = 1 then some ((), bitsOf (L.drop (a + (4 + size)))) else pMore g (bitsOf (L.drop (a + (4 + size))))) else none := by
      show (pBlock _).bind _ = _
      rw [hpb]
      show (if kind = 0 ∨ kind = 127 ∨ (kind = 3 ∧ size % 18 ≠ 0) ∨ (bitsOf ((L.drop a).drop 4)).length < 8 * size then _ else _) = _
      rw [hdrop]
      by_cases hf : follows kind size = true
      · rw [if_pos hf, if_neg]
        rw [hlen]
        unfold follows at hf
        simp at hf
        omega
      · rw [if_neg hf, if_pos]
        unfold follows at hf
        simp at hf
        by_cases k0 : kind = 0
        · exact .inl k0
        · by_cases k1 : kind = 127
          · exact .inr (.inl k1)
          · exact .inr (.inr (.inl (hf k0 k1)))
    rw [hm] at hr
    cases hf : follows kind size with
    | false =>
      rw [hf] at hr
      exact .inl ⟨rfl, by rw [hr]; rfl⟩
    | true =>
      rw [hf] at hr
      refine .inr ⟨rfl, by omega, ?_⟩
      by_cases h1 : ln = 1
      · rw [if_pos rfl, if_pos h1] at hr
        exact .inl ⟨by simp [h1], hr⟩
      · rw [if_pos rfl, if_neg h1] at hr
        exact .inr ⟨by simp [h1], by show _ < g + 1 - 1; omega, hr⟩

theorem rinv_fail {L : List UInt8} {res : Option (Head × List Bool)} {h h' : Head} {a gk a' gk' : Nat} {last : Bool} (hi : RInv L res true false h a gk) (hno : ∀ x r, pBlock (bitsOf (L.drop a)) = some (x, r) → r.length < 8 * x.2.2) : RInv L res false last h' a' gk' := by
  refine .inl ⟨rfl, ?_⟩
  rcases hi with ⟨e, _⟩ | ⟨_, hle, ⟨e, _⟩ | ⟨_, hlt, hr⟩⟩
  · cases e
  · cases e
  · obtain ⟨g, rfl⟩ : ∃ g, gk = g + 1 := ⟨gk - 1, by omega⟩
    rw [hr]
    have : pMore (g + 1) (bitsOf (L.drop a)) = none := by
      show (pBlock _).bind _ = _
      cases e : pBlock (bitsOf (L.drop a)) with
      | none => rfl
      | some x =>
        obtain ⟨⟨last, kind, size⟩, r⟩ := x
        have := hno _ _ e
        show (if kind = 0 ∨ kind = 127 ∨ (kind = 3 ∧ size % 18 ≠ 0) ∨ r.length < 8 * size then _ else _) = _
        rw [if_pos (.inr (.inr (.inr this)))]
    rw [this]
    rfl

set_option maxHeartbeats 4000000 in
set_option maxRecDepth 20000 in
theorem qread (w : World) (d : ByteArray) (hd : d.size ≤ 6000) :
    Calls Try.prog 61 #[.string d] w (ReadPost w d) := by
  have hbytes := blocks_bytes d.data.toList
  obtain ⟨L, hL⟩ : ∃ L, d.data.toList = L := ⟨_, rfl⟩
  have hLl : L.length = d.size := by rw [← hL]; simp
  obtain ⟨res, hres⟩ : ∃ res, pBlocks (bitsOf L) = res := ⟨_, rfl⟩
  have HRES : Hid (pBlocks (bitsOf L) = res) := hres
  have HL : Hid (d.data.toList = L) := hL
  rw [hL, hres] at hbytes
  have HB : Hid (res = if L.take 4 = [102, 76, 97, 67] then afterMark (8 * L.length) (bitsOf (L.drop 4)) else none) := hbytes
  clear hbytes hres hL
  have hg0 : w.grownBy (w.alloc (.cells #[Value.int .i64 0, .int .i64 0, .int .i64 0, .int .i64 0, .int .i64 0] 77)) none := grown_alloc (grown_refl _ _) _
  have hbr0 := Box.new w #[Value.int .i64 0, .int .i64 0, .int .i64 0, .int .i64 0, .int .i64 0] 77
  go_enter Try.func61, Try.ntmps61
  go_wp2_with fail
  refine (qprefix _ d hd).mono ?_
  rintro e w1 ⟨ok1, rfl, hok1, rfl⟩
  rw [HL.out] at hok1
  have HOK1 : Hid (ok1 = true ↔ L.take 4 = [102, 76, 97, 67]) := hok1
  clear hok1
  cases ok1
  · have hnone : res = none := by rw [HB.out, if_neg (fun e => by have := HOK1.out.2 e; cases this)]
    go_wp2
    refine bodyPost_ret (v := .tuple #[headV ⟨0, 0, 0, 0, 0⟩, .int .i64 0, .bool false]) (by simp [results, Try.results61, go_sem, headV]) rfl ⟨hg0, ⟨0, 0, 0, 0, 0⟩, 0, false, rfl, .inr ⟨rfl, ?_⟩⟩
    rw [HL.out, HRES.out, hnone]
  have htake : L.take 4 = [102, 76, 97, 67] := HOK1.out.1 rfl
  have h4 : 4 ≤ L.length := by have := congrArg List.length htake; simp at this; omega
  have hres2 : res = afterMark (8 * L.length) (bitsOf (L.drop 4)) := by rw [HB.out, if_pos htake]
  have HR2 : Hid (res = afterMark (8 * L.length) (bitsOf (L.drop 4))) := hres2
  clear hres2 htake HOK1 HB
  have h4d : 4 ≤ d.size := by omega
  have hd4 : (d.extract 4 d.size).data.toList = L.drop 4 := by rw [extract_list, HL.out, List.take_of_length_le (by rw [List.length_drop]; omega)]
  have hs4 : (d.extract 4 d.size).size = d.size - 4 := by rw [← dlen, hd4, List.length_drop]; omega
  have HD4 : Hid ((d.extract 4 d.size).data.toList = L.drop 4) := hd4
  clear hd4
  go_wp2_with fail
  refine (qreadblock _ (d.extract 4 d.size) (by omega)).mono ?_
  rintro e w2 ⟨hg2, last, kind, body, ok, rfl, hcase⟩
  rw [HD4.out, hs4] at hcase
  have hgg2 := grown_trans hg0 hg2
  have hbr2 := hbr0.kept hg2 (by simp)
  clear hg0 hbr0 hg2
  obtain ⟨w3, hw3⟩ : ∃ w3, w2.alloc (.cells #[Value.bool last, .int .i64 kind, .string body] 137) = w3 := ⟨_, rfl⟩
  have hg3 : w2.grownBy w3 none := by rw [← hw3]; exact grown_alloc (grown_refl _ _) _
  have hgg3 := grown_trans hgg2 hg3
  have hbr3 := hbr2.kept hg3 (by simp)
  obtain ⟨gF, hgF⟩ : ∃ gF, w2.heap.size = gF := ⟨_, rfl⟩
  have hbF : Box w3 gF #[Value.bool last, .int .i64 kind, .string body] 137 := by rw [← hgF, ← hw3]; exact Box.new _ _ _
  have HW3 : Hid (w2.alloc (.cells #[Value.bool last, .int .i64 kind, .string body] 137) = w3) := hw3
  have HGF : Hid (w2.heap.size = gF) := hgF
  clear hw3 hgF hgg2 hbr2 hg3
  go_upto_region 5 with fail
  rw [HW3.out, HGF.out]
  clear HW3 HGF
  have k0 : w3.cell? ⟨gF, 0, none⟩ = some (.bool last) := hbF.cell 0
  have k1 : w3.cell? ⟨gF, 1, none⟩ = some (.int .i64 kind) := hbF.cell 1
  have k2 : w3.cell? ⟨gF, 2, none⟩ = some (.string body) := hbF.cell 2
  have z0 : w3.cell? ⟨w.heap.size, 0, none⟩ = some (.int .i64 0) := hbr3.cell 0
  have z1 : w3.cell? ⟨w.heap.size, 1, none⟩ = some (.int .i64 0) := hbr3.cell 1
  have z2 : w3.cell? ⟨w.heap.size, 2, none⟩ = some (.int .i64 0) := hbr3.cell 2
  have z3 : w3.cell? ⟨w.heap.size, 3, none⟩ = some (.int .i64 0) := hbr3.cell 3
  have z4 : w3.cell? ⟨w.heap.size, 4, none⟩ = some (.int .i64 0) := hbr3.cell 4
  have y0 := hbr3.fz 0
  have y1 := hbr3.fz 1
  have y2 := hbr3.fz 2
  have y3 := hbr3.fz 3
  have y4 := hbr3.fz 4
  rcases hcase with ⟨rfl, ln, size, hpb, hlast, hln, hkind, hbody, hroom⟩ | ⟨rfl, rfl, rfl, rfl, hno⟩
  rotate_left
  · have hnone : pBlocks (bitsOf d.data.toList) = none := by rw [HL.out, HRES.out, HR2.out]; exact after_none hno
    have hf := read_err hgg3 hbr3 hnone
    clear hno hnone
    go_wp2
    generalize (World.setCell _ ⟨w.heap.size, 4, none⟩ (Value.int .i64 0)) = wf at hf ⊢
    have x0 := hf.1.cell 0
    have x1 := hf.1.cell 1
    have x2 := hf.1.cell 2
    have x3 := hf.1.cell 3
    have x4 := hf.1.cell 4
    exact bodyPost_ret (v := .tuple #[headV ⟨0, 0, 0, 0, 0⟩, .int .i64 0, .bool false]) (by simp [results, Try.results61, go_sem, x0, x1, x2, x3, x4, headV]) rfl hf.2
  by_cases hk0 : kind = 0
  rotate_left
  · have hnone : pBlocks (bitsOf d.data.toList) = none := by rw [HL.out, HRES.out, HR2.out]; exact after_kind hpb hk0
    have hf := read_err hgg3 hbr3 hnone
    have tk : ((kind : Int) != 0) = true := by simp; omega
    clear hpb hnone hk0
    go_wp2
    generalize (World.setCell _ ⟨w.heap.size, 4, none⟩ (Value.int .i64 0)) = wf at hf ⊢
    have x0 := hf.1.cell 0
    have x1 := hf.1.cell 1
    have x2 := hf.1.cell 2
    have x3 := hf.1.cell 3
    have x4 := hf.1.cell 4
    exact bodyPost_ret (v := .tuple #[headV ⟨0, 0, 0, 0, 0⟩, .int .i64 0, .bool false]) (by simp [results, Try.results61, go_sem, x0, x1, x2, x3, x4, headV]) rfl hf.2
  have tk : ((kind : Int) != 0) = false := by simp; omega
  have hbs : body.size = size := by rw [hbody, ← dlen, extract_list, List.length_take, List.length_drop, HD4.out, List.length_drop]; omega
  have hbl : body.data.toList = ((L.drop 4).drop 4).take size := by rw [hbody, extract_list, HD4.out]; congr 1; omega
  have HBL : Hid (body.data.toList = ((L.drop 4).drop 4).take size) := hbl
  have HPB : Hid (pBlock (bitsOf (L.drop 4)) = some ((ln, 0, size), bitsOf ((L.drop 4).drop 4))) := by rw [hk0] at hpb; exact hpb
  have HLAST : Hid (last = (ln == 1)) := hlast
  have hbs2 : body.size ≤ 6000 := by omega
  have HBS : Hid (body.size = size) := hbs
  clear hbody hbl hpb hlast hk0 hbs
  go_wp2_with fail
  refine (qreadinfo _ body hbs2).mono ?_
  rintro e w4 ⟨hg4, h, ok2, rfl, hcase⟩
  rw [HBL.out, HBS.out] at hcase
  have hrinv : RInv L res ok2 last h (4 + (4 + size)) (8 * L.length) := by
    rw [HLAST.out, HR2.out]
    exact rinv_first HPB.out (by omega) ok2 hcase
  have hgg4 := grown_trans hgg3 hg4
  have hbr4 := hbr3.kept hg4 (by simp)
  have hbF4 := hbF.kept hg4 (by simp)
  obtain ⟨w5, hw5⟩ : ∃ w5, w4.alloc (.cells (headC h) 77) = w5 := ⟨_, rfl⟩
  have hg5 : w4.grownBy w5 none := by rw [← hw5]; exact grown_alloc (grown_refl _ _) _
  have hgg5 := grown_trans hgg4 hg5
  have hbr5 := hbr4.kept hg5 (by simp)
  have hbF5 := hbF4.kept hg5 (by simp)
  obtain ⟨gI, hgI⟩ : ∃ gI, w4.heap.size = gI := ⟨_, rfl⟩
  have hbI : Box w5 gI (headC h) 77 := by rw [← hgI, ← hw5]; exact Box.new _ _ _
  have HW5 : Hid (w4.alloc (.cells #[Value.int .i64 h.block, .int .i64 h.rate, .int .i64 h.channels, .int .i64 h.bits, .int .i64 h.total] 77) = w5) := hw5
  have HGI : Hid (w4.heap.size = gI) := hgI
  have hwI : w.heap.size ≠ gI := by have := hbr4.lt; omega
  clear hw5 hgI hgg4 hbr4 hbF4 hg5 hg4 hgg3 hbr3 hbF k0 k1 k2 z0 z1 z2 z3 z4 y0 y1 y2 y3 y4 hcase
  unfold headV
  go_upto_region 8 with fail
  rw [HW5.out, HGI.out]
  clear HW5 HGI
  have k0 : w5.cell? ⟨gF, 0, none⟩ = some (.bool last) := hbF5.cell 0
  have k1 : w5.cell? ⟨gF, 1, none⟩ = some (.int .i64 kind) := hbF5.cell 1
  have k2 : w5.cell? ⟨gF, 2, none⟩ = some (.string body) := hbF5.cell 2
  have hg6 : w5.grownBy (w5.alloc (.cells #[Value.bool last, .int .i64 kind, .string body] 137)) none := grown_alloc (grown_refl _ _) _
  have hgg6 := grown_trans hgg5 hg6
  have hbr6 := hbr5.kept hg6 (by simp)
  have hbI6 := hbI.kept hg6 (by simp)
  have hbB6 := Box.new w5 #[Value.bool last, .int .i64 kind, .string body] 137
  have hlt5 := hbr5.lt
  have hltI := hbI.lt
  clear hg6 hgg5 hbr5 hbI
  go_wp2_with fail
  go_loopg [5, 7, 9] (8 * L.length) (fun gk t5 t7 t9 wr => ∃ (a : Nat) (ok last : Bool) (kind : Nat) (body : ByteArray) (gB : Nat), t5 = .int .i64 a ∧ t7 = .bool ok ∧ t9 = .pointer (some ⟨gB, 0, none⟩) ∧ w.grownBy wr none ∧
      Box wr w.heap.size #[Value.int .i64 0, .int .i64 0, .int .i64 0, .int .i64 0, .int .i64 0] 77 ∧ Box wr gI (headC h) 77 ∧ Box wr gB #[Value.bool last, .int .i64 kind, .string body] 137 ∧ w.heap.size < gB ∧ w.heap.size ≠ gI ∧ gI ≠ gB ∧ a ≤ 20000 ∧ body.size ≤ 6000 ∧ RInv L res ok last h a gk)
  case atStart => exact ⟨4 + (4 + size), ok2, last, kind, body, w5.heap.size, by rw [HBS.out]; go_num, rfl, rfl, hgg6, hbr6, hbI6, hbB6, hlt5, hwI, by omega, by omega, hbs2, hrinv⟩
  case round =>
    clear hgg6 hbr6 hbI6 hbB6 k0 k1 k2 hrinv hbF5 HLAST HPB HBS HBL tk hkind hln hbs2 hroom hlt5 hltI hwI
    obtain ⟨a, ok, last, kind, body, gB, rfl, rfl, rfl, hgr, hbr, hbI, hbB, hwB, hwI, hIB, ha, hbsz, hinv⟩ := hrel
    have z0 : wr.cell? ⟨w.heap.size, 0, none⟩ = some (.int .i64 0) := hbr.cell 0
    have z1 : wr.cell? ⟨w.heap.size, 1, none⟩ = some (.int .i64 0) := hbr.cell 1
    have z2 : wr.cell? ⟨w.heap.size, 2, none⟩ = some (.int .i64 0) := hbr.cell 2
    have z3 : wr.cell? ⟨w.heap.size, 3, none⟩ = some (.int .i64 0) := hbr.cell 3
    have z4 : wr.cell? ⟨w.heap.size, 4, none⟩ = some (.int .i64 0) := hbr.cell 4
    have y0 := hbr.fz 0
    have y1 := hbr.fz 1
    have y2 := hbr.fz 2
    have y3 := hbr.fz 3
    have y4 := hbr.fz 4
    have k0 : wr.cell? ⟨gB, 0, none⟩ = some (.bool last) := hbB.cell 0
    cases ok with
    | false =>
      have hnone : pBlocks (bitsOf d.data.toList) = none := by
        rw [HL.out, HRES.out]
        rcases hinv with ⟨_, e⟩ | ⟨e, _⟩
        · exact e
        · cases e
      have hf := read_err hgr hbr hnone
      clear hnone hinv
      go_wp2
      generalize (World.setCell _ ⟨w.heap.size, 4, none⟩ (Value.int .i64 0)) = wf at hf ⊢
      have x0 := hf.1.cell 0
      have x1 := hf.1.cell 1
      have x2 := hf.1.cell 2
      have x3 := hf.1.cell 3
      have x4 := hf.1.cell 4
      exact bodyPost_ret (v := .tuple #[headV ⟨0, 0, 0, 0, 0⟩, .int .i64 0, .bool false]) (by simp [results, Try.results61, go_sem, x0, x1, x2, x3, x4, headV]) rfl hf.2
    | true =>
      cases last with
      | true =>
        have hfact : a ≤ d.size ∧ pBlocks (bitsOf d.data.toList) = some (h, bitsOf (d.data.toList.drop a)) := by
          rw [HL.out, HRES.out]
          rcases hinv with ⟨e, _⟩ | ⟨_, hle, ⟨_, hr⟩ | ⟨e, _⟩⟩
          · cases e
          · exact ⟨by omega, hr⟩
          · cases e
        have h5 := five_stores wr w.heap.size _ _ _ _ _ _ (.int .i64 h.block) (.int .i64 h.rate) (.int .i64 h.channels) (.int .i64 h.bits) (.int .i64 h.total) hbr
        have hpost : ∀ wf, wr.grownBy wf (some w.heap.size) → ReadPost w d (.returned (.tuple #[headV h, .int .i64 a, .bool true])) wf := fun wf hgf =>
          ⟨grown_new hgr hgf (fun q e => by injection e with e; omega), h, a, true, rfl, .inl ⟨rfl, hfact.1, hfact.2⟩⟩
        have e0 : wr.cell? ⟨gI, 0, none⟩ = some (.int .i64 h.block) := hbI.cell 0
        have e1 : wr.cell? ⟨gI, 1, none⟩ = some (.int .i64 h.rate) := hbI.cell 1
        have e2 : wr.cell? ⟨gI, 2, none⟩ = some (.int .i64 h.channels) := hbI.cell 2
        have e3 : wr.cell? ⟨gI, 3, none⟩ = some (.int .i64 h.bits) := hbI.cell 3
        have e4 : wr.cell? ⟨gI, 4, none⟩ = some (.int .i64 h.total) := hbI.cell 4
        clear hfact hinv
        go_wp2
        generalize (World.setCell _ _ (Value.int .i64 h.total)) = wf at h5 ⊢
        have x0 := h5.1.cell 0
        have x1 := h5.1.cell 1
        have x2 := h5.1.cell 2
        have x3 := h5.1.cell 3
        have x4 := h5.1.cell 4
        exact bodyPost_ret (v := .tuple #[headV h, .int .i64 a, .bool true]) (by simp [results, Try.results61, go_sem, x0, x1, x2, x3, x4, headV]) rfl (hpost wf h5.2)
      | false =>
        have hle : a ≤ d.size := by
          rcases hinv with ⟨e, _⟩ | ⟨_, hle, _⟩
          · cases e
          · omega
        have hgk : 0 < gk := by
          rcases hinv with ⟨e, _⟩ | ⟨_, hle, ⟨e, _⟩ | ⟨_, hlt, _⟩⟩
          · cases e
          · cases e
          · omega
        have hda : (d.extract a d.size).data.toList = L.drop a := by rw [extract_list, HL.out, List.take_of_length_le (by rw [List.length_drop]; omega)]
        have hsa : (d.extract a d.size).size = d.size - a := by rw [← dlen, hda, List.length_drop]; omega
        have HDA : Hid ((d.extract a d.size).data.toList = L.drop a) := hda
        clear hda z0 z1 z2 z3 z4 y0 y1 y2 y3 y4
        go_wp2_with fail
        refine (qreadblock _ (d.extract a d.size) (by omega)).mono ?_
        rintro e w7 ⟨hg7, last7, kind7, body7, ok7, rfl, hcase⟩
        rw [HDA.out, hsa] at hcase
        have hgg7 := grown_trans hgr hg7
        have hbr7 := hbr.kept hg7 (by simp)
        have hbI7 := hbI.kept hg7 (by simp)
        have hbB7 := hbB.kept hg7 (by simp)
        have h3 := three_cells w7 gB _ _ _ _ (.bool last7) (.int .i64 kind7) (.string body7) hbB7
        have j0 : w7.cell? ⟨gB, 0, none⟩ = some (.bool false) := hbB7.cell 0
        have j1 : w7.cell? ⟨gB, 1, none⟩ = some (.int .i64 kind) := hbB7.cell 1
        have j2 : w7.cell? ⟨gB, 2, none⟩ = some (.string body) := hbB7.cell 2
        have i0 := hbB7.fz 0
        have i1 := hbB7.fz 1
        have i2 := hbB7.fz 2
        clear k0 hbr hbI hbB hgr hg7
        go_upto_region 13 with fail
        obtain ⟨w8, hw8⟩ : ∃ w8, ((w7.setCell ⟨gB, 0, none⟩ (.bool last7)).setCell ⟨gB, 1, none⟩ (.int .i64 kind7)).setCell ⟨gB, 2, none⟩ (.string body7) = w8 := ⟨_, rfl⟩
        rw [hw8] at h3 ⊢
        have hgg8 := grown_new hgg7 h3.2 (fun q e => by injection e with e; omega)
        have hbr8 := hbr7.kept h3.2 (fun e => by injection e with e; omega)
        have hbI8 := hbI7.kept h3.2 (fun e => by injection e with e; omega)
        have hbB8 := h3.1
        clear hw8 h3 hgg7 hbr7 hbI7 hbB7 j0 j1 j2 i0 i1 i2
        have k0 : w8.cell? ⟨gB, 0, none⟩ = some (.bool last7) := hbB8.cell 0
        have k1 : w8.cell? ⟨gB, 1, none⟩ = some (.int .i64 kind7) := hbB8.cell 1
        have k2 : w8.cell? ⟨gB, 2, none⟩ = some (.string body7) := hbB8.cell 2
        rcases hcase with ⟨rfl, ln, size, hpb, hlast, hln, hkind, hbody, hroom⟩ | ⟨rfl, rfl, rfl, rfl, hno⟩
        · have hbs : body7.size = size := by rw [hbody, ← dlen, extract_list, List.length_take, List.length_drop, HDA.out, List.length_drop]; omega
          have hnext : RInv L res (follows kind7 body7.size) last7 h (a + (4 + body7.size)) (gk - 1) := by
            rw [hbs, hlast]
            exact rinv_next hinv hpb (by omega)
          have hbs2 : body7.size ≤ 6000 := by omega
          clear hbody hpb hlast hinv hbs hroom
          go_wp2_with fail
          refine (qfollow w8 last7 kind7 body7 hbs2 hkind).mono ?_
          rintro e w9 ⟨rfl, hg9⟩
          generalize follows kind7 body7.size = fo at hnext ⊢
          have hgg9 := grown_trans hgg8 hg9
          have hbr9 := hbr8.kept hg9 (by simp)
          have hbI9 := hbI8.kept hg9 (by simp)
          have hbB9 := hbB8.kept hg9 (by simp)
          have j0 : w9.cell? ⟨gB, 0, none⟩ = some (.bool last7) := hbB9.cell 0
          have j1 : w9.cell? ⟨gB, 1, none⟩ = some (.int .i64 kind7) := hbB9.cell 1
          have j2 : w9.cell? ⟨gB, 2, none⟩ = some (.string body7) := hbB9.cell 2
          have hga : w9.grownBy (w9.alloc (.cells #[Value.bool last7, .int .i64 kind7, .string body7] 137)) none := grown_alloc (grown_refl _ _) _
          have hggA := grown_trans hgg9 hga
          have hbrA := hbr9.kept hga (by simp)
          have hbIA := hbI9.kept hga (by simp)
          have hbBA := Box.new w9 #[Value.bool last7, .int .i64 kind7, .string body7] 137
          have hl1 := hbr9.lt
          have hl2 := hbI9.lt
          clear k0 k1 k2 hgg8 hbr8 hbI8 hbB8 hgg9 hbr9 hbI9 hbB9 hg9 hga
          go_wp2
          go_roundg (gk - 1)
          case measure => omega
          case rel => exact ⟨a + (4 + body7.size), fo, last7, kind7, body7, w9.heap.size, by go_num, rfl, rfl, hggA, hbrA, hbIA, hbBA, hl1, hwI, by omega, by omega, hbs2, hnext⟩
        · have hnext : RInv L res false false h (a + (4 + 0)) (gk - 1) := rinv_fail hinv hno
          have hga : w8.grownBy (w8.alloc (.cells #[Value.bool false, .int .i64 0, .string ⟨#[]⟩] 137)) none := grown_alloc (grown_refl _ _) _
          have hggA := grown_trans hgg8 hga
          have hbrA := hbr8.kept hga (by simp)
          have hbIA := hbI8.kept hga (by simp)
          have hbBA := Box.new w8 #[Value.bool false, .int .i64 0, .string ⟨#[]⟩] 137
          have hl1 := hbr8.lt
          have hl2 := hbI8.lt
          clear hgg8 hbr8 hbI8 hbB8 hga hno hinv
          go_wp2
          go_roundg (gk - 1)
          case measure => omega
          case rel => exact ⟨a + (4 + 0), false, false, 0, ⟨#[]⟩, w8.heap.size, by go_num, rfl, rfl, hggA, hbrA, hbIA, hbBA, hl1, hwI, by omega, by omega, by decide, hnext⟩
end Go.Proofs.Ytncmgnmcggkhnaa
