import Derived.Test.YtncmgnmcggkhnaaG14
import Derived.Test.YtncmgnmcggkhnaaG10
namespace Go.Proofs.Ytncmgnmcggkhnaa
open Go.RowKit

theorem Ends.pos {α : Type} {p : P α} {l r : List Bool} {x : α} (h : Ends p (some l) x (some r)) : p l = some (x, r) := by
  rcases h.cases with ⟨r', e, e2⟩ | ⟨_, e⟩
  · injection e2 with e2; rw [e, e2]
  · cases e

/-- the frame's first 24 bits, read at once -/
theorem num_split (m n : Nat) (l : List Bool) (h : m + n ≤ l.length) : val (l.take (m + n)) = val (l.take m) * 2 ^ n + val ((l.drop m).take n) := by
  rw [List.take_add]
  have key : ∀ (a b : List Bool), val (a ++ b) = val a * 2 ^ b.length + val b := by
    intro a b
    induction a with
    | nil => simp [val]
    | cons c a ih => rw [List.cons_append, val_cons, val_cons, ih, List.length_append, Nat.pow_add, Nat.add_mul, Nat.mul_assoc, Nat.add_assoc]
  rw [key, List.length_take, List.length_drop, Nat.min_eq_left (by omega)]

/-- the head of a frame, as it is read -/
def headOf (h : Head) (number : Nat) (bytes : List UInt8) (begin mode nought told n1 sum : Nat) : Bool :=
  decide (begin = 16775280) && decide (nought = 0) && decide (told = number) && decide (n1 + 1 ≤ h.block) && decide (chOf mode = h.channels) && decide (sum = crc 8 7 (bytes.take 7))

theorem head_vals {h : Head} {number begin mode nought told n1 sum : Nat} {bytes : List UInt8} {l l1 l2 l3 l4 l5 l6 : List Bool} (hc : h.channels = 1 ∨ h.channels = 2) (h1 : Ends (pNum 24) (some l) begin (some l1)) (h2 : Ends (pNum 4) (some l1) mode (some l2))
    (h3 : Ends (pNum 4) (some l2) nought (some l3)) (h4 : Ends (pNum 8) (some l3) told (some l4)) (h5 : Ends (pNum 16) (some l4) n1 (some l5)) (h6 : Ends (pNum 8) (some l5) sum (some l6)) :
    pHead h number bytes l = if headOf h number bytes begin mode nought told n1 sum = true then some ((mode, n1 + 1), l6) else none := by
  have a1 := num_left h1
  have e1 := h1.pos
  have e2 := h2.pos
  have e3 := h3.pos
  have e4 := h4.pos
  have e5 := h5.pos
  have e6 := h6.pos
  have hb : begin = val (l.take 16) * 256 + val ((l.drop 16).take 8) := by
    unfold pNum at e1
    rw [if_pos (by omega)] at e1
    injection e1 with e1
    injection e1 with e1 _
    rw [← e1]
    exact num_split 16 8 l (by omega)
  have hv1 : val (l.take 16) < 65536 := Nat.lt_of_lt_of_le (val_lt _) (by rw [List.length_take, Nat.min_eq_left (by omega)]; exact Nat.le_refl _)
  have hv2 : val ((l.drop 16).take 8) < 256 := Nat.lt_of_lt_of_le (val_lt _) (by rw [List.length_take, List.length_drop, Nat.min_eq_left (by omega)]; exact Nat.le_refl _)
  have p1 : pNum 16 l = some (val (l.take 16), l.drop 16) := by unfold pNum; rw [if_pos (by omega)]
  have p2 : pNum 8 (l.drop 16) = some (val ((l.drop 16).take 8), (l.drop 16).drop 8) := by unfold pNum; rw [if_pos (by rw [List.length_drop]; omega)]
  have hl1 : (l.drop 16).drop 8 = l1 := by rw [List.drop_drop, a1.2]
  rw [hl1] at p2
  have hmode := chOf_ok h.channels mode hc
  unfold pHead pMust headOf
  rw [p1]
  simp only [Option.bind_some]
  by_cases q1 : val (l.take 16) = 65528
  · rw [if_pos q1]
    simp only [Option.bind_some]
    rw [p2]
    simp only [Option.bind_some]
    by_cases q2 : val ((l.drop 16).take 8) = 112
    · rw [if_pos q2]
      have hbeg : begin = 16775280 := by rw [hb, q1, q2]
      simp only [Option.bind_some, e2, e3]
      by_cases q3 : nought = 0
      · rw [if_pos q3]
        simp only [Option.bind_some, e4]
        by_cases q4 : told = number
        · rw [if_pos q4]
          simp only [Option.bind_some, e5, e6]
          by_cases q5 : sum = crc 8 7 (bytes.take 7)
          · rw [if_pos q5]
            simp only [Option.bind_some]
            by_cases q6 : n1 + 1 ≤ h.block ∧ modeOk h.channels mode = true
            · rw [if_pos q6, if_pos (by simp [hbeg, q3, q4, q5, q6.1, hmode.2 q6.2])]
            · rw [if_neg q6, if_neg (fun hh => q6 (by simp at hh; exact ⟨by omega, hmode.1 (by omega)⟩))]
          · rw [if_neg q5, if_neg (fun hh => by simp at hh; omega)]
            rfl
        · rw [if_neg q4, if_neg (fun hh => by simp at hh; omega)]
          rfl
      · rw [if_neg q3, if_neg (fun hh => by simp at hh; omega)]
        rfl
    · rw [if_neg q2, if_neg (fun hh => by simp at hh; omega)]
      rfl
  · rw [if_neg q1, if_neg (fun hh => by simp at hh; omega)]
    rfl

theorem head_short {h : Head} {number : Nat} {bytes : List UInt8} {l : List Bool} (hl : l.length < 64) : pHead h number bytes l = none := by
  cases e : pHead h number bytes l with
  | none => rfl
  | some x => have := (pHead_left (x := x.1) (r := x.2) e).1; omega
end Go.Proofs.Ytncmgnmcggkhnaa

namespace Go.Proofs.Ytncmgnmcggkhnaa
open Go.RowKit

set_option maxHeartbeats 400000 in
theorem qwithin (w : World) (v a c : Int) :
    Calls Try.prog 98 #[.int .i64 v, .int .i64 a, .int .i64 c] w fun e w' => e = .returned (.bool (decide (a ≤ v) && decide (v ≤ c))) ∧ w' = w := by
  by_cases h1 : a ≤ v
  · by_cases h2 : v ≤ c
    · have d1 : decide (a ≤ v) = true := decide_eq_true h1
      have d2 : decide (v ≤ c) = true := decide_eq_true h2
      go_enter Try.func98, Try.ntmps98
      go_wp2
      go_ret
      exact ⟨by first | rfl | (rw [d1, d2]; rfl), rfl⟩
    · have d1 : decide (a ≤ v) = true := decide_eq_true h1
      have d2 : decide (v ≤ c) = false := decide_eq_false h2
      go_enter Try.func98, Try.ntmps98
      go_wp2
      go_ret
      exact ⟨by first | rfl | (rw [d1, d2]; rfl), rfl⟩
  · have d1 : decide (a ≤ v) = false := decide_eq_false h1
    go_enter Try.func98, Try.ntmps98
    go_wp2
    go_ret
    exact ⟨by first | rfl | (rw [d1]; rfl), rfl⟩

def mayBe (block rate channels bits total : Int) : Bool :=
  (decide (16 ≤ block) && decide (block ≤ 256)) && (decide (1 ≤ rate) && decide (rate ≤ 655350)) && (decide (1 ≤ channels) && decide (channels ≤ 2)) && (decide (4 ≤ bits) && decide (bits ≤ 16)) && (decide (0 ≤ total) && decide (total ≤ 1200))

set_option maxHeartbeats 1000000 in
theorem qmaybe (w : World) (block rate channels bits total : Int) :
    Calls Try.prog 69 #[.agg #[.int .i64 block, .int .i64 rate, .int .i64 channels, .int .i64 bits, .int .i64 total]] w fun e w' => e = .returned (.bool (mayBe block rate channels bits total)) ∧ w.grownBy w' none := by
  have hg : w.grownBy (w.alloc (.cells #[Value.int .i64 block, .int .i64 rate, .int .i64 channels, .int .i64 bits, .int .i64 total] 77)) none := grown_alloc (grown_refl _ _) _
  obtain ⟨p0, hp0⟩ : ∃ p0, (decide (16 ≤ block) && decide (block ≤ 256)) = p0 := ⟨_, rfl⟩
  obtain ⟨p1, hp1⟩ : ∃ p1, (decide (1 ≤ rate) && decide (rate ≤ 655350)) = p1 := ⟨_, rfl⟩
  obtain ⟨p2, hp2⟩ : ∃ p2, (decide (1 ≤ channels) && decide (channels ≤ 2)) = p2 := ⟨_, rfl⟩
  obtain ⟨p3, hp3⟩ : ∃ p3, (decide (4 ≤ bits) && decide (bits ≤ 16)) = p3 := ⟨_, rfl⟩
  obtain ⟨p4, hp4⟩ : ∃ p4, (decide (0 ≤ total) && decide (total ≤ 1200)) = p4 := ⟨_, rfl⟩
  have hm : mayBe block rate channels bits total = (p0 && p1 && p2 && p3 && p4) := by unfold mayBe; rw [hp0, hp1, hp2, hp3, hp4]
  rw [hm]
  have q0 := fun w => qwithin w block 16 256
  have q1 := fun w => qwithin w rate 1 655350
  have q2 := fun w => qwithin w channels 1 2
  have q3 := fun w => qwithin w bits 4 16
  have q4 := fun w => qwithin w total 0 1200
  rw [hp0] at q0
  rw [hp1] at q1
  rw [hp2] at q2
  rw [hp3] at q3
  rw [hp4] at q4
  clear hm hp0 hp1 hp2 hp3 hp4
  cases p0
  · go_enter Try.func69, Try.ntmps69
    go_wp2_with fail
    refine (q0 _).mono ?_
    rintro e w' ⟨rfl, rfl⟩
    go_wp2
    go_ret
    exact ⟨rfl, hg⟩
  · cases p1
    · go_enter Try.func69, Try.ntmps69
      go_wp2_with fail
      refine (q0 _).mono ?_
      rintro e w' ⟨rfl, rfl⟩
      go_wp2_with fail
      refine (q1 _).mono ?_
      rintro e w' ⟨rfl, rfl⟩
      go_wp2
      go_ret
      exact ⟨rfl, hg⟩
    · cases p2
      · go_enter Try.func69, Try.ntmps69
        go_wp2_with fail
        refine (q0 _).mono ?_
        rintro e w' ⟨rfl, rfl⟩
        go_wp2_with fail
        refine (q1 _).mono ?_
        rintro e w' ⟨rfl, rfl⟩
        go_wp2_with fail
        refine (q2 _).mono ?_
        rintro e w' ⟨rfl, rfl⟩
        go_wp2
        go_ret
        exact ⟨rfl, hg⟩
      · cases p3
        · go_enter Try.func69, Try.ntmps69
          go_wp2_with fail
          refine (q0 _).mono ?_
          rintro e w' ⟨rfl, rfl⟩
          go_wp2_with fail
          refine (q1 _).mono ?_
          rintro e w' ⟨rfl, rfl⟩
          go_wp2_with fail
          refine (q2 _).mono ?_
          rintro e w' ⟨rfl, rfl⟩
          go_wp2_with fail
          refine (q3 _).mono ?_
          rintro e w' ⟨rfl, rfl⟩
          go_wp2
          go_ret
          exact ⟨rfl, hg⟩
        · go_enter Try.func69, Try.ntmps69
          go_wp2_with fail
          refine (q0 _).mono ?_
          rintro e w' ⟨rfl, rfl⟩
          go_wp2_with fail
          refine (q1 _).mono ?_
          rintro e w' ⟨rfl, rfl⟩
          go_wp2_with fail
          refine (q2 _).mono ?_
          rintro e w' ⟨rfl, rfl⟩
          go_wp2_with fail
          refine (q3 _).mono ?_
          rintro e w' ⟨rfl, rfl⟩
          go_wp2_with fail
          refine (q4 _).mono ?_
          rintro e w' ⟨rfl, rfl⟩
          go_wp2
          go_ret
          exact ⟨rfl, hg⟩

/-- may a block of that kind and size follow? -/
def follows (kind size : Nat) : Bool := !(kind == 0) && !(kind == 127) && !(kind == 3 && !(size % 18 == 0))

set_option maxHeartbeats 1000000 in
theorem qfollow (w : World) (last : Bool) (kind : Nat) (body : ByteArray) (hb : body.size ≤ 6000) (hk : kind < 128) :
    Calls Try.prog 83 #[.agg #[.bool last, .int .i64 kind, .string body]] w fun e w' => e = .returned (.bool (follows kind body.size)) ∧ w.grownBy w' none := by
  have hg : w.grownBy (w.alloc (.cells #[Value.bool last, .int .i64 kind, .string body] 137)) none := grown_alloc (grown_refl _ _) _
  by_cases h0 : kind = 0
  · subst h0
    go_enter Try.func83, Try.ntmps83
    go_wp2
    go_ret
    exact ⟨rfl, hg⟩
  · by_cases h1 : kind = 127
    · subst h1
      go_enter Try.func83, Try.ntmps83
      go_wp2
      go_ret
      exact ⟨rfl, hg⟩
    · by_cases h3 : kind = 3
      · subst h3
        have hf : follows 3 body.size = (body.size % 18 == 0) := by unfold follows; simp
        rw [hf]
        have hr : (((body.size : Nat) : Int) % 18 == 0) = (body.size % 18 == 0) := by rw [Bool.eq_iff_iff]; simp; omega
        go_enter Try.func83, Try.ntmps83
        go_wp2
        go_ret
        exact ⟨by first | rw [hr] | rfl | (congr 2), hg⟩
      · have hf : follows kind body.size = true := by unfold follows; simp; omega
        rw [hf]
        have t0 : ((kind : Int) == 0) = false := by simp; omega
        have t1 : ((kind : Int) == 127) = false := by simp; omega
        have t3 : ((kind : Int) == 3) = false := by simp; omega
        clear h0 h1 h3
        go_enter Try.func83, Try.ntmps83
        go_wp2
        go_ret
        exact ⟨rfl, hg⟩
end Go.Proofs.Ytncmgnmcggkhnaa

namespace Go.Proofs.Ytncmgnmcggkhnaa
open Go.RowKit

def BlockPost (w : World) (d : ByteArray) (e : Ending) (w' : World) : Prop :=
  w.grownBy w' none ∧ ∃ (last : Bool) (kind : Nat) (body : ByteArray) (ok : Bool), e = .returned (.tuple #[.agg #[.bool last, .int .i64 kind, .string body], .bool ok]) ∧
    ((ok = true ∧ ∃ ln size, pBlock (bitsOf d.data.toList) = some ((ln, kind, size), bitsOf (d.data.toList.drop 4)) ∧ last = (ln == 1) ∧ ln < 2 ∧ kind < 128 ∧ body = d.extract 4 (4 + size) ∧ 4 + size ≤ d.size) ∨
     (ok = false ∧ last = false ∧ kind = 0 ∧ body = ⟨#[]⟩ ∧ ∀ x r, pBlock (bitsOf d.data.toList) = some (x, r) → r.length < 8 * x.2.2))

theorem block_rest {l r : List Bool} {x : Nat × Nat × Nat} (e : pBlock l = some (x, r)) : r = l.drop 32 := by
  unfold pBlock at e
  obtain ⟨⟨a1, r1⟩, e1, e⟩ := Option.bind_eq_some_iff.mp e
  obtain ⟨⟨a2, r2⟩, e2, e⟩ := Option.bind_eq_some_iff.mp e
  obtain ⟨⟨a3, r3⟩, e3, e⟩ := Option.bind_eq_some_iff.mp e
  injection e with e
  injection e with _ e
  subst e
  have h1 := (num_left (Ends.of e1)).2
  have h2 := (num_left (Ends.of e2)).2
  have h3 := (num_left (Ends.of e3)).2
  rw [h3, h2, h1, List.drop_drop, List.drop_drop]

theorem dlen (d : ByteArray) : d.data.toList.length = d.size := by simp

set_option maxHeartbeats 1000000 in
set_option maxRecDepth 20000 in
theorem qreadblock (w : World) (d : ByteArray) (hd : d.size ≤ 6000) :
    Calls Try.prog 81 #[.string d] w (BlockPost w d) := by
  go_enter Try.func81, Try.ntmps81
  go_wp2_with fail
  have hbr0 := Box.new w #[Value.bool false, .int .i64 0, .string ⟨#[]⟩] 137
  have hg0 : w.grownBy (w.alloc (.cells #[Value.bool false, .int .i64 0, .string ⟨#[]⟩] 137)) none := grown_alloc (grown_refl _ _) _
  refine (qnew _ d).mono ?_
  rintro e w1 ⟨rfl, hsp1, hg1, hsz1⟩
  have hgg1 := grown_trans hg0 hg1
  have hbr1 := hbr0.kept hg1 (by simp)
  obtain ⟨b, hb⟩ : ∃ b, (w.alloc (.cells #[Value.bool false, .int .i64 0, .string ⟨#[]⟩] 137)).heap.size = b := ⟨_, rfl⟩
  have hbw : b = w.heap.size + 1 := by rw [← hb]; simp
  rw [hb] at hsp1
  rw [hb]
  have hne : some w.heap.size ≠ some b := fun e => by injection e with e; omega
  have hbw' : w.heap.size < b := by omega
  clear hbr0 hg0 hg1 hb hsz1 hbw
  go_wp2_with fail
  refine (qnum _ _ _ 1 _ hd (by omega) hsp1).mono ?_
  rintro e w2 ⟨ln, σ2, rfl, hln0, -, hg2, hsp2, hends2⟩
  have hln : ln < 2 := hln0
  have hgg2 := grown_new hgg1 hg2 (fun g e => by injection e with e; omega)
  have hbr2 := hbr1.kept hg2 hne
  clear hbr1 hgg1 hg2 hsp1 hln0
  go_wp2_with fail
  refine (qnum _ _ _ 7 _ hd (by omega) hsp2).mono ?_
  rintro e w3 ⟨kind, σ3, rfl, hkind0, -, hg3, hsp3, hends3⟩
  have hkind : kind < 128 := hkind0
  have hgg3 := grown_new hgg2 hg3 (fun g e => by injection e with e; omega)
  have hbr3 := hbr2.kept hg3 hne
  clear hbr2 hgg2 hg3 hsp2 hkind0
  go_wp2_with fail
  refine (qnum _ _ _ 24 _ hd (by omega) hsp3).mono ?_
  rintro e w4 ⟨size, σ4, rfl, hsize0, -, hg4, hsp4, hends4⟩
  have hsize : size < 16777216 := hsize0
  have hgg4 := grown_new hgg3 hg4 (fun g e => by injection e with e; omega)
  have hbr4 := hbr3.kept hg4 hne
  clear hbr3 hgg3 hg4 hsp3 hsize0
  have hblk := block_ends hends2 hends3 hends4
  clear hends2 hends3 hends4
  go_wp2_with fail
  refine (qover _ _ _ _ hsp4).mono ?_
  rintro e w5 ⟨rfl, rfl⟩
  have z0 : w5.cell? ⟨w.heap.size, 0, none⟩ = some (.bool false) := hbr4.cell 0
  have z1 : w5.cell? ⟨w.heap.size, 1, none⟩ = some (.int .i64 0) := hbr4.cell 1
  have z2 : w5.cell? ⟨w.heap.size, 2, none⟩ = some (.string ⟨#[]⟩) := hbr4.cell 2
  have y0 := hbr4.fz 0
  have y1 := hbr4.fz 1
  have y2 := hbr4.fz 2
  have hbad : (∀ x r, pBlock (bitsOf d.data.toList) = some (x, r) → r.length < 8 * x.2.2) → ∀ wf, w5.grownBy wf (some w.heap.size) → BlockPost w d (.returned (.tuple #[.agg #[.bool false, .int .i64 0, .string ⟨#[]⟩], .bool false])) wf := by
    intro hn wf hgf
    exact ⟨grown_new hgg4 hgf (fun g e => by injection e with e; omega), false, 0, ⟨#[]⟩, false, rfl, .inr ⟨rfl, rfl, rfl, rfl, hn⟩⟩
  have h3 := three_cells w5 w.heap.size _ _ _ _ (.bool false) (.int .i64 0) (.string ⟨#[]⟩) hbr4
  rcases σ4 with _ | r
  · have hno : ∀ x r, pBlock (bitsOf d.data.toList) = some (x, r) → r.length < 8 * x.2.2 := by
      intro x r e
      rcases hblk.cases with ⟨r', _, e'⟩ | ⟨e', _⟩
      · cases e'
      · rw [e'] at e; cases e
    have hf := hbad hno
    clear hbad hno hblk
    go_wp2
    generalize (World.setCell _ _ (Value.string ⟨#[]⟩)) = wf at h3 ⊢
    have x0 := h3.1.cell 0
    have x1 := h3.1.cell 1
    have x2 := h3.1.cell 2
    exact bodyPost_ret (v := .tuple #[.agg #[.bool false, .int .i64 0, .string ⟨#[]⟩], .bool false]) (by simp [results, Try.results81, go_sem, x0, x1, x2]) rfl (hf wf h3.2)
  · have hpb : pBlock (bitsOf d.data.toList) = some ((ln, kind, size), r) := by
      rcases hblk.cases with ⟨r', e, e'⟩ | ⟨_, e'⟩
      · injection e' with e'; rw [e, e']
      · cases e'
    have hleft := block_left hpb
    have hrest := block_rest hpb
    rw [show (32 : Nat) = 8 * 4 by rfl, bitsOf_drop] at hrest
    rw [bitsOf_length, dlen] at hleft
    have hd4 : 4 ≤ d.size := by omega
    by_cases hbig : d.size < 4 + size
    · have hno : ∀ x r, pBlock (bitsOf d.data.toList) = some (x, r) → r.length < 8 * x.2.2 := by
        intro x r' e
        rw [hpb] at e
        injection e with e
        injection e with e1 e2
        subst e1
        subst e2
        show _ < 8 * size
        omega
      have hf := hbad hno
      have tt : decide (((d.size : Int) - 4) < (size : Int)) = true := decide_eq_true (by omega)
      clear hbad hno hblk hpb hrest
      go_wp2
      generalize (World.setCell _ _ (Value.string ⟨#[]⟩)) = wf at h3 ⊢
      have x0 := h3.1.cell 0
      have x1 := h3.1.cell 1
      have x2 := h3.1.cell 2
      exact bodyPost_ret (v := .tuple #[.agg #[.bool false, .int .i64 0, .string ⟨#[]⟩], .bool false]) (by simp [results, Try.results81, go_sem, x0, x1, x2]) rfl (hf wf h3.2)
    · have tt : decide (((d.size : Int) - 4) < (size : Int)) = false := decide_eq_false (by omega)
      have h3' := three_cells w5 w.heap.size _ _ _ _ (.bool ((ln : Int) == 1)) (.int .i64 kind) (.string (d.extract 4 (4 + size))) hbr4
      have hf : ∀ wf, w5.grownBy wf (some w.heap.size) → BlockPost w d (.returned (.tuple #[.agg #[.bool ((ln : Int) == 1), .int .i64 kind, .string (d.extract 4 (4 + size))], .bool true])) wf := by
        intro wf hgf
        refine ⟨grown_new hgg4 hgf (fun g e => by injection e with e; omega), _, kind, _, true, rfl, .inl ⟨rfl, ln, size, by rw [hpb, hrest], ?_, hln, hkind, rfl, by omega⟩⟩
        rw [Bool.eq_iff_iff]; simp; omega
      clear hbad hblk hpb hrest h3
      go_wp2
      generalize (World.setCell _ _ (Value.string (d.extract 4 (4 + size)))) = wf at h3' ⊢
      have x0 := h3'.1.cell 0
      have x1 := h3'.1.cell 1
      have x2 := h3'.1.cell 2
      exact bodyPost_ret (v := .tuple #[.agg #[.bool ((ln : Int) == 1), .int .i64 kind, .string (d.extract 4 (4 + size))], .bool true]) (by simp [results, Try.results81, go_sem, x0, x1, x2]) rfl (hf wf h3'.2)
end Go.Proofs.Ytncmgnmcggkhnaa

namespace Go.Proofs.Ytncmgnmcggkhnaa
open Go.RowKit

theorem num_twice {m n a b : Nat} {σ σ1 σ2 : Option (List Bool)} (h1 : Ends (pNum m) σ a σ1) (h2 : Ends (pNum n) σ1 b σ2) : ∃ v, Ends (pNum (m + n)) σ v σ2 := by
  cases σ with
  | none => exact ⟨0, by have : σ1 = none := h1; subst this; exact h2⟩
  | some l =>
    rcases h1.cases with ⟨r1, e1, rfl⟩ | ⟨e1, rfl⟩
    · have l1 := num_left h1
      rcases h2.cases with ⟨r2, e2, rfl⟩ | ⟨e2, rfl⟩
      · have l2 := num_left h2
        refine ⟨val (l.take (m + n)), Ends.of ?_⟩
        unfold pNum
        rw [if_pos (by omega), l2.2, l1.2, List.drop_drop]
      · refine ⟨0, Ends.fail (fun l0 e => ?_)⟩
        cases e
        unfold pNum at e2 ⊢
        split at e2
        · cases e2
        · rw [if_neg (by omega)]
    · have h0 : σ2 = none := h2
      subst h0
      refine ⟨0, Ends.fail (fun l0 e => ?_)⟩
      cases e
      unfold pNum at e1 ⊢
      split at e1
      · cases e1
      · rw [if_neg (by omega)]

theorem num_alive {n v : Nat} {l : List Bool} {σ' : Option (List Bool)} (h : Ends (pNum n) (some l) v σ') (hn : n ≤ l.length) : σ' = some (l.drop n) := by
  rcases h.cases with ⟨r, e, rfl⟩ | ⟨e, _⟩
  · rw [(num_left h).2]
  · unfold pNum at e
    rw [if_pos hn] at e
    cases e

theorem info_dead {l : List Bool} (h : ∀ x, Ends pInfo (some l) x none) : pInfo l = none := by
  rcases (h ⟨0, 0, 0, 0, 0⟩).cases with ⟨r, _, e⟩ | ⟨e, _⟩
  · cases e
  · exact e

theorem info_vals {l : List Bool} {least most v4 v5 rate ch bt total : Nat} {σ1 σ2 σ3 σ4 σ5 σ6 σ7 σ8 : Option (List Bool)} (hl : l.length = 272) (h1 : Ends (pNum 16) (some l) least σ1) (h2 : Ends (pNum 16) σ1 most σ2)
    (h3 : Ends (pNum 24) σ2 v4 σ3) (h4 : Ends (pNum 24) σ3 v5 σ4) (h5 : Ends (pNum 20) σ4 rate σ5) (h6 : Ends (pNum 3) σ5 ch σ6) (h7 : Ends (pNum 5) σ6 bt σ7) (h8 : Ends (pNum 36) σ7 total σ8) :
    (least = most → headOk ⟨most, rate, ch + 1, bt + 1, total⟩ = true → pInfo l = some (⟨most, rate, ch + 1, bt + 1, total⟩, [])) ∧
      (least ≠ most ∨ headOk ⟨most, rate, ch + 1, bt + 1, total⟩ = false → pInfo l = none) := by
  obtain rfl := num_alive h1 (by omega)
  have l1 : (l.drop 16).length = 256 := by rw [List.length_drop]; omega
  obtain rfl := num_alive h2 (by omega)
  have l2 : ((l.drop 16).drop 16).length = 240 := by rw [List.length_drop]; omega
  obtain rfl := num_alive h3 (by omega)
  have l3 : (((l.drop 16).drop 16).drop 24).length = 216 := by rw [List.length_drop]; omega
  obtain rfl := num_alive h4 (by omega)
  have l4 : ((((l.drop 16).drop 16).drop 24).drop 24).length = 192 := by rw [List.length_drop]; omega
  obtain ⟨v48, h48⟩ := num_twice h3 h4
  obtain rfl := num_alive h5 (by omega)
  have l5 : (((((l.drop 16).drop 16).drop 24).drop 24).drop 20).length = 172 := by rw [List.length_drop]; omega
  obtain rfl := num_alive h6 (by omega)
  have l6 : ((((((l.drop 16).drop 16).drop 24).drop 24).drop 20).drop 3).length = 169 := by rw [List.length_drop]; omega
  obtain rfl := num_alive h7 (by omega)
  have l7 : (((((((l.drop 16).drop 16).drop 24).drop 24).drop 20).drop 3).drop 5).length = 164 := by rw [List.length_drop]; omega
  obtain rfl := num_alive h8 (by omega)
  have l8 : ((((((((l.drop 16).drop 16).drop 24).drop 24).drop 20).drop 3).drop 5).drop 36).length = 128 := by rw [List.length_drop]; omega
  generalize ((((((((l.drop 16).drop 16).drop 24).drop 24).drop 20).drop 3).drop 5).drop 36) = m at h8 l8
  have h128 : Ends (pNum 128) (some m) (val (m.take 128)) (some []) := Ends.of (by
    unfold pNum
    rw [if_pos (by omega), List.drop_of_length_le (by omega)])
  by_cases he : least = most
  · subst he
    have hc := info_chain h1 (must_yes h2 rfl) h48 h5 h6 h7 h8 h128
    refine ⟨fun _ hok => ?_, fun hno => info_dead (hc.2 (.inl (hno.resolve_left (fun hh => hh rfl))))⟩
    rcases (hc.1 hok).cases with ⟨r, e, e2⟩ | ⟨_, e⟩
    · injection e2 with e2
      rw [e, e2]
    · cases e
  · have hc := info_chain (σ8 := none) (v48 := 0) (rate := rate) (ch := ch) (bt := bt) (total := total) (v128 := 0) h1 (must_no h2 (fun e => he e.symm)) (σ3 := none) rfl (σ4 := none) rfl (σ5 := none) rfl (σ6 := none) rfl (σ7 := none) rfl rfl
    exact ⟨fun e => absurd e he, fun _ => info_dead (hc.2 (.inr rfl))⟩

def InfoPost (w : World) (d : ByteArray) (e : Ending) (w' : World) : Prop :=
  w.grownBy w' none ∧ ∃ (h : Head) (ok : Bool), e = .returned (.tuple #[headV h, .bool ok]) ∧
    ((ok = true ∧ d.size = 34 ∧ pInfo (bitsOf d.data.toList) = some (h, [])) ∨ (ok = false ∧ (d.size = 34 → pInfo (bitsOf d.data.toList) = none)))

theorem maybe_ok (block rate ch bits total : Nat) (hc : 1 ≤ ch) : mayBe block rate ch bits total = headOk ⟨block, rate, ch, bits, total⟩ := by
  rw [Bool.eq_iff_iff]
  unfold mayBe headOk
  simp
  omega

set_option maxHeartbeats 4000000 in
set_option maxRecDepth 20000 in
theorem qreadinfo (w : World) (d : ByteArray) (hd : d.size ≤ 6000) :
    Calls Try.prog 82 #[.string d] w (InfoPost w d) := by
  have hg0 : w.grownBy (w.alloc (.cells #[Value.int .i64 0, .int .i64 0, .int .i64 0, .int .i64 0, .int .i64 0] 77)) none := grown_alloc (grown_refl _ _) _
  by_cases h34 : d.size = 34
  rotate_left
  · have t34 : ((d.size : Int) != 34) = true := by simp; omega
    have HN : Hid (¬ d.size = 34) := h34
    clear h34
    go_enter Try.func82, Try.ntmps82
    go_wp2
    exact bodyPost_ret (v := .tuple #[headV ⟨0, 0, 0, 0, 0⟩, .bool false]) (by simp [results, Try.results82, go_sem, headV]) rfl ⟨hg0, _, false, rfl, .inr ⟨rfl, fun e => absurd e HN.out⟩⟩
  have t34 : ((d.size : Int) != 34) = false := by simp; omega
  have hbl : (bitsOf d.data.toList).length = 272 := by rw [total_bits]; omega
  obtain ⟨l, hl⟩ : ∃ l, bitsOf d.data.toList = l := ⟨_, rfl⟩
  have hnew := fun w => qnew w d
  rw [hl] at hbl hnew
  have HL : Hid (bitsOf d.data.toList = l) := hl
  have H34 : Hid (d.size = 34) := h34
  clear h34 hl
  go_enter Try.func82, Try.ntmps82
  go_wp2_with fail
  have hbr0 := Box.new w #[Value.int .i64 0, .int .i64 0, .int .i64 0, .int .i64 0, .int .i64 0] 77
  refine (hnew _).mono ?_
  rintro e w1 ⟨rfl, hsp1, hg1, hsz1⟩
  have hgg1 := grown_trans hg0 hg1
  have hbr1 := hbr0.kept hg1 (by simp)
  obtain ⟨b, hb⟩ : ∃ b, (w.alloc (.cells #[Value.int .i64 0, .int .i64 0, .int .i64 0, .int .i64 0, .int .i64 0] 77)).heap.size = b := ⟨_, rfl⟩
  have hbw : b = w.heap.size + 1 := by rw [← hb]; simp
  rw [hb] at hsp1
  rw [hb]
  have hne : some w.heap.size ≠ some b := fun e => by injection e with e; omega
  have hbw' : w.heap.size < b := by omega
  clear hbr0 hg0 hg1 hb hsz1 hbw hnew
  go_wp2_with fail
  refine (qnum _ _ _ 16 _ hd (by omega) hsp1).mono ?_
  rintro e w2 ⟨least, σ2, rfl, hleast0, -, hg2, hsp2, hends1⟩
  have hleast : least < 65536 := hleast0
  have hgg2 := grown_new hgg1 hg2 (fun g e => by injection e with e; omega)
  have hbr2 := hbr1.kept hg2 hne
  clear hbr1 hgg1 hg2 hsp1 hleast0
  go_wp2_with fail
  refine (qnum _ _ _ 16 _ hd (by omega) hsp2).mono ?_
  rintro e w3 ⟨most, σ3, rfl, hmost0, -, hg3, hsp3, hends2⟩
  have hmost : most < 65536 := hmost0
  have hgg3 := grown_new hgg2 hg3 (fun g e => by injection e with e; omega)
  have hbr3 := hbr2.kept hg3 hne
  clear hbr2 hgg2 hg3 hsp2 hmost0
  go_wp2_with fail
  refine (qnum _ _ _ 24 _ hd (by omega) hsp3).mono ?_
  rintro e w4 ⟨v4, σ4, rfl, hv4, -, hg4, hsp4, hends3⟩
  have hgg4 := grown_new hgg3 hg4 (fun g e => by injection e with e; omega)
  have hbr4 := hbr3.kept hg4 hne
  clear hbr3 hgg3 hg4 hsp3 hv4
  go_wp2_with fail
  refine (qnum _ _ _ 24 _ hd (by omega) hsp4).mono ?_
  rintro e w5 ⟨v5, σ5, rfl, hv5, -, hg5, hsp5, hends4⟩
  have hgg5 := grown_new hgg4 hg5 (fun g e => by injection e with e; omega)
  have hbr5 := hbr4.kept hg5 hne
  clear hbr4 hgg4 hg5 hsp4 hv5
  obtain ⟨g, hg⟩ : ∃ g, w5.heap.size = g := ⟨_, rfl⟩
  have hbg : b < g := by rw [← hg]; exact hsp5.lt
  have hbh5 := Box.new w5 #[Value.int .i64 most, .int .i64 0, .int .i64 0, .int .i64 0, .int .i64 0] 77
  have hga := grown_alloc (grown_refl w5 none) (.cells #[Value.int .i64 most, .int .i64 0, .int .i64 0, .int .i64 0, .int .i64 0] 77)
  have hsp5a := hsp5.kept hga (by simp)
  have hbr5a := hbr5.kept hga (by simp)
  have hgg5a := grown_trans hgg5 hga
  rw [hg] at hbh5
  have HG : Hid (w5.heap.size = g) := hg
  have hng : some g ≠ some b := fun e => by injection e with e; omega
  clear hg hsp5 hbr5 hgg5 hga
  go_wp2_with fail
  refine (qnum _ _ _ 20 _ hd (by omega) hsp5a).mono ?_
  rintro e w6 ⟨rate, σ6, rfl, hrate0, -, hg6, hsp6, hends5⟩
  rw [HG.out]
  have hrate : rate < 1048576 := hrate0
  have hgg6 := grown_new hgg5a hg6 (fun g e => by injection e with e; omega)
  have hbr6 := hbr5a.kept hg6 hne
  have hbh6 := hbh5.kept hg6 hng
  clear hbr5a hbh5 hgg5a hg6 hsp5a hrate0
  have c6 : w6.cell? ⟨g, 1, none⟩ = some (.int .i64 0) := hbh6.cell 1
  have f6 := hbh6.fz 1
  have hs6 := grown_set w6 g 1 (.int .i64 rate)
  have hbh6s : Box (w6.setCell ⟨g, 1, none⟩ (.int .i64 rate)) g #[Value.int .i64 most, .int .i64 rate, .int .i64 0, .int .i64 0, .int .i64 0] 77 := hbh6.set 1 _
  have hbr6s := hbr6.kept hs6 (fun e => by injection e with e; omega)
  have hsp6s := hsp6.kept hs6 (fun e => by injection e with e; omega)
  have hgg6s := grown_new hgg6 hs6 (fun q e => by injection e with e; omega)
  clear hbh6 hbr6 hsp6 hgg6 hs6
  go_wp2_with fail
  refine (qnum _ _ _ 3 _ hd (by omega) hsp6s).mono ?_
  rintro e w7 ⟨ch, σ7, rfl, hch0, -, hg7, hsp7, hends6⟩
  have hch : ch < 8 := hch0
  have hgg7 := grown_new hgg6s hg7 (fun g e => by injection e with e; omega)
  have hbr7 := hbr6s.kept hg7 hne
  have hbh7 := hbh6s.kept hg7 hng
  clear hbr6s hbh6s hgg6s hg7 hsp6s hch0 c6 f6
  have c7 : w7.cell? ⟨g, 2, none⟩ = some (.int .i64 0) := hbh7.cell 2
  have f7 := hbh7.fz 2
  have hs7 := grown_set w7 g 2 (.int .i64 ((ch : Int) + 1))
  have hbh7s : Box (w7.setCell ⟨g, 2, none⟩ (.int .i64 ((ch : Int) + 1))) g #[Value.int .i64 most, .int .i64 rate, .int .i64 ((ch : Int) + 1), .int .i64 0, .int .i64 0] 77 := hbh7.set 2 _
  have hbr7s := hbr7.kept hs7 (fun e => by injection e with e; omega)
  have hsp7s := hsp7.kept hs7 (fun e => by injection e with e; omega)
  have hgg7s := grown_new hgg7 hs7 (fun q e => by injection e with e; omega)
  clear hbh7 hbr7 hsp7 hgg7 hs7
  go_wp2_with fail
  refine (qnum _ _ _ 5 _ hd (by omega) hsp7s).mono ?_
  rintro e w8 ⟨bt, σ8, rfl, hbt0, -, hg8, hsp8, hends7⟩
  have hbt : bt < 32 := hbt0
  have hgg8 := grown_new hgg7s hg8 (fun g e => by injection e with e; omega)
  have hbr8 := hbr7s.kept hg8 hne
  have hbh8 := hbh7s.kept hg8 hng
  clear hbr7s hbh7s hgg7s hg8 hsp7s hbt0 c7 f7
  have c8 : w8.cell? ⟨g, 3, none⟩ = some (.int .i64 0) := hbh8.cell 3
  have f8 := hbh8.fz 3
  have hs8 := grown_set w8 g 3 (.int .i64 ((bt : Int) + 1))
  have hbh8s : Box (w8.setCell ⟨g, 3, none⟩ (.int .i64 ((bt : Int) + 1))) g #[Value.int .i64 most, .int .i64 rate, .int .i64 ((ch : Int) + 1), .int .i64 ((bt : Int) + 1), .int .i64 0] 77 := hbh8.set 3 _
  have hbr8s := hbr8.kept hs8 (fun e => by injection e with e; omega)
  have hsp8s := hsp8.kept hs8 (fun e => by injection e with e; omega)
  have hgg8s := grown_new hgg8 hs8 (fun q e => by injection e with e; omega)
  clear hbh8 hbr8 hsp8 hgg8 hs8
  go_wp2_with fail
  refine (qnum _ _ _ 36 _ hd (by omega) hsp8s).mono ?_
  rintro e w9 ⟨total, σ9, rfl, htot0, -, hg9, hsp9, hends8⟩
  have htot : total < 68719476736 := htot0
  have hgg9 := grown_new hgg8s hg9 (fun g e => by injection e with e; omega)
  have hbr9 := hbr8s.kept hg9 hne
  have hbh9 := hbh8s.kept hg9 hng
  clear hbr8s hbh8s hgg8s hg9 hsp8s htot0 c8 f8
  have c9 : w9.cell? ⟨g, 4, none⟩ = some (.int .i64 0) := hbh9.cell 4
  have f9 := hbh9.fz 4
  have hs9 := grown_set w9 g 4 (.int .i64 total)
  have hbh9s : Box (w9.setCell ⟨g, 4, none⟩ (.int .i64 total)) g #[Value.int .i64 most, .int .i64 rate, .int .i64 ((ch : Int) + 1), .int .i64 ((bt : Int) + 1), .int .i64 total] 77 := hbh9.set 4 _
  have hbr9s := hbr9.kept hs9 (fun e => by injection e with e; omega)
  have hgg9s := grown_new hgg9 hs9 (fun q e => by injection e with e; omega)
  obtain ⟨wa, hwa⟩ : ∃ wa, w9.setCell ⟨g, 4, none⟩ (.int .i64 total) = wa := ⟨_, rfl⟩
  go_upto_region 13 with fail
  rw [hwa] at hbh9s hbr9s hgg9s
  clear hwa hbh9 hbr9 hgg9 hs9 hsp9 c9 f9
  have hpi := info_vals hbl hends1 hends2 hends3 hends4 hends5 hends6 hends7 hends8
  clear hends1 hends2 hends3 hends4 hends5 hends6 hends7 hends8
  have e0 : wa.cell? ⟨g, 0, none⟩ = some (.int .i64 most) := hbh9s.cell 0
  have e1 : wa.cell? ⟨g, 1, none⟩ = some (.int .i64 rate) := hbh9s.cell 1
  have e2 : wa.cell? ⟨g, 2, none⟩ = some (.int .i64 ((ch : Int) + 1)) := hbh9s.cell 2
  have e3 : wa.cell? ⟨g, 3, none⟩ = some (.int .i64 ((bt : Int) + 1)) := hbh9s.cell 3
  have e4 : wa.cell? ⟨g, 4, none⟩ = some (.int .i64 total) := hbh9s.cell 4
  have z0 : wa.cell? ⟨w.heap.size, 0, none⟩ = some (.int .i64 0) := hbr9s.cell 0
  have z1 : wa.cell? ⟨w.heap.size, 1, none⟩ = some (.int .i64 0) := hbr9s.cell 1
  have z2 : wa.cell? ⟨w.heap.size, 2, none⟩ = some (.int .i64 0) := hbr9s.cell 2
  have z3 : wa.cell? ⟨w.heap.size, 3, none⟩ = some (.int .i64 0) := hbr9s.cell 3
  have z4 : wa.cell? ⟨w.heap.size, 4, none⟩ = some (.int .i64 0) := hbr9s.cell 4
  have y0 := hbr9s.fz 0
  have y1 := hbr9s.fz 1
  have y2 := hbr9s.fz 2
  have y3 := hbr9s.fz 3
  have y4 := hbr9s.fz 4
  have hwg : w.heap.size < g := by omega
  by_cases he : least = most
  · have te : ((least : Int) == (most : Int)) = true := by simp; omega
    have HE : Hid (least = most) := he
    have hpost : ∀ wf, w.grownBy wf none → InfoPost w d (.returned (.tuple #[headV ⟨most, rate, ch + 1, bt + 1, total⟩, .bool (mayBe most rate ((ch : Int) + 1) ((bt : Int) + 1) total)])) wf := by
      intro wf hgf
      have hmb : mayBe most rate ((ch : Int) + 1) ((bt : Int) + 1) total = headOk ⟨most, rate, ch + 1, bt + 1, total⟩ := maybe_ok most rate (ch + 1) (bt + 1) total (by omega)
      rw [hmb]
      refine ⟨hgf, _, _, rfl, ?_⟩
      rw [HL.out]
      cases hok : headOk ⟨most, rate, ch + 1, bt + 1, total⟩ with
      | true => exact .inl ⟨rfl, H34.out, hpi.1 he hok⟩
      | false => exact .inr ⟨rfl, fun _ => hpi.2 (.inr hok)⟩
    clear he hpi
    have E0 : Hid (wa.cell? ⟨g, 0, none⟩ = some (.int .i64 most)) := e0
    have E1 : Hid (wa.cell? ⟨g, 1, none⟩ = some (.int .i64 rate)) := e1
    have E2 : Hid (wa.cell? ⟨g, 2, none⟩ = some (.int .i64 ((ch : Int) + 1))) := e2
    have E3 : Hid (wa.cell? ⟨g, 3, none⟩ = some (.int .i64 ((bt : Int) + 1))) := e3
    have E4 : Hid (wa.cell? ⟨g, 4, none⟩ = some (.int .i64 total)) := e4
    have Z0 : Hid (wa.cell? ⟨w.heap.size, 0, none⟩ = some (.int .i64 0)) := z0
    have Z1 : Hid (wa.cell? ⟨w.heap.size, 1, none⟩ = some (.int .i64 0)) := z1
    have Z2 : Hid (wa.cell? ⟨w.heap.size, 2, none⟩ = some (.int .i64 0)) := z2
    have Z3 : Hid (wa.cell? ⟨w.heap.size, 3, none⟩ = some (.int .i64 0)) := z3
    have Z4 : Hid (wa.cell? ⟨w.heap.size, 4, none⟩ = some (.int .i64 0)) := z4
    have HBR : Hid (Box wa w.heap.size #[Value.int .i64 0, .int .i64 0, .int .i64 0, .int .i64 0, .int .i64 0] 77) := hbr9s
    go_region_with ((go_at_call 69; refine (qmaybe _ _ _ _ _ _).mono ?_; rintro e wb ⟨rfl, hgb⟩; have k0 : wb.cell? ⟨g, 0, none⟩ = some (.int .i64 most) := hgb.cell E0.out (by simp); have k1 : wb.cell? ⟨g, 1, none⟩ = some (.int .i64 rate) := hgb.cell E1.out (by simp); have k2 : wb.cell? ⟨g, 2, none⟩ = some (.int .i64 ((ch : Int) + 1)) := hgb.cell E2.out (by simp); have k3 : wb.cell? ⟨g, 3, none⟩ = some (.int .i64 ((bt : Int) + 1)) := hgb.cell E3.out (by simp); have k4 : wb.cell? ⟨g, 4, none⟩ = some (.int .i64 total) := hgb.cell E4.out (by simp); have j0 : wb.cell? ⟨w.heap.size, 0, none⟩ = some (.int .i64 0) := hgb.cell Z0.out (by simp); have j1 : wb.cell? ⟨w.heap.size, 1, none⟩ = some (.int .i64 0) := hgb.cell Z1.out (by simp); have j2 : wb.cell? ⟨w.heap.size, 2, none⟩ = some (.int .i64 0) := hgb.cell Z2.out (by simp); have j3 : wb.cell? ⟨w.heap.size, 3, none⟩ = some (.int .i64 0) := hgb.cell Z3.out (by simp); have j4 : wb.cell? ⟨w.heap.size, 4, none⟩ = some (.int .i64 0) := hgb.cell Z4.out (by simp); have hbrb := Box.kept HBR.out (show wa.grownBy wb none from ⟨hgb.os, hgb.tape, hgb.output, hgb.size, hgb.block⟩) (by simp); have i0 := hbrb.fz 0; have i1 := hbrb.fz 1; have i2 := hbrb.fz 2; have i3 := hbrb.fz 3; have i4 := hbrb.fz 4))
    all_goals
      have h5 := five_stores wb w.heap.size _ _ _ _ _ _ (.int .i64 most) (.int .i64 rate) (.int .i64 ((ch : Int) + 1)) (.int .i64 ((bt : Int) + 1)) (.int .i64 total) hbrb
      go_wp2
      generalize (World.setCell _ _ (Value.int .i64 total)) = wf at h5 ⊢
      have x0 := h5.1.cell 0
      have x1 := h5.1.cell 1
      have x2 := h5.1.cell 2
      have x3 := h5.1.cell 3
      have x4 := h5.1.cell 4
      exact bodyPost_ret (v := .tuple #[headV ⟨most, rate, ch + 1, bt + 1, total⟩, .bool (mayBe most rate ((ch : Int) + 1) ((bt : Int) + 1) total)]) (by simp [results, Try.results82, go_sem, x0, x1, x2, x3, x4, headV]) rfl (hpost wf (grown_new (grown_new hgg9s (show wa.grownBy wb none from ⟨hgb.os, hgb.tape, hgb.output, hgb.size, hgb.block⟩) (fun q e => by cases e)) h5.2 (fun q e => by injection e with e; omega)))
  · have te : ((least : Int) == (most : Int)) = false := by simp; omega
    have HE : Hid (¬ least = most) := he
    have hpost : ∀ wf, w.grownBy wf none → InfoPost w d (.returned (.tuple #[headV ⟨most, rate, ch + 1, bt + 1, total⟩, .bool false])) wf := by
      intro wf hgf
      refine ⟨hgf, _, _, rfl, .inr ⟨rfl, fun _ => ?_⟩⟩
      rw [HL.out]
      exact hpi.2 (.inl he)
    clear he hpi
    go_region_with fail
    all_goals
      have h5 := five_stores wa w.heap.size _ _ _ _ _ _ (.int .i64 most) (.int .i64 rate) (.int .i64 ((ch : Int) + 1)) (.int .i64 ((bt : Int) + 1)) (.int .i64 total) hbr9s
      go_wp2
      generalize (World.setCell _ _ (Value.int .i64 total)) = wf at h5 ⊢
      have x0 := h5.1.cell 0
      have x1 := h5.1.cell 1
      have x2 := h5.1.cell 2
      have x3 := h5.1.cell 3
      have x4 := h5.1.cell 4
      exact bodyPost_ret (v := .tuple #[headV ⟨most, rate, ch + 1, bt + 1, total⟩, .bool false]) (by simp [results, Try.results82, go_sem, x0, x1, x2, x3, x4, headV]) rfl (hpost _ (grown_drew (grown_new hgg9s h5.2 (fun q e => by injection e with e; omega))))
end Go.Proofs.Ytncmgnmcggkhnaa
