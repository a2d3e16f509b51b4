import Derived.Test.YtncmgnmcggkhnaaG25
import Derived.Test.YtncmgnmcggkhnaaG12
import Derived.Test.YtncmgnmcggkhnaaG11
namespace Go.Proofs.Ytncmgnmcggkhnaa
open Go.RowKit

/-- two writings, one behind the other -/
theorem WPost.next {w w1 : World} {gw base : Nat} {v v1 : Value} {L B C : List Bool} {e : Ending} {w' : World} (h1 : Wrote w w1 gw v v1) (h2 : WPost w1 gw base v1 (L ++ B) C e w') : WPost w gw base v L (B ++ C) e w' := by
  obtain ⟨he, v', hs, hw⟩ := h2
  exact ⟨he, v', by rw [← List.append_assoc]; exact hs, h1.trans hw⟩

set_option maxHeartbeats 1000000 in
set_option maxRecDepth 20000 in
theorem qwkind (w : World) (gw base : Nat) (va : Value) (L : List Bool) (k : Nat) (h : WrS w gw base va L) (hb : base ≤ w.heap.size) (hL : L.length + 8 ≤ 1099511627776) (hk : k < 64) :
    Calls Try.prog 101 #[.pointer (some ⟨gw, 0, none⟩), .int .i64 k] w (WPost w gw base va L (kindBits k)) := by
  have H1 : Calls _ _ #[_, .int .i64 0, .int .i64 1] _ _ := qwnum w gw base va L ((0 : Nat) : Int) 1 h hb (by omega) (by omega) (by omega)
  go_enter Try.func101, Try.ntmps101
  go_wp2_with fail
  refine H1.mono ?_
  rintro e w1 ⟨rfl, v1, hs1, hw1⟩
  have hl1 : (L ++ numBits ((0 : Nat) : Int) 1).length = L.length + 1 := by rw [List.length_append, numBits_length]
  have hb1 := Nat.le_trans hb hw1.kp.size
  have H2 : Calls _ _ #[_, .int .i64 k, .int .i64 6] _ _ := qwnum w1 gw base v1 _ (k : Int) 6 hs1 hb1 (by omega) (by omega) (by omega)
  go_wp2_with fail
  refine H2.mono ?_
  rintro e w2 ⟨rfl, v2, hs2, hw2⟩
  have hl2 : ((L ++ numBits ((0 : Nat) : Int) 1) ++ numBits (k : Int) 6).length = L.length + 7 := by rw [List.length_append, numBits_length]; omega
  have hb2 := Nat.le_trans hb1 hw2.kp.size
  have H3 : Calls _ _ #[_, .int .i64 0, .int .i64 1] _ _ := qwnum w2 gw base v2 _ ((0 : Nat) : Int) 1 hs2 hb2 (by omega) (by omega) (by omega)
  go_wp2_with fail
  refine H3.mono ?_
  rintro e w3 hp3
  have hp := WPost.next hw1 (WPost.next hw2 hp3)
  obtain rfl := hp3.1
  clear hl1 hl2 H1 H2 H3 hp3
  go_wp2
  exact bodyPost_end (v := .tuple #[]) (by simp [results, Try.results101, go_sem]) rfl hp

theorem listBits_take_succ (wide : Nat) (xs : List Int) (k : Nat) (h : k < xs.length) : listBits wide (xs.take (k + 1)) = listBits wide (xs.take k) ++ numBits (xs.getD k 0) wide := by
  rw [take_succ_getD xs k h]
  unfold listBits
  simp

set_option maxHeartbeats 1000000 in
set_option maxRecDepth 20000 in
theorem qwlist (w : World) (gw base : Nat) (va u : Value) (L : List Bool) (D : Nat → Prop) (xs : List Int) (wide : Nat) (h : WrS w gw base va L) (hb : base ≤ w.heap.size) (hL : L.length ≤ 549755813888) (hw : wide ≤ 20) (hl : xs.length ≤ 4096) (hx : ∀ x ∈ xs, -1048576 ≤ x ∧ x ≤ 1048576)
    (hu : LoD w D u xs) (hD : Disj D w gw va) :
    Calls Try.prog 102 #[.pointer (some ⟨gw, 0, none⟩), u, .int .i64 wide] w (WPost w gw base va L (listBits wide xs)) := by
  obtain ⟨a, c, rfl⟩ := hu.lo.slice
  go_enter Try.func102, Try.ntmps102
  go_wp2_with fail
  go_loopg [10] xs.length (fun gk t10 wr => ∃ k : Nat, gk + k = xs.length ∧ t10 = .int .i64 k ∧ ∃ v', WrS wr gw base v' (L ++ listBits wide (xs.take k)) ∧ Wrote w wr gw va v')
  case atStart => exact ⟨0, rfl, rfl, va, by simpa [listBits] using h, Wrote.refl _ _ _⟩
  case round =>
    obtain ⟨k, hgk, rfl, v', hs, hwr⟩ := hrel
    by_cases hlt : k < xs.length
    · have hur := hu.wrote hD hwr
      obtain ⟨bb, oo, rfl, hcell⟩ := hur.lo.at k hlt
      obtain ⟨x, hxk⟩ : ∃ x, xs.getD k 0 = x := ⟨_, rfl⟩
      have hxb : -1048576 ≤ x ∧ x ≤ 1048576 := by rw [← hxk]; exact hx _ (by simp [List.getD, hlt])
      have HLB : Hid (listBits wide (xs.take (k + 1)) = listBits wide (xs.take k) ++ numBits x wide) := by show _ = _; rw [listBits_take_succ wide xs k hlt, hxk]
      have hll : (L ++ listBits wide (xs.take k)).length ≤ L.length + 81920 := by
        rw [List.length_append, listBits_length, List.length_take]
        have : min k xs.length * wide ≤ 4096 * 20 := Nat.mul_le_mul (by omega) hw
        omega
      have hbr := Nat.le_trans hb hwr.kp.size
      have HN := qwnum wr gw base v' _ x wide hs hbr (by omega) (by omega) (by omega)
      rw [hxk] at hcell
      clear hxk hll h
      go_wp2_with (go_at_call 72; refine HN.mono ?_; rintro e w2 ⟨rfl, v2, hs2, hwr2⟩)
      go_roundg (gk - 1)
      case measure => omega
      case rel => exact ⟨k + 1, by omega, by go_num, v2, by rw [HLB.out, ← List.append_assoc]; exact hs2, hwr.trans hwr2⟩
    · have hkn : k = xs.length := by omega
      subst hkn
      rw [List.take_length] at hs
      have hp : WPost w gw base va L (listBits wide xs) (.returned (.tuple #[])) wr := ⟨rfl, v', hs, hwr⟩
      clear hs hwr hgk h
      go_wp2
      exact bodyPost_end (v := .tuple #[]) (by simp [results, Try.results102, go_sem]) rfl hp

theorem rice_take_succ (q : Nat) (xs : List Int) (k : Nat) (h : k < xs.length) : (xs.take (k + 1)).flatMap (riceBits q) = (xs.take k).flatMap (riceBits q) ++ riceBits q (xs.getD k 0) := by
  rw [take_succ_getD xs k h]
  simp

set_option maxHeartbeats 2000000 in
set_option maxRecDepth 20000 in
theorem qwres (w : World) (gw base : Nat) (va u : Value) (L : List Bool) (D : Nat → Prop) (xs : List Int) (h : WrS w gw base va L) (hb : base ≤ w.heap.size) (hL : L.length ≤ 274877906944) (hl : xs.length ≤ 4096) (hx : ∀ x ∈ xs, -1048576 ≤ x ∧ x ≤ 1048576)
    (hu : LoD w D u xs) (hD : Disj D w gw va) :
    Calls Try.prog 103 #[.pointer (some ⟨gw, 0, none⟩), u] w (WPost w gw base va L (resBits (bestK xs) xs)) := by
  obtain ⟨a, c, rfl⟩ := hu.lo.slice
  have HK : Calls _ _ #[.int .i64 0] _ _ := qkbits w 0 (by omega)
  have HBK := qbestk w _ xs hl hx hu.lo
  obtain ⟨q, hq⟩ : ∃ q, bestK xs = q := ⟨_, rfl⟩
  have hq14 : q ≤ 14 := by rw [← hq]; exact bestK_le xs
  rw [hq] at HBK ⊢
  clear hq
  have H1 : Calls _ _ #[_, .int .i64 0, .int .i64 2] _ _ := qwnum w gw base va L ((0 : Nat) : Int) 2 h hb (by omega) (by omega) (by omega)
  go_enter Try.func103, Try.ntmps103
  go_wp2_with (first
    | (go_at_call 115; refine HK.mono ?_; rintro e w0 ⟨rfl, rfl⟩)
    | (go_at_call 116; refine HBK.mono ?_; rintro e w0 ⟨rfl, rfl⟩))
  refine H1.mono ?_
  rintro e w1 ⟨rfl, v1, hs1, hw1⟩
  have hl1 : (L ++ numBits ((0 : Nat) : Int) 2).length = L.length + 2 := by rw [List.length_append, numBits_length]
  have hb1 := Nat.le_trans hb hw1.kp.size
  have H2 : Calls _ _ #[_, .int .i64 0, .int .i64 4] _ _ := qwnum w1 gw base v1 _ ((0 : Nat) : Int) 4 hs1 hb1 (by omega) (by omega) (by omega)
  go_wp2_with fail
  refine H2.mono ?_
  rintro e w2 ⟨rfl, v2, hs2, hw2⟩
  have hl2 : ((L ++ numBits ((0 : Nat) : Int) 2) ++ numBits ((0 : Nat) : Int) 4).length = L.length + 6 := by rw [List.length_append, numBits_length]; omega
  have hb2 := Nat.le_trans hb1 hw2.kp.size
  have H3 : Calls _ _ #[_, .int .i64 q, .int .i64 4] _ _ := qwnum w2 gw base v2 _ (q : Int) 4 hs2 hb2 (by omega) (by omega) (by omega)
  go_wp2_with fail
  refine H3.mono ?_
  rintro e w3 ⟨rfl, v3, hs3, hw3⟩
  have hl3 : (((L ++ numBits ((0 : Nat) : Int) 2) ++ numBits ((0 : Nat) : Int) 4) ++ numBits (q : Int) 4).length = L.length + 10 := by rw [List.length_append, numBits_length]; omega
  have hb3 := Nat.le_trans hb2 hw3.kp.size
  have hw13 := hw1.trans (hw2.trans hw3)
  obtain ⟨L3, hL3⟩ : ∃ L3, ((L ++ numBits ((0 : Nat) : Int) 2) ++ numBits ((0 : Nat) : Int) 4) ++ numBits (q : Int) 4 = L3 := ⟨_, rfl⟩
  rw [hL3] at hs3 hl3
  have HL3 : Hid (L ++ (numBits ((0 : Nat) : Int) 2 ++ (numBits ((0 : Nat) : Int) 4 ++ numBits (q : Int) 4)) = L3) := by show _ = _; rw [← hL3]; simp [List.append_assoc]
  have hu3 := hu.wrote hD hw13
  have hD3 := hD.wrote hw13
  clear hs1 hs2 hl1 hl2 H1 H2 H3 hw1 hw2 hw3 hL3 hb1 hb2 HK HBK h
  have hmin : min q 64 = q := by omega
  go_wp2_with fail
  go_loopg [25] xs.length (fun gk t25 wr => ∃ k : Nat, gk + k = xs.length ∧ t25 = .int .i64 k ∧ ∃ v', WrS wr gw base v' (L3 ++ (xs.take k).flatMap (riceBits q)) ∧ Wrote w3 wr gw v3 v')
  case atStart => exact ⟨0, rfl, rfl, v3, by simpa using hs3, Wrote.refl _ _ _⟩
  case round =>
    obtain ⟨k, hgk, rfl, v', hs, hwr⟩ := hrel
    by_cases hlt : k < xs.length
    · have hur := hu3.wrote hD3 hwr
      obtain ⟨bb, oo, rfl, hcell⟩ := hur.lo.at k hlt
      obtain ⟨x, hxk⟩ : ∃ x, xs.getD k 0 = x := ⟨_, rfl⟩
      have hxb : -1048576 ≤ x ∧ x ≤ 1048576 := by rw [← hxk]; exact hx _ (by simp [List.getD, hlt])
      have HLB : Hid ((xs.take (k + 1)).flatMap (riceBits q) = (xs.take k).flatMap (riceBits q) ++ riceBits q x) := by show _ = _; rw [rice_take_succ q xs k hlt, hxk]
      have hll : (L3 ++ (xs.take k).flatMap (riceBits q)).length ≤ L.length + 10 + 17179869184 := by
        rw [List.length_append, partLen_eq, hl3]
        have h1 := partLen_le q (by omega) (xs.take k) (fun x hxx => hx x (List.mem_of_mem_take hxx))
        rw [List.length_take] at h1
        omega
      have hbr := Nat.le_trans hb3 hwr.kp.size
      have HF := qfold wr x (by omega)
      have hf2 := fold1_le (M := 1048576) hxb
      obtain ⟨y, hy⟩ : ∃ y, fold1 x = y := ⟨_, rfl⟩
      obtain ⟨d, hd⟩ : ∃ d, y / 2 ^ q = d := ⟨_, rfl⟩
      have hdu : d ≤ y := by rw [← hd]; exact Nat.div_le_self _ _
      rw [hy] at HF hf2
      have hdiv : (y : Int) / 2 ^ q = (d : Int) := by
        have e : (2 : Int) ^ q = ((2 ^ q : Nat) : Int) := by simp
        rw [e, ← Int.natCast_ediv, hd]
      have HRB : Hid (riceBits q x = zerosBits d ++ numBits (y : Int) q) := by show _ = _; unfold riceBits; rw [hy, hd]
      have HZ := qwzeros wr gw base v' _ d hs hbr (by omega)
      rw [hxk] at hcell
      clear hxk hy hd
      go_wp2_with (first
        | (go_at_call 117; refine HF.mono ?_; rintro e w4 ⟨rfl, rfl⟩)
        | (go_at_call 118; refine HZ.mono ?_; rintro e w5 ⟨rfl, v5, hs5, hw5⟩))
      have hl5 : ((L3 ++ (xs.take k).flatMap (riceBits q)) ++ zerosBits d).length ≤ L.length + 10 + 17179869184 + (d + 1) := by
        rw [List.length_append]
        have : (zerosBits d).length = d + 1 := by unfold zerosBits; simp
        omega
      have HN := qwnum w5 gw base v5 _ (y : Int) q hs5 (Nat.le_trans hbr hw5.kp.size) (by omega) (by omega) (by omega)
      clear hll hl5
      refine HN.mono ?_
      rintro e w6 ⟨rfl, v6, hs6, hw6⟩
      go_wp2
      go_roundg (gk - 1)
      case measure => omega
      case rel => exact ⟨k + 1, by omega, by go_num, v6, by rw [HLB.out, HRB.out, ← List.append_assoc, ← List.append_assoc]; exact hs6, hwr.trans (hw5.trans hw6)⟩
    · have hkn : k = xs.length := by omega
      subst hkn
      rw [List.take_length] at hs
      have hp : WPost w0 gw base va L (resBits q xs) (.returned (.tuple #[])) wr := by
        refine ⟨rfl, v', ?_, hw13.trans hwr⟩
        rw [← HL3.out] at hs
        unfold resBits
        simpa [List.append_assoc] using hs
      clear hs hwr hgk
      go_wp2
      exact bodyPost_end (v := .tuple #[]) (by simp [results, Try.results103, go_sem]) rfl hp
end Go.Proofs.Ytncmgnmcggkhnaa

namespace Go.Proofs.Ytncmgnmcggkhnaa
open Go.RowKit

/-- a subframe in memory -/
def ESubV (w : World) (D : Nat → Prop) (sv : Value) : ESub → Prop
  | .inl x => sv = .iface 157 (.agg #[.int .i64 x])
  | .inr (.inl l) => ∃ v, sv = .iface 161 (.agg #[v]) ∧ LoD w D v l
  | .inr (.inr (f, r)) => ∃ vf vr, sv = .iface 164 (.agg #[vf, vr]) ∧ LoD w D vf f ∧ LoD w D vr r

/-- its numbers are small -/
def ESmall : ESub → Prop
  | .inl x => -1048576 ≤ x ∧ x ≤ 1048576
  | .inr (.inl l) => l.length ≤ 4096 ∧ ∀ x ∈ l, -1048576 ≤ x ∧ x ≤ 1048576
  | .inr (.inr (f, r)) => f.length ≤ 4 ∧ (∀ x ∈ f, -1048576 ≤ x ∧ x ≤ 1048576) ∧ r.length ≤ 4096 ∧ ∀ x ∈ r, -1048576 ≤ x ∧ x ≤ 1048576

theorem ESubV.kp {w w' : World} {D S : Nat → Prop} {sv : Value} {s : ESub} (h : ESubV w D sv s) (hk : Kp w w' S) (hn : ∀ b, D b → ¬ S b) : ESubV w' D sv s := by
  cases s using ESub.each with
  | alike x => exact h
  | plain l => obtain ⟨v, e, h1⟩ := h; exact ⟨v, e, h1.kp hk hn⟩
  | fixed f r => obtain ⟨vf, vr, e, h1, h2⟩ := h; exact ⟨vf, vr, e, h1.kp hk hn, h2.kp hk hn⟩

theorem ESubV.mono {w : World} {D D' : Nat → Prop} {sv : Value} {s : ESub} (h : ESubV w D sv s) (hd : ∀ b, D b → b < w.heap.size → D' b) : ESubV w D' sv s := by
  cases s using ESub.each with
  | alike x => exact h
  | plain l => obtain ⟨v, e, h1⟩ := h; exact ⟨v, e, h1.mono hd⟩
  | fixed f r => obtain ⟨vf, vr, e, h1, h2⟩ := h; exact ⟨vf, vr, e, h1.mono hd, h2.mono hd⟩

/-- new memory beside a writer -/
theorem WrS.grown {w w' : World} {gw base : Nat} {v : Value} {L : List Bool} (h : WrS w gw base v L) (hg : w.grownBy w' none) : WrS w' gw base v L :=
  ⟨h.box.kept hg (by simp), ownsRow_kp h.row (Kp.ofNone (S := fun _ => False) hg) (fun _ _ e => e), h.lt⟩
theorem Wrote.grown (w w' : World) (gw : Nat) (v : Value) (hg : w.grownBy w' none) : Wrote w w' gw v v := ⟨Kp.ofNone hg, fun _ h => .inl h⟩

theorem ta_aa (x : Int) (w : World) : (Instr.typeAssert (.iface 157 (.agg #[.int .i64 x])) 131 157 true).run Try.prog w = .ok (.tuple #[.agg #[.int .i64 x], .bool true]) w := by kernel_rfl
theorem ta_pa (v : Value) (w : World) : (Instr.typeAssert (.iface 161 (.agg #[v])) 131 157 true).run Try.prog w = .ok (.tuple #[.agg #[.int .i64 0], .bool false]) w := by kernel_rfl
theorem ta_pp (v : Value) (w : World) : (Instr.typeAssert (.iface 161 (.agg #[v])) 131 161 true).run Try.prog w = .ok (.tuple #[.agg #[v], .bool true]) w := by kernel_rfl
theorem ta_fa (v u : Value) (w : World) : (Instr.typeAssert (.iface 164 (.agg #[v, u])) 131 157 true).run Try.prog w = .ok (.tuple #[.agg #[.int .i64 0], .bool false]) w := by kernel_rfl
theorem ta_fp (v u : Value) (w : World) : (Instr.typeAssert (.iface 164 (.agg #[v, u])) 131 161 true).run Try.prog w = .ok (.tuple #[.agg #[.slice none 0 0], .bool false]) w := by kernel_rfl
theorem ta_ff (v u : Value) (w : World) : (Instr.typeAssert (.iface 164 (.agg #[v, u])) 131 164 true).run Try.prog w = .ok (.tuple #[.agg #[v, u], .bool true]) w := by kernel_rfl

set_option maxHeartbeats 2000000 in
set_option maxRecDepth 20000 in
theorem qwsub (w : World) (gw base : Nat) (va sv : Value) (L : List Bool) (D : Nat → Prop) (s : ESub) (wide : Nat) (h : WrS w gw base va L) (hb : base ≤ w.heap.size) (hL : L.length ≤ 137438953472) (hwd : wide ≤ 20) (hsm : ESmall s) (hs : ESubV w D sv s) (hD : Disj D w gw va) :
    Calls Try.prog 75 #[.pointer (some ⟨gw, 0, none⟩), sv, .int .i64 wide] w (WPost w gw base va L (subBits wide s)) := by
  have hkl : ∀ k, (L ++ kindBits k).length = L.length + 8 := fun k => by rw [List.length_append]; unfold kindBits; simp [numBits_length]
  cases s using ESub.each with
  | alike x =>
    have e : sv = .iface 157 (.agg #[.int .i64 x]) := hs
    have hx : -1048576 ≤ x ∧ x ≤ 1048576 := hsm
    subst e
    have t1 := ta_aa x
    obtain ⟨w0, hw0⟩ : ∃ w0, w.alloc (.cells #[.int .i64 x] 157) = w0 := ⟨_, rfl⟩
    have hg0 : w.grownBy w0 none := by rw [← hw0]; exact grown_alloc (grown_refl _ _) _
    have hbx : Box w0 w.heap.size #[.int .i64 x] 157 := by rw [← hw0]; exact Box.new _ _ _
    have h0 := h.grown hg0
    have hww0 := Wrote.grown w w0 gw va hg0
    have hb0 := Nat.le_trans hb hg0.size
    have HKD : Calls _ _ #[_, .int .i64 0] _ _ := qwkind w0 gw base va L 0 h0 hb0 (by omega) (by omega)
    have hgw : gw < w.heap.size := h.box.lt
    have hnow : ∀ q, va.ownBlock = some q → q < w.heap.size := fun q hq => (World.ownsRow.lt h.row q hq).2
    have HW0 : Hid (w.alloc (.cells #[.int .i64 x] 157) = w0) := hw0
    clear hw0 hsm hs hD h hg0
    go_enter Try.func75, Try.ntmps75
    go_upto_region 3 with fail
    rw [HW0.out]
    clear HW0
    go_wp2_with fail
    refine HKD.mono ?_
    rintro e w1 ⟨rfl, v1, hs1, hw1⟩
    have hbx1 := hbx.kp hw1.kp (fun e => by
      rcases e with e | e
      · omega
      · have := hnow _ e; omega)
    have c0 : w1.cell? ⟨w.heap.size, 0, none⟩ = some (.int .i64 x) := hbx1.cell 0
    have hk8 := hkl 0
    have HN := qwnum w1 gw base v1 _ x wide hs1 (Nat.le_trans hb0 hw1.kp.size) (by omega) (by omega) (by omega)
    clear hk8 hkl HKD
    go_wp2_with fail
    refine HN.mono ?_
    rintro e w2 hp2
    have hp : WPost w gw base va L (subBits wide (.alike x)) e w2 := WPost.next (hww0.trans hw1) hp2
    obtain rfl := hp2.1
    clear hp2 HN
    go_wp2
    exact bodyPost_end (v := .tuple #[]) (by simp [results, Try.results75, go_sem]) rfl hp
  | plain l =>
    obtain ⟨v, rfl, hlo⟩ := hs
    obtain ⟨hll, hx⟩ : l.length ≤ 4096 ∧ ∀ x ∈ l, -1048576 ≤ x ∧ x ≤ 1048576 := hsm
    obtain ⟨a, c, rfl⟩ := hlo.lo.slice
    have t1 := ta_pa (.slice a l.length c)
    have t2 := ta_pp (.slice a l.length c)
    obtain ⟨w0, hw0⟩ : ∃ w0, w.alloc (.cells #[.slice a l.length c] 161) = w0 := ⟨_, rfl⟩
    have hg0 : w.grownBy w0 none := by rw [← hw0]; exact grown_alloc (grown_refl _ _) _
    have hbx : Box w0 w.heap.size #[.slice a l.length c] 161 := by rw [← hw0]; exact Box.new _ _ _
    have h0 := h.grown hg0
    have hww0 := Wrote.grown w w0 gw va hg0
    have hb0 := Nat.le_trans hb hg0.size
    have HKD : Calls _ _ #[_, .int .i64 1] _ _ := qwkind w0 gw base va L 1 h0 hb0 (by omega) (by omega)
    have hgw : gw < w.heap.size := h.box.lt
    have hnow : ∀ q, va.ownBlock = some q → q < w.heap.size := fun q hq => (World.ownsRow.lt h.row q hq).2
    have HW0 : Hid (w.alloc (.cells #[.slice a l.length c] 161) = w0) := hw0
    clear hw0 h hg0
    go_enter Try.func75, Try.ntmps75
    go_upto_region 7 with fail
    rw [HW0.out]
    clear HW0
    go_wp2_with fail
    refine HKD.mono ?_
    rintro e w1 ⟨rfl, v1, hs1, hw1⟩
    have hbx1 := hbx.kp hw1.kp (fun e => by
      rcases e with e | e
      · omega
      · have := hnow _ e; omega)
    have c0 : w1.cell? ⟨w.heap.size, 0, none⟩ = some (.slice a l.length c) := hbx1.cell 0
    have hk8 := hkl 1
    have hw01 := hww0.trans hw1
    have HN := qwlist w1 gw base v1 _ _ D l wide hs1 (Nat.le_trans hb0 hw1.kp.size) (by omega) hwd hll hx (hlo.wrote hD hw01) (hD.wrote hw01)
    clear hk8 hkl HKD
    go_wp2_with fail
    refine HN.mono ?_
    rintro e w2 hp2
    have hp : WPost w gw base va L (subBits wide (.plain l)) e w2 := WPost.next hw01 hp2
    obtain rfl := hp2.1
    clear hp2 HN
    go_wp2
    exact bodyPost_end (v := .tuple #[]) (by simp [results, Try.results75, go_sem]) rfl hp
  | fixed f r =>
    obtain ⟨vf, vr, rfl, hlf, hlr⟩ := hs
    obtain ⟨hfl, hfx, hrl, hrx⟩ : f.length ≤ 4 ∧ (∀ x ∈ f, -1048576 ≤ x ∧ x ≤ 1048576) ∧ r.length ≤ 4096 ∧ ∀ x ∈ r, -1048576 ≤ x ∧ x ≤ 1048576 := hsm
    obtain ⟨a, c, rfl⟩ := hlf.lo.slice
    obtain ⟨a', c', rfl⟩ := hlr.lo.slice
    have t1 := ta_fa (.slice a f.length c) (.slice a' r.length c')
    have t2 := ta_fp (.slice a f.length c) (.slice a' r.length c')
    have t3 := ta_ff (.slice a f.length c) (.slice a' r.length c')
    obtain ⟨w0, hw0⟩ : ∃ w0, w.alloc (.cells #[.slice a f.length c, .slice a' r.length c'] 164) = w0 := ⟨_, rfl⟩
    have hg0 : w.grownBy w0 none := by rw [← hw0]; exact grown_alloc (grown_refl _ _) _
    have hbx : Box w0 w.heap.size #[.slice a f.length c, .slice a' r.length c'] 164 := by rw [← hw0]; exact Box.new _ _ _
    have h0 := h.grown hg0
    have hww0 := Wrote.grown w w0 gw va hg0
    have hb0 := Nat.le_trans hb hg0.size
    have HKD : Calls _ _ #[_, .int .i64 (8 + (f.length : Int))] _ _ := qwkind w0 gw base va L (8 + f.length) h0 hb0 (by omega) (by omega)
    have hgw : gw < w.heap.size := h.box.lt
    have hnow : ∀ q, va.ownBlock = some q → q < w.heap.size := fun q hq => (World.ownsRow.lt h.row q hq).2
    have HW0 : Hid (w.alloc (.cells #[.slice a f.length c, .slice a' r.length c'] 164) = w0) := hw0
    have k0 : w0.cell? ⟨w.heap.size, 0, none⟩ = some (.slice a f.length c) := hbx.cell 0
    clear hw0 h hg0
    go_enter Try.func75, Try.ntmps75
    go_upto_region 11 with fail
    rw [HW0.out]
    clear HW0
    go_wp2_with fail
    refine HKD.mono ?_
    rintro e w1 ⟨rfl, v1, hs1, hw1⟩
    have hbx1 := hbx.kp hw1.kp (fun e => by
      rcases e with e | e
      · omega
      · have := hnow _ e; omega)
    have c0 : w1.cell? ⟨w.heap.size, 0, none⟩ = some (.slice a f.length c) := hbx1.cell 0
    have hk8 := hkl (8 + f.length)
    have hw01 := hww0.trans hw1
    have hb1 := Nat.le_trans hb0 hw1.kp.size
    have hD1 := hD.wrote hw01
    have HN := qwlist w1 gw base v1 _ _ D f wide hs1 hb1 (by omega) hwd (by omega) hfx (hlf.wrote hD hw01) hD1
    clear k0 HKD
    go_wp2_with fail
    refine HN.mono ?_
    rintro e w2 ⟨rfl, v2, hs2, hw2⟩
    have hbx2 := hbx1.kp hw2.kp (fun e => by
      rcases e with e | e
      · omega
      · rcases hw01.own _ e with h1 | h1
        · have := hnow _ h1; omega
        · have h9 := hw1.own _ e
          rcases h9 with h2 | h2
          · have := hnow _ h2; omega
          · have := hbx.lt; omega)
    have c1 : w2.cell? ⟨w.heap.size, 1, none⟩ = some (.slice a' r.length c') := hbx2.cell 1
    have hw02 := hw01.trans hw2
    have hll2 : ((L ++ kindBits (8 + f.length)) ++ listBits wide f).length ≤ L.length + 88 := by
      rw [List.length_append, hk8, listBits_length]
      have : f.length * wide ≤ 4 * 20 := Nat.mul_le_mul hfl hwd
      omega
    have HR := qwres w2 gw base v2 _ _ D r hs2 (Nat.le_trans hb1 hw2.kp.size) (by omega) hrl hrx (hlr.wrote hD hw02) (hD.wrote hw02)
    clear hk8 hkl HN c0 hll2
    go_wp2_with fail
    refine HR.mono ?_
    rintro e w3 hp3
    have hp : WPost w gw base va L (subBits wide (.fixed f r)) e w3 := WPost.next hw01 (WPost.next hw2 hp3)
    obtain rfl := hp3.1
    clear hp3 HR
    go_wp2
    exact bodyPost_end (v := .tuple #[]) (by simp [results, Try.results75, go_sem]) rfl hp
end Go.Proofs.Ytncmgnmcggkhnaa

namespace Go.Proofs.Ytncmgnmcggkhnaa
open Go.RowKit

theorem miss_get (fs : List Int) : ∀ (xs acc : List Int) (i : Nat), i < xs.length → (miss fs acc xs).getD i 0 = xs.getD i 0 - dot fs ((xs.take i).reverse ++ acc)
  | [], _, _, h => by simp at h
  | x :: xs, acc, 0, _ => by simp [miss]
  | x :: xs, acc, i + 1, h => by
    have := miss_get fs xs (x :: acc) i (by simpa using h)
    simp only [miss, List.getD_cons_succ, List.take_succ_cons, List.reverse_cons, List.append_assoc, List.singleton_append]
    exact this

theorem miss_at (fs xs : List Int) (o i : Nat) (h : o + i < xs.length) : (miss fs (xs.take o).reverse (xs.drop o)).getD i 0 = xs.getD (o + i) 0 - dot fs (xs.take (o + i)).reverse := by
  rw [miss_get fs (xs.drop o) (xs.take o).reverse i (by rw [List.length_drop]; omega)]
  have e1 : (xs.drop o).getD i 0 = xs.getD (o + i) 0 := by simp [List.getD, List.getElem?_drop]
  have e2 : ((xs.drop o).take i).reverse ++ (xs.take o).reverse = (xs.take (o + i)).reverse := by
    rw [← List.reverse_append, List.take_add]
  rw [e1, e2]

def MissPost (w : World) (R : List Int) (e : Ending) (w' : World) : Prop := ∃ g, e = .returned (.slice (some ⟨g, 0, none⟩) R.length R.length) ∧ Row w' w.heap.size g R.length R.length R ∧ w.grownBy w' none

set_option maxHeartbeats 2000000 in
set_option maxRecDepth 20000 in
theorem qmissing (w : World) (b off cap : Nat) (xs : List Int) (o : Nat) (ho : o ≤ 4) (hol : o ≤ xs.length) (hxl : xs.length ≤ 256) (hcap : xs.length ≤ cap) (hab : Abs 65536 xs) (hc : ∀ i, i < xs.length → w.cell? ⟨b, off + i, none⟩ = some (.int .i64 (xs.getD i 0))) :
    Calls Try.prog 121 #[.slice (some ⟨b, off, none⟩) xs.length cap, .int .i64 o] w (MissPost w (miss (fixedFactors o) (xs.take o).reverse (xs.drop o))) := by
  obtain ⟨i0, hi, hz0, hz1, hz2⟩ := info_parts Try.info3
  have HFA := qfactors w o ho
  obtain ⟨hfa, hfl⟩ := fixed_abs2 o ho
  obtain ⟨n, hn⟩ : ∃ n, xs.length - o = n := ⟨_, rfl⟩
  have hnz : (xs.length : Int) - (o : Int) = (n : Int) := by omega
  obtain ⟨M, hM⟩ : ∃ M, miss (fixedFactors o) (xs.take o).reverse (xs.drop o) = M := ⟨_, rfl⟩
  have hMl : M.length = n := by rw [← hM, miss_length, List.length_drop]; exact hn
  have HMAT : Hid (∀ i, i < n → M.getD i 0 = xs.getD (o + i) 0 - dot (fixedFactors o) (xs.take (o + i)).reverse) := fun i hi => by rw [← hM]; exact miss_at _ _ _ _ (by omega)
  rw [hM]
  have HML : Hid (M.length = n) := hMl
  clear hM hMl
  go_enter Try.func121, Try.ntmps121
  go_wp2_with fail
  refine HFA.mono ?_
  rintro e w1 ⟨vf, rfl, hlf, hg1⟩
  obtain ⟨af, cf, rfl⟩ := hlf.slice
  have hc1 : ∀ i, i < xs.length → w1.cell? ⟨b, off + i, none⟩ = some (.int .i64 (xs.getD i 0)) := fun i hi => hg1.cell (hc i hi) (by simp)
  have HN : Hid (xs.length - o = n) := hn
  have HFL : Hid ((fixedFactors o).length = o) := hfl
  clear HFA hn hfl
  go_wp2_with (first
    | (at_make; refine wpList_make_full _ rfl _ _ 30 rfl w.heap.size 3 i0 (.int .i64 0) 1 Try.underlying30 hi hz0 hz1 _ _ _ _ n rfl rfl rfl rfl ?m1 ?m2 ?m3 ?_))
  case m1 => rw [hz2]; omega
  case m2 => unfold maxLen; omega
  case m3 => exact hg1.size
  intro w2 hmade hg2
  have hrow2 := made_row hmade
  obtain ⟨g, hg⟩ : ∃ g, w1.heap.size = g := ⟨_, rfl⟩
  rw [hg] at hrow2
  rw [hg]
  have hwg : w.heap.size ≤ g := by rw [← hg]; exact hg1.size
  have HG : Hid (w1.heap.size = g) := hg
  have HFAB : Hid (Abs 32768 (fixedFactors o)) := hfa
  clear hmade hi hz0 hz1 hz2 hc hg hfa
  go_wp2_with fail
  go_loopg [18] n (fun gk t18 wr => ∃ k : Nat, gk + k = n ∧ t18 = .int .i64 k ∧ w1.grownBy wr none ∧ Row wr w.heap.size g n n (fill n (M.take k)))
  case atStart => exact ⟨0, rfl, rfl, hg2, hrow2⟩
  case round =>
    clear hrow2 hg2
    obtain ⟨k, hgk, rfl, hgr, hrow⟩ := hrel
    by_cases hlt : k < n
    · obtain ⟨p, hp⟩ : ∃ p, o + k = p := ⟨_, rfl⟩
      have hpz : (o : Int) + (k : Int) = (p : Int) := by omega
      have hpl : p < xs.length := by have := HN.out; omega
      have hMk := HMAT.out k hlt
      rw [hp] at hMk
      obtain ⟨y, hy⟩ : ∃ y, xs.getD p 0 = y := ⟨_, rfl⟩
      have hyb := hab.get (by omega) p
      have hcp : wr.cell? ⟨b, off + p, none⟩ = some (.int .i64 y) := by rw [← hy]; exact hgr.cell (hc1 p hpl) (by simp)
      rw [hy] at hMk hyb
      have hlo : Lo wr.drew (.slice (some ⟨b, off, none⟩) p cap) (xs.take p) := by
        have hlp : (xs.take p).length = p := by rw [List.length_take]; omega
        refine .inr ⟨b, off, cap, by rw [hlp], fun i hi => ?_⟩
        rw [hlp] at hi
        have e : (xs.take p).getD i 0 = xs.getD i 0 := by simp [List.getD, hi]
        rw [e]
        exact hgr.cell (hc1 i (by omega)) (by simp)
      have hlfr : Lo wr.drew (.slice af (fixedFactors o).length cf) (fixedFactors o) := hlf.kept (grown_drew hgr)
      have HT : Calls _ _ #[_, _, .int .i64 0] _ _ := qtell wr.drew _ _ (xs.take p) (fixedFactors o) 0 (by omega) (by rw [HFL.out, List.length_take]; omega) (by rw [List.length_take]; omega) hlo hlfr
      have habp : Abs 65536 (xs.take p) := fun x hx => hab x (List.mem_of_mem_take hx)
      obtain ⟨z, hz⟩ : ∃ z, dot (fixedFactors o) (xs.take p).reverse = z := ⟨_, rfl⟩
      have hzb := dot_div_bound (fixedFactors o) (xs.take p) 0 habp HFAB.out (by rw [HFL.out]; omega)
      have hz0 : dot (fixedFactors o) (xs.take p).reverse / 2 ^ 0 = z := by rw [hz]; show z / 1 = z; omega
      rw [hz0] at hzb
      rw [hz] at hMk
      have HZX : ∀ x : Int, (Abs 65536 (xs.take p) → Abs 32768 (fixedFactors o) → (fixedFactors o).length ≤ 8 → x = dot (fixedFactors o) (xs.take p).reverse / 2 ^ 0) → x = z := fun x hx => by rw [hx habp HFAB.out (by rw [HFL.out]; omega), hz0]
      have hset : ∀ wq : World, wq.ownsRow w.heap.size 3 1 (.slice (some ⟨g, 0, none⟩) n n) n ((fill n (M.take k)).map (Value.int .i64)) → Row (wq.setCell ⟨g, k, none⟩ (.int .i64 (y - z))) w.heap.size g n n (fill n (M.take (k + 1))) := by
        intro wq hq
        have h1 := Row.stored (show Row wq w.heap.size g n n (fill n (M.take k)) from hq) k (y - z)
        have hk' : (M.take k).length = k := by rw [List.length_take, HML.out]; omega
        have h2 := fill_set n (M.take k) (y - z) (by omega)
        rw [hk'] at h2
        rw [h2] at h1
        rw [take_succ_getD M k (by rw [HML.out]; exact hlt), hMk]
        exact h1
      have HSET : Hid _ := hset
      have hyz : wrap64 (y - z) = y - z := by unfold wrap64; omega
      have hlt2 : (k : Int) < (n : Int) := by omega
      have fz := hrow.fz k
      have hck : wr.cell? ⟨g, k, none⟩ = some (.int .i64 ((fill n (M.take k)).getD k 0)) := hrow.cell k hlt
      have hpc : (p : Int) ≤ (cap : Int) := by omega
      have hpl2 : (p : Int) < (xs.length : Int) := by omega
      have HROW : Hid (Row wr w.heap.size g n n (fill n (M.take k))) := hrow
      have HGR : Hid (w1.grownBy wr none) := hgr
      clear hp hMk hy hz hz0 hset hlo hlfr hrow hgr hc1 habp
      go_upto_region 7 with fail
      go_region_with (first
        | (go_at_call 129; refine HT.mono ?_; rintro e w4 ⟨x, rfl, rfl, hx⟩; obtain rfl := HZX x hx))
      all_goals
        go_wp2
        go_roundg (gk - 1)
        case measure => omega
        case rel => exact ⟨k + 1, by omega, by go_num, grown_drew (grown_new HGR.out (grown_set _ _ _ _) (fun q e => by injection e with e; have := HG.out; omega)), HSET.out wr HROW.out⟩
    · have hkn : k = n := by omega
      have hfull : fill n (M.take k) = M := by rw [hkn, List.take_of_length_le (by rw [HML.out]; exact Nat.le_refl _), fill_full n M HML.out]
      rw [hfull] at hrow
      have tk : decide ((k : Int) < (n : Int)) = false := decide_eq_false (by omega)
      have hpost : MissPost w M (.returned (.slice (some ⟨g, 0, none⟩) n n)) wr := ⟨g, by rw [HML.out], by rw [HML.out]; exact hrow, grown_trans hg1 hgr⟩
      clear hkn hfull hrow hgr hgk hc1
      go_wp2
      exact bodyPost_ret (v := .slice (some ⟨g, 0, none⟩) n n) (by simp [results, Try.results121, go_sem]) rfl hpost
end Go.Proofs.Ytncmgnmcggkhnaa
