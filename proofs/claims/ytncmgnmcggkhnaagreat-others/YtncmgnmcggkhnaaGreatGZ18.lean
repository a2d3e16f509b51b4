import Derived.Test.YtncmgnmcggkhnaaGreatGZ17
import Derived.Test.YtncmgnmcggkhnaaGreatGZ08
import Derived.Test.YtncmgnmcggkhnaaGreatGZ06
namespace Go.Proofs.YtncmgnmcggkhnaaGreat
open Go.RowKit

/-- a list of ints that can be read, in a block of `D` -/
def LoD (w : World) (D : Nat → Prop) (v : Value) (xs : List Int) : Prop :=
  (v = .slice none 0 0 ∧ xs = []) ∨ ∃ b off cap, v = .slice (some ⟨b, off, none⟩) xs.length cap ∧ D b ∧ b < w.heap.size ∧ ∀ i, i < xs.length → w.cell? ⟨b, off + i, none⟩ = some (.int .i64 (xs.getD i 0))

theorem LoD.lo {w : World} {D : Nat → Prop} {v : Value} {xs : List Int} (h : LoD w D v xs) : Lo w v xs := by
  rcases h with h | ⟨b, off, cap, hv, _, _, hc⟩
  · exact .inl h
  · exact .inr ⟨b, off, cap, hv, hc⟩

theorem LoD.kp {w w' : World} {D S : Nat → Prop} {v : Value} {xs : List Int} (h : LoD w D v xs) (hk : Kp w w' S) (hn : ∀ b, D b → ¬ S b) : LoD w' D v xs := by
  rcases h with h | ⟨b, off, cap, hv, hD, hlt, hc⟩
  · exact .inl h
  · exact .inr ⟨b, off, cap, hv, hD, Nat.lt_of_lt_of_le hlt hk.size, fun i hi => cell_kp (hc i hi) hk hlt (hn b hD)⟩

theorem LoD.mono {w : World} {D D' : Nat → Prop} {v : Value} {xs : List Int} (h : LoD w D v xs) (hd : ∀ b, D b → b < w.heap.size → D' b) : LoD w D' v xs := by
  rcases h with h | ⟨b, off, cap, hv, hD, hlt, hc⟩
  · exact .inl h
  · exact .inr ⟨b, off, cap, hv, hd b hD hlt, hlt, hc⟩

/-- blocks that a writer does not touch -/
def Disj (D : Nat → Prop) (w : World) (gw : Nat) (v : Value) : Prop := ∀ b, D b → b < w.heap.size ∧ b ≠ gw ∧ v.ownBlock ≠ some b

theorem Disj.wrote {D : Nat → Prop} {w w' : World} {gw : Nat} {v v' : Value} (h : Disj D w gw v) (hw : Wrote w w' gw v v') : Disj D w' gw v' := by
  intro b hb
  obtain ⟨h1, h2, h3⟩ := h b hb
  refine ⟨Nat.lt_of_lt_of_le h1 hw.kp.size, h2, fun e => ?_⟩
  rcases hw.own b e with h4 | h4
  · exact h3 h4
  · omega

theorem LoD.wrote {D : Nat → Prop} {w w' : World} {gw : Nat} {v v' u : Value} {xs : List Int} (h : LoD w D u xs) (hd : Disj D w gw v) (hw : Wrote w w' gw v v') : LoD w' D u xs := by
  refine h.kp hw.kp (fun b hb e => ?_)
  obtain ⟨h1, h2, h3⟩ := hd b hb
  rcases e with e | e
  · exact h2 e
  · exact h3 e

theorem ret_fold {x y : Int} (h : y = ((fold1 x : Nat) : Int)) : Ending.returned (Value.int .i64 y) = .returned (.int .i64 ((fold1 x : Nat) : Int)) := by rw [h]

theorem qfold (w : World) (x : Int) (hx : -1099511627776 ≤ x ∧ x ≤ 1099511627776) :
    Calls Tryz.prog 74 #[.int .i64 x] w fun e w' => e = .returned (.int .i64 (fold1 x)) ∧ w' = w := by
  by_cases h : 0 ≤ x
  · go_enter Tryz.func74, Tryz.ntmps74
    go_wp2
    go_ret
    exact ⟨ret_fold (by unfold fold1; rw [if_pos h]; omega), rfl⟩
  · go_enter Tryz.func74, Tryz.ntmps74
    go_wp2
    go_ret
    exact ⟨ret_fold (by unfold fold1; rw [if_neg (by omega)]; omega), rfl⟩

theorem fold1_le {x : Int} {M : Nat} (h : -(M : Int) ≤ x ∧ x ≤ M) : fold1 x ≤ 2 * M := by
  unfold fold1
  split <;> omega

theorem partLen_snoc (xs : List Int) (x : Int) (k : Nat) : partLen (xs ++ [x]) k = partLen xs k + (fold1 x / 2 ^ k + 1 + k) := by
  unfold partLen
  simp

theorem partLen_le (k : Nat) (hk : k ≤ 64) : ∀ xs : List Int, (∀ x ∈ xs, -1048576 ≤ x ∧ x ≤ 1048576) → partLen xs k ≤ xs.length * 4194304
  | [], _ => by simp [partLen]
  | x :: xs, h => by
    have ih := partLen_le k hk xs (fun y hy => h y (by simp [hy]))
    have h1 := fold1_le (M := 1048576) (h x (by simp))
    have h2 : fold1 x / 2 ^ k ≤ fold1 x := Nat.div_le_self _ _
    unfold partLen at *
    rw [List.map_cons, List.sum_cons, List.length_cons, Nat.succ_mul]
    omega

theorem take_succ_getD (xs : List Int) (k : Nat) (h : k < xs.length) : xs.take (k + 1) = xs.take k ++ [xs.getD k 0] := by
  rw [List.take_succ_eq_append_getElem h]
  simp [List.getD, h]

set_option maxHeartbeats 1000000 in
set_option maxRecDepth 20000 in
theorem qpartbits (w : World) (v : Value) (xs : List Int) (k : Nat) (hk : k ≤ 14) (hl : xs.length ≤ 4096) (hb : ∀ x ∈ xs, -1048576 ≤ x ∧ x ≤ 1048576) (h : Lo w v xs) :
    Calls Tryz.prog 82 #[v, .int .i64 k] w fun e w' => e = .returned (.int .i64 (partLen xs k)) ∧ w' = w := by
  obtain ⟨a, c, rfl⟩ := h.slice
  go_enter Tryz.func82, Tryz.ntmps82
  go_wp2_with fail
  go_loopg [5, 10] xs.length (fun gk z i wr => ∃ j : Nat, gk + j = xs.length ∧ i = .int .i64 j ∧ z = .int .i64 (partLen (xs.take j) k) ∧ wr = w)
  case atStart => exact ⟨0, rfl, rfl, rfl, rfl⟩
  case round =>
    obtain ⟨j, hj, rfl, rfl, rfl⟩ := hrel
    have hle := partLen_le k (by omega) (xs.take j) (fun x hx => hb x (List.mem_of_mem_take hx))
    rw [List.length_take] at hle
    have hle2 : partLen (xs.take j) k ≤ 17179869184 := by omega
    by_cases hlt : j < xs.length
    · obtain ⟨bb, oo, rfl, hcell⟩ := h.at j hlt
      obtain ⟨x, hx⟩ : ∃ x, xs.getD j 0 = x := ⟨_, rfl⟩
      have hxb : -1048576 ≤ x ∧ x ≤ 1048576 := by rw [← hx]; exact hb _ (by simp [List.getD, hlt])
      have hnext : partLen (xs.take (j + 1)) k = partLen (xs.take j) k + (fold1 x / 2 ^ k + 1 + k) := by rw [take_succ_getD xs j hlt, hx, partLen_snoc]
      rw [hx] at hcell
      have HF := qfold wr x (by omega)
      have hf2 := fold1_le (M := 1048576) hxb
      obtain ⟨u, hu⟩ : ∃ u, fold1 x = u := ⟨_, rfl⟩
      obtain ⟨d, hd⟩ : ∃ d, u / 2 ^ k = d := ⟨_, rfl⟩
      have hdu : d ≤ u := by rw [← hd]; exact Nat.div_le_self _ _
      obtain ⟨P, hP⟩ : ∃ P, partLen (xs.take j) k = P := ⟨_, rfl⟩
      rw [hu] at HF hf2 hnext
      rw [hd, hP] at hnext
      rw [hP] at hle2 ⊢
      have hdiv : (u : Int) / 2 ^ k = (d : Int) := by
        have e : (2 : Int) ^ k = ((2 ^ k : Nat) : Int) := by simp
        rw [e, ← Int.natCast_ediv, hd]
      have hmin : min k 64 = k := by omega
      have tl : decide ((j : Int) < (xs.length : Int)) = true := decide_eq_true (by omega)
      have HNEXT : Hid (partLen (xs.take (j + 1)) k = P + (d + 1 + k)) := hnext
      clear hu hd hP hnext hx hle
      go_wp2_with (go_at_call 74; refine HF.mono ?_; rintro e w2 ⟨rfl, rfl⟩)
      go_roundg (gk - 1)
      case measure => omega
      case rel => exact ⟨j + 1, by omega, by go_num, by rw [HNEXT.out]; go_num, rfl⟩
    · have hjn : j = xs.length := by omega
      subst hjn
      rw [List.take_length] at hle2 ⊢
      clear hj hle
      go_wp2
      go_ret
      exact ⟨rfl, rfl⟩

set_option maxHeartbeats 1000000 in
set_option maxRecDepth 20000 in
theorem qbestk (w : World) (v : Value) (xs : List Int) (hl : xs.length ≤ 4096) (hb : ∀ x ∈ xs, -1048576 ≤ x ∧ x ≤ 1048576) (h : Lo w v xs) :
    Calls Tryz.prog 73 #[v, .int .i64 14] w fun e w' => e = .returned (.int .i64 (bestK xs)) ∧ w' = w := by
  have HP := fun k hk => qpartbits w v xs k hk hl hb h
  have HP0 : Calls _ _ #[_, .int .i64 0] _ _ := HP 0 (by omega)
  have hsp := bestAux_spec (partLen xs)
  go_enter Tryz.func73, Tryz.ntmps73
  go_wp2_with (go_at_call 82; refine HP0.mono ?_; rintro e w2 ⟨rfl, rfl⟩)
  go_loopg [5, 6, 7] 14 (fun gk t5 t6 t7 wr => ∃ m : Nat, gk + m = 14 ∧ t7 = .int .i64 ((m : Int) + 1) ∧ t5 = .int .i64 (bestAux (partLen xs) m).1 ∧ t6 = .int .i64 (bestAux (partLen xs) m).2 ∧ wr = w2)
  case atStart => exact ⟨0, rfl, rfl, rfl, rfl, rfl⟩
  case round =>
    obtain ⟨m, hm, rfl, rfl, rfl, rfl⟩ := hrel
    by_cases hlt : m < 14
    · have HPm : Calls _ _ #[_, .int .i64 ((m : Int) + 1)] _ _ := HP (m + 1) (by omega)
      obtain ⟨b, hbm⟩ : ∃ b, (bestAux (partLen xs) m).1 = b := ⟨_, rfl⟩
      obtain ⟨f, hfm⟩ : ∃ f, (bestAux (partLen xs) m).2 = f := ⟨_, rfl⟩
      obtain ⟨p, hpm⟩ : ∃ p, partLen xs (m + 1) = p := ⟨_, rfl⟩
      rw [hbm, hfm]
      rw [hpm] at HPm
      have hn1 : (bestAux (partLen xs) (m + 1)).1 = if p < f then m + 1 else b := by
        rw [← hpm, ← hfm, ← hbm]; conv => lhs; unfold bestAux
        split <;> rfl
      have hn2 : (bestAux (partLen xs) (m + 1)).2 = if p < f then p else f := by
        rw [← hpm, ← hfm]; conv => lhs; unfold bestAux
        split <;> rfl
      have HN1 : Hid _ := hn1
      have HN2 : Hid _ := hn2
      clear hn1 hn2 hbm hfm hpm hsp HP HP0 hb
      by_cases hpf : p < f
      · have tp : decide ((p : Int) < (f : Int)) = true := decide_eq_true (by omega)
        go_wp2_with (go_at_call 82; refine HPm.mono ?_; rintro e w3 ⟨rfl, rfl⟩)
        go_roundg (gk - 1)
        case measure => omega
        case rel => exact ⟨m + 1, by omega, by go_num, by rw [HN1.out, if_pos hpf]; go_num, by rw [HN2.out, if_pos hpf], rfl⟩
      · have tp : decide ((p : Int) < (f : Int)) = false := decide_eq_false (by omega)
        go_wp2_with (go_at_call 82; refine HPm.mono ?_; rintro e w3 ⟨rfl, rfl⟩)
        go_roundg (gk - 1)
        case measure => omega
        case rel => exact ⟨m + 1, by omega, by go_num, by rw [HN1.out, if_neg hpf], by rw [HN2.out, if_neg hpf], rfl⟩
    · have hm14 : m = 14 := by omega
      subst hm14
      clear hm hsp HP HP0
      go_wp2
      go_ret
      exact ⟨rfl, rfl⟩
end Go.Proofs.YtncmgnmcggkhnaaGreat

namespace Go.Proofs.YtncmgnmcggkhnaaGreat
open Go.RowKit

/-- two writings, one behind the other -/
theorem WPost.next {w w1 : World} {gw base : Nat} {v v1 : Value} {L B C : List Bool} {e : Ending} {w' : World} (h1 : Wrote w w1 gw v v1) (h2 : WPost w1 gw base v1 (L ++ B) C e w') : WPost w gw base v L (B ++ C) e w' := by
  obtain ⟨he, v', hs, hw⟩ := h2
  exact ⟨he, v', by rw [← List.append_assoc]; exact hs, h1.trans hw⟩

set_option maxHeartbeats 1000000 in
set_option maxRecDepth 20000 in
theorem qwkind (w : World) (gw base : Nat) (va : Value) (L : List Bool) (k : Nat) (h : WrS w gw base va L) (hb : base ≤ w.heap.size) (hL : L.length + 8 ≤ 1099511627776) (hk : k < 64) :
    Calls Tryz.prog 58 #[.pointer (some ⟨gw, 0, none⟩), .int .i64 k] w (WPost w gw base va L (kindBits k)) := by
  have H1 : Calls _ _ #[_, .int .i64 0, .int .i64 1] _ _ := qwnum w gw base va L ((0 : Nat) : Int) 1 h hb (by omega) (by omega) (by omega)
  go_enter Tryz.func58, Tryz.ntmps58
  go_wp2_with fail
  refine H1.mono ?_
  rintro e w1 ⟨rfl, v1, hs1, hw1⟩
  have hl1 : (L ++ numBits ((0 : Nat) : Int) 1).length = L.length + 1 := by rw [List.length_append, numBits_length]
  have hb1 := Nat.le_trans hb hw1.kp.size
  have H2 : Calls _ _ #[_, .int .i64 k, .int .i64 6] _ _ := qwnum w1 gw base v1 _ (k : Int) 6 hs1 hb1 (by omega) (by omega) (by omega)
  go_wp2_with fail
  refine H2.mono ?_
  rintro e w2 ⟨rfl, v2, hs2, hw2⟩
  have hl2 : ((L ++ numBits ((0 : Nat) : Int) 1) ++ numBits (k : Int) 6).length = L.length + 7 := by rw [List.length_append, numBits_length]; omega
  have hb2 := Nat.le_trans hb1 hw2.kp.size
  have H3 : Calls _ _ #[_, .int .i64 0, .int .i64 1] _ _ := qwnum w2 gw base v2 _ ((0 : Nat) : Int) 1 hs2 hb2 (by omega) (by omega) (by omega)
  go_wp2_with fail
  refine H3.mono ?_
  rintro e w3 hp3
  have hp := WPost.next hw1 (WPost.next hw2 hp3)
  obtain rfl := hp3.1
  clear hl1 hl2 H1 H2 H3 hp3
  go_wp2
  exact bodyPost_end (v := .tuple #[]) (by simp [results, Tryz.results58, go_sem]) rfl hp

theorem listBits_take_succ (wide : Nat) (xs : List Int) (k : Nat) (h : k < xs.length) : listBits wide (xs.take (k + 1)) = listBits wide (xs.take k) ++ numBits (xs.getD k 0) wide := by
  rw [take_succ_getD xs k h]
  unfold listBits
  simp

set_option maxHeartbeats 1000000 in
set_option maxRecDepth 20000 in
theorem qwlist (w : World) (gw base : Nat) (va u : Value) (L : List Bool) (D : Nat → Prop) (xs : List Int) (wide : Nat) (h : WrS w gw base va L) (hb : base ≤ w.heap.size) (hL : L.length ≤ 549755813888) (hw : wide ≤ 20) (hl : xs.length ≤ 4096) (hx : ∀ x ∈ xs, -1048576 ≤ x ∧ x ≤ 1048576)
    (hu : LoD w D u xs) (hD : Disj D w gw va) :
    Calls Tryz.prog 59 #[.pointer (some ⟨gw, 0, none⟩), u, .int .i64 wide] w (WPost w gw base va L (listBits wide xs)) := by
  obtain ⟨a, c, rfl⟩ := hu.lo.slice
  go_enter Tryz.func59, Tryz.ntmps59
  go_wp2_with fail
  go_loopg [10] xs.length (fun gk t10 wr => ∃ k : Nat, gk + k = xs.length ∧ t10 = .int .i64 k ∧ ∃ v', WrS wr gw base v' (L ++ listBits wide (xs.take k)) ∧ Wrote w wr gw va v')
  case atStart => exact ⟨0, rfl, rfl, va, by simpa [listBits] using h, Wrote.refl _ _ _⟩
  case round =>
    obtain ⟨k, hgk, rfl, v', hs, hwr⟩ := hrel
    by_cases hlt : k < xs.length
    · have hur := hu.wrote hD hwr
      obtain ⟨bb, oo, rfl, hcell⟩ := hur.lo.at k hlt
      obtain ⟨x, hxk⟩ : ∃ x, xs.getD k 0 = x := ⟨_, rfl⟩
      have hxb : -1048576 ≤ x ∧ x ≤ 1048576 := by rw [← hxk]; exact hx _ (by simp [List.getD, hlt])
      have HLB : Hid (listBits wide (xs.take (k + 1)) = listBits wide (xs.take k) ++ numBits x wide) := by show _ = _; rw [listBits_take_succ wide xs k hlt, hxk]
      have hll : (L ++ listBits wide (xs.take k)).length ≤ L.length + 81920 := by
        rw [List.length_append, listBits_length, List.length_take]
        have : min k xs.length * wide ≤ 4096 * 20 := Nat.mul_le_mul (by omega) hw
        omega
      have hbr := Nat.le_trans hb hwr.kp.size
      have HN := qwnum wr gw base v' _ x wide hs hbr (by omega) (by omega) (by omega)
      rw [hxk] at hcell
      clear hxk hll h
      go_wp2_with (go_at_call 35; refine HN.mono ?_; rintro e w2 ⟨rfl, v2, hs2, hwr2⟩)
      go_roundg (gk - 1)
      case measure => omega
      case rel => exact ⟨k + 1, by omega, by go_num, v2, by rw [HLB.out, ← List.append_assoc]; exact hs2, hwr.trans hwr2⟩
    · have hkn : k = xs.length := by omega
      subst hkn
      rw [List.take_length] at hs
      have hp : WPost w gw base va L (listBits wide xs) (.returned (.tuple #[])) wr := ⟨rfl, v', hs, hwr⟩
      clear hs hwr hgk h
      go_wp2
      exact bodyPost_end (v := .tuple #[]) (by simp [results, Tryz.results59, go_sem]) rfl hp

theorem rice_take_succ (q : Nat) (xs : List Int) (k : Nat) (h : k < xs.length) : (xs.take (k + 1)).flatMap (riceBits q) = (xs.take k).flatMap (riceBits q) ++ riceBits q (xs.getD k 0) := by
  rw [take_succ_getD xs k h]
  simp

set_option maxHeartbeats 2000000 in
set_option maxRecDepth 20000 in
theorem qwres (w : World) (gw base : Nat) (va u : Value) (L : List Bool) (D : Nat → Prop) (xs : List Int) (h : WrS w gw base va L) (hb : base ≤ w.heap.size) (hL : L.length ≤ 274877906944) (hl : xs.length ≤ 4096) (hx : ∀ x ∈ xs, -1048576 ≤ x ∧ x ≤ 1048576)
    (hu : LoD w D u xs) (hD : Disj D w gw va) :
    Calls Tryz.prog 60 #[.pointer (some ⟨gw, 0, none⟩), u] w (WPost w gw base va L (resBits (bestK xs) xs)) := by
  obtain ⟨a, c, rfl⟩ := hu.lo.slice
  have HK : Calls _ _ #[.int .i64 0] _ _ := qkbits w 0 (by omega)
  have HBK := qbestk w _ xs hl hx hu.lo
  obtain ⟨q, hq⟩ : ∃ q, bestK xs = q := ⟨_, rfl⟩
  have hq14 : q ≤ 14 := by rw [← hq]; exact bestK_le xs
  rw [hq] at HBK ⊢
  clear hq
  have H1 : Calls _ _ #[_, .int .i64 0, .int .i64 2] _ _ := qwnum w gw base va L ((0 : Nat) : Int) 2 h hb (by omega) (by omega) (by omega)
  go_enter Tryz.func60, Tryz.ntmps60
  go_wp2_with (first
    | (go_at_call 72; refine HK.mono ?_; rintro e w0 ⟨rfl, rfl⟩)
    | (go_at_call 73; refine HBK.mono ?_; rintro e w0 ⟨rfl, rfl⟩))
  refine H1.mono ?_
  rintro e w1 ⟨rfl, v1, hs1, hw1⟩
  have hl1 : (L ++ numBits ((0 : Nat) : Int) 2).length = L.length + 2 := by rw [List.length_append, numBits_length]
  have hb1 := Nat.le_trans hb hw1.kp.size
  have H2 : Calls _ _ #[_, .int .i64 0, .int .i64 4] _ _ := qwnum w1 gw base v1 _ ((0 : Nat) : Int) 4 hs1 hb1 (by omega) (by omega) (by omega)
  go_wp2_with fail
  refine H2.mono ?_
  rintro e w2 ⟨rfl, v2, hs2, hw2⟩
  have hl2 : ((L ++ numBits ((0 : Nat) : Int) 2) ++ numBits ((0 : Nat) : Int) 4).length = L.length + 6 := by rw [List.length_append, numBits_length]; omega
  have hb2 := Nat.le_trans hb1 hw2.kp.size
  have H3 : Calls _ _ #[_, .int .i64 q, .int .i64 4] _ _ := qwnum w2 gw base v2 _ (q : Int) 4 hs2 hb2 (by omega) (by omega) (by omega)
  go_wp2_with fail
  refine H3.mono ?_
  rintro e w3 ⟨rfl, v3, hs3, hw3⟩
  have hl3 : (((L ++ numBits ((0 : Nat) : Int) 2) ++ numBits ((0 : Nat) : Int) 4) ++ numBits (q : Int) 4).length = L.length + 10 := by rw [List.length_append, numBits_length]; omega
  have hb3 := Nat.le_trans hb2 hw3.kp.size
  have hw13 := hw1.trans (hw2.trans hw3)
  obtain ⟨L3, hL3⟩ : ∃ L3, ((L ++ numBits ((0 : Nat) : Int) 2) ++ numBits ((0 : Nat) : Int) 4) ++ numBits (q : Int) 4 = L3 := ⟨_, rfl⟩
  rw [hL3] at hs3 hl3
  have HL3 : Hid (L ++ (numBits ((0 : Nat) : Int) 2 ++ (numBits ((0 : Nat) : Int) 4 ++ numBits (q : Int) 4)) = L3) := by show _ = _; rw [← hL3]; simp [List.append_assoc]
  have hu3 := hu.wrote hD hw13
  have hD3 := hD.wrote hw13
  clear hs1 hs2 hl1 hl2 H1 H2 H3 hw1 hw2 hw3 hL3 hb1 hb2 HK HBK h
  have hmin : min q 64 = q := by omega
  go_wp2_with fail
  go_loopg [25] xs.length (fun gk t25 wr => ∃ k : Nat, gk + k = xs.length ∧ t25 = .int .i64 k ∧ ∃ v', WrS wr gw base v' (L3 ++ (xs.take k).flatMap (riceBits q)) ∧ Wrote w3 wr gw v3 v')
  case atStart => exact ⟨0, rfl, rfl, v3, by simpa using hs3, Wrote.refl _ _ _⟩
  case round =>
    obtain ⟨k, hgk, rfl, v', hs, hwr⟩ := hrel
    by_cases hlt : k < xs.length
    · have hur := hu3.wrote hD3 hwr
      obtain ⟨bb, oo, rfl, hcell⟩ := hur.lo.at k hlt
      obtain ⟨x, hxk⟩ : ∃ x, xs.getD k 0 = x := ⟨_, rfl⟩
      have hxb : -1048576 ≤ x ∧ x ≤ 1048576 := by rw [← hxk]; exact hx _ (by simp [List.getD, hlt])
      have HLB : Hid ((xs.take (k + 1)).flatMap (riceBits q) = (xs.take k).flatMap (riceBits q) ++ riceBits q x) := by show _ = _; rw [rice_take_succ q xs k hlt, hxk]
      have hll : (L3 ++ (xs.take k).flatMap (riceBits q)).length ≤ L.length + 10 + 17179869184 := by
        rw [List.length_append, partLen_eq, hl3]
        have h1 := partLen_le q (by omega) (xs.take k) (fun x hxx => hx x (List.mem_of_mem_take hxx))
        rw [List.length_take] at h1
        omega
      have hbr := Nat.le_trans hb3 hwr.kp.size
      have HF := qfold wr x (by omega)
      have hf2 := fold1_le (M := 1048576) hxb
      obtain ⟨y, hy⟩ : ∃ y, fold1 x = y := ⟨_, rfl⟩
      obtain ⟨d, hd⟩ : ∃ d, y / 2 ^ q = d := ⟨_, rfl⟩
      have hdu : d ≤ y := by rw [← hd]; exact Nat.div_le_self _ _
      rw [hy] at HF hf2
      have hdiv : (y : Int) / 2 ^ q = (d : Int) := by
        have e : (2 : Int) ^ q = ((2 ^ q : Nat) : Int) := by simp
        rw [e, ← Int.natCast_ediv, hd]
      have HRB : Hid (riceBits q x = zerosBits d ++ numBits (y : Int) q) := by show _ = _; unfold riceBits; rw [hy, hd]
      have HZ := qwzeros wr gw base v' _ d hs hbr (by omega)
      rw [hxk] at hcell
      clear hxk hy hd
      go_wp2_with (first
        | (go_at_call 74; refine HF.mono ?_; rintro e w4 ⟨rfl, rfl⟩)
        | (go_at_call 75; refine HZ.mono ?_; rintro e w5 ⟨rfl, v5, hs5, hw5⟩))
      have hl5 : ((L3 ++ (xs.take k).flatMap (riceBits q)) ++ zerosBits d).length ≤ L.length + 10 + 17179869184 + (d + 1) := by
        rw [List.length_append]
        have : (zerosBits d).length = d + 1 := by unfold zerosBits; simp
        omega
      have HN := qwnum w5 gw base v5 _ (y : Int) q hs5 (Nat.le_trans hbr hw5.kp.size) (by omega) (by omega) (by omega)
      clear hll hl5
      refine HN.mono ?_
      rintro e w6 ⟨rfl, v6, hs6, hw6⟩
      go_wp2
      go_roundg (gk - 1)
      case measure => omega
      case rel => exact ⟨k + 1, by omega, by go_num, v6, by rw [HLB.out, HRB.out, ← List.append_assoc, ← List.append_assoc]; exact hs6, hwr.trans (hw5.trans hw6)⟩
    · have hkn : k = xs.length := by omega
      subst hkn
      rw [List.take_length] at hs
      have hp : WPost w0 gw base va L (resBits q xs) (.returned (.tuple #[])) wr := by
        refine ⟨rfl, v', ?_, hw13.trans hwr⟩
        rw [← HL3.out] at hs
        unfold resBits
        simpa [List.append_assoc] using hs
      clear hs hwr hgk
      go_wp2
      exact bodyPost_end (v := .tuple #[]) (by simp [results, Tryz.results60, go_sem]) rfl hp
end Go.Proofs.YtncmgnmcggkhnaaGreat

namespace Go.Proofs.YtncmgnmcggkhnaaGreat
open Go.RowKit

/-- a subframe in memory -/
def ESubV (w : World) (D : Nat → Prop) (sv : Value) : ESub → Prop
  | .inl x => sv = .iface 118 (.agg #[.int .i64 x])
  | .inr (.inl l) => ∃ v, sv = .iface 122 (.agg #[v]) ∧ LoD w D v l
  | .inr (.inr (f, r)) => ∃ vf vr, sv = .iface 125 (.agg #[vf, vr]) ∧ LoD w D vf f ∧ LoD w D vr r

/-- its numbers are small -/
def ESmall : ESub → Prop
  | .inl x => -1048576 ≤ x ∧ x ≤ 1048576
  | .inr (.inl l) => l.length ≤ 4096 ∧ ∀ x ∈ l, -1048576 ≤ x ∧ x ≤ 1048576
  | .inr (.inr (f, r)) => f.length ≤ 4 ∧ (∀ x ∈ f, -1048576 ≤ x ∧ x ≤ 1048576) ∧ r.length ≤ 4096 ∧ ∀ x ∈ r, -1048576 ≤ x ∧ x ≤ 1048576

theorem ESubV.kp {w w' : World} {D S : Nat → Prop} {sv : Value} {s : ESub} (h : ESubV w D sv s) (hk : Kp w w' S) (hn : ∀ b, D b → ¬ S b) : ESubV w' D sv s := by
  cases s using ESub.each with
  | alike x => exact h
  | plain l => obtain ⟨v, e, h1⟩ := h; exact ⟨v, e, h1.kp hk hn⟩
  | fixed f r => obtain ⟨vf, vr, e, h1, h2⟩ := h; exact ⟨vf, vr, e, h1.kp hk hn, h2.kp hk hn⟩

theorem ESubV.mono {w : World} {D D' : Nat → Prop} {sv : Value} {s : ESub} (h : ESubV w D sv s) (hd : ∀ b, D b → b < w.heap.size → D' b) : ESubV w D' sv s := by
  cases s using ESub.each with
  | alike x => exact h
  | plain l => obtain ⟨v, e, h1⟩ := h; exact ⟨v, e, h1.mono hd⟩
  | fixed f r => obtain ⟨vf, vr, e, h1, h2⟩ := h; exact ⟨vf, vr, e, h1.mono hd, h2.mono hd⟩

/-- new memory beside a writer -/
theorem WrS.grown {w w' : World} {gw base : Nat} {v : Value} {L : List Bool} (h : WrS w gw base v L) (hg : w.grownBy w' none) : WrS w' gw base v L :=
  ⟨h.box.kept hg (by simp), ownsRow_kp h.row (Kp.ofNone (S := fun _ => False) hg) (fun _ _ e => e), h.lt⟩
theorem Wrote.grown (w w' : World) (gw : Nat) (v : Value) (hg : w.grownBy w' none) : Wrote w w' gw v v := ⟨Kp.ofNone hg, fun _ h => .inl h⟩

theorem ta_aa (x : Int) (w : World) : (Instr.typeAssert (.iface 118 (.agg #[.int .i64 x])) 93 118 true).run Tryz.prog w = .ok (.tuple #[.agg #[.int .i64 x], .bool true]) w := by kernel_rfl
theorem ta_pa (v : Value) (w : World) : (Instr.typeAssert (.iface 122 (.agg #[v])) 93 118 true).run Tryz.prog w = .ok (.tuple #[.agg #[.int .i64 0], .bool false]) w := by kernel_rfl
theorem ta_pp (v : Value) (w : World) : (Instr.typeAssert (.iface 122 (.agg #[v])) 93 122 true).run Tryz.prog w = .ok (.tuple #[.agg #[v], .bool true]) w := by kernel_rfl
theorem ta_fa (v u : Value) (w : World) : (Instr.typeAssert (.iface 125 (.agg #[v, u])) 93 118 true).run Tryz.prog w = .ok (.tuple #[.agg #[.int .i64 0], .bool false]) w := by kernel_rfl
theorem ta_fp (v u : Value) (w : World) : (Instr.typeAssert (.iface 125 (.agg #[v, u])) 93 122 true).run Tryz.prog w = .ok (.tuple #[.agg #[.slice none 0 0], .bool false]) w := by kernel_rfl
theorem ta_ff (v u : Value) (w : World) : (Instr.typeAssert (.iface 125 (.agg #[v, u])) 93 125 true).run Tryz.prog w = .ok (.tuple #[.agg #[v, u], .bool true]) w := by kernel_rfl

set_option maxHeartbeats 2000000 in
set_option maxRecDepth 20000 in
theorem qwsub (w : World) (gw base : Nat) (va sv : Value) (L : List Bool) (D : Nat → Prop) (s : ESub) (wide : Nat) (h : WrS w gw base va L) (hb : base ≤ w.heap.size) (hL : L.length ≤ 137438953472) (hwd : wide ≤ 20) (hsm : ESmall s) (hs : ESubV w D sv s) (hD : Disj D w gw va) :
    Calls Tryz.prog 39 #[.pointer (some ⟨gw, 0, none⟩), sv, .int .i64 wide] w (WPost w gw base va L (subBits wide s)) := by
  have hkl : ∀ k, (L ++ kindBits k).length = L.length + 8 := fun k => by rw [List.length_append]; unfold kindBits; simp [numBits_length]
  cases s using ESub.each with
  | alike x =>
    have e : sv = .iface 118 (.agg #[.int .i64 x]) := hs
    have hx : -1048576 ≤ x ∧ x ≤ 1048576 := hsm
    subst e
    have t1 := ta_aa x
    obtain ⟨w0, hw0⟩ : ∃ w0, w.alloc (.cells #[.int .i64 x] 118) = w0 := ⟨_, rfl⟩
    have hg0 : w.grownBy w0 none := by rw [← hw0]; exact grown_alloc (grown_refl _ _) _
    have hbx : Box w0 w.heap.size #[.int .i64 x] 118 := by rw [← hw0]; exact Box.new _ _ _
    have h0 := h.grown hg0
    have hww0 := Wrote.grown w w0 gw va hg0
    have hb0 := Nat.le_trans hb hg0.size
    have HKD : Calls _ _ #[_, .int .i64 0] _ _ := qwkind w0 gw base va L 0 h0 hb0 (by omega) (by omega)
    have hgw : gw < w.heap.size := h.box.lt
    have hnow : ∀ q, va.ownBlock = some q → q < w.heap.size := fun q hq => (World.ownsRow.lt h.row q hq).2
    have HW0 : Hid (w.alloc (.cells #[.int .i64 x] 118) = w0) := hw0
    clear hw0 hsm hs hD h hg0
    go_enter Tryz.func39, Tryz.ntmps39
    go_upto_region 3 with fail
    rw [HW0.out]
    clear HW0
    go_wp2_with fail
    refine HKD.mono ?_
    rintro e w1 ⟨rfl, v1, hs1, hw1⟩
    have hbx1 := hbx.kp hw1.kp (fun e => by
      rcases e with e | e
      · omega
      · have := hnow _ e; omega)
    have c0 : w1.cell? ⟨w.heap.size, 0, none⟩ = some (.int .i64 x) := hbx1.cell 0
    have hk8 := hkl 0
    have HN := qwnum w1 gw base v1 _ x wide hs1 (Nat.le_trans hb0 hw1.kp.size) (by omega) (by omega) (by omega)
    clear hk8 hkl HKD
    go_wp2_with fail
    refine HN.mono ?_
    rintro e w2 hp2
    have hp : WPost w gw base va L (subBits wide (.alike x)) e w2 := WPost.next (hww0.trans hw1) hp2
    obtain rfl := hp2.1
    clear hp2 HN
    go_wp2
    exact bodyPost_end (v := .tuple #[]) (by simp [results, Tryz.results39, go_sem]) rfl hp
  | plain l =>
    obtain ⟨v, rfl, hlo⟩ := hs
    obtain ⟨hll, hx⟩ : l.length ≤ 4096 ∧ ∀ x ∈ l, -1048576 ≤ x ∧ x ≤ 1048576 := hsm
    obtain ⟨a, c, rfl⟩ := hlo.lo.slice
    have t1 := ta_pa (.slice a l.length c)
    have t2 := ta_pp (.slice a l.length c)
    obtain ⟨w0, hw0⟩ : ∃ w0, w.alloc (.cells #[.slice a l.length c] 122) = w0 := ⟨_, rfl⟩
    have hg0 : w.grownBy w0 none := by rw [← hw0]; exact grown_alloc (grown_refl _ _) _
    have hbx : Box w0 w.heap.size #[.slice a l.length c] 122 := by rw [← hw0]; exact Box.new _ _ _
    have h0 := h.grown hg0
    have hww0 := Wrote.grown w w0 gw va hg0
    have hb0 := Nat.le_trans hb hg0.size
    have HKD : Calls _ _ #[_, .int .i64 1] _ _ := qwkind w0 gw base va L 1 h0 hb0 (by omega) (by omega)
    have hgw : gw < w.heap.size := h.box.lt
    have hnow : ∀ q, va.ownBlock = some q → q < w.heap.size := fun q hq => (World.ownsRow.lt h.row q hq).2
    have HW0 : Hid (w.alloc (.cells #[.slice a l.length c] 122) = w0) := hw0
    clear hw0 h hg0
    go_enter Tryz.func39, Tryz.ntmps39
    go_upto_region 7 with fail
    rw [HW0.out]
    clear HW0
    go_wp2_with fail
    refine HKD.mono ?_
    rintro e w1 ⟨rfl, v1, hs1, hw1⟩
    have hbx1 := hbx.kp hw1.kp (fun e => by
      rcases e with e | e
      · omega
      · have := hnow _ e; omega)
    have c0 : w1.cell? ⟨w.heap.size, 0, none⟩ = some (.slice a l.length c) := hbx1.cell 0
    have hk8 := hkl 1
    have hw01 := hww0.trans hw1
    have HN := qwlist w1 gw base v1 _ _ D l wide hs1 (Nat.le_trans hb0 hw1.kp.size) (by omega) hwd hll hx (hlo.wrote hD hw01) (hD.wrote hw01)
    clear hk8 hkl HKD
    go_wp2_with fail
    refine HN.mono ?_
    rintro e w2 hp2
    have hp : WPost w gw base va L (subBits wide (.plain l)) e w2 := WPost.next hw01 hp2
    obtain rfl := hp2.1
    clear hp2 HN
    go_wp2
    exact bodyPost_end (v := .tuple #[]) (by simp [results, Tryz.results39, go_sem]) rfl hp
  | fixed f r =>
    obtain ⟨vf, vr, rfl, hlf, hlr⟩ := hs
    obtain ⟨hfl, hfx, hrl, hrx⟩ : f.length ≤ 4 ∧ (∀ x ∈ f, -1048576 ≤ x ∧ x ≤ 1048576) ∧ r.length ≤ 4096 ∧ ∀ x ∈ r, -1048576 ≤ x ∧ x ≤ 1048576 := hsm
    obtain ⟨a, c, rfl⟩ := hlf.lo.slice
    obtain ⟨a', c', rfl⟩ := hlr.lo.slice
    have t1 := ta_fa (.slice a f.length c) (.slice a' r.length c')
    have t2 := ta_fp (.slice a f.length c) (.slice a' r.length c')
    have t3 := ta_ff (.slice a f.length c) (.slice a' r.length c')
    obtain ⟨w0, hw0⟩ : ∃ w0, w.alloc (.cells #[.slice a f.length c, .slice a' r.length c'] 125) = w0 := ⟨_, rfl⟩
    have hg0 : w.grownBy w0 none := by rw [← hw0]; exact grown_alloc (grown_refl _ _) _
    have hbx : Box w0 w.heap.size #[.slice a f.length c, .slice a' r.length c'] 125 := by rw [← hw0]; exact Box.new _ _ _
    have h0 := h.grown hg0
    have hww0 := Wrote.grown w w0 gw va hg0
    have hb0 := Nat.le_trans hb hg0.size
    have HKD : Calls _ _ #[_, .int .i64 (8 + (f.length : Int))] _ _ := qwkind w0 gw base va L (8 + f.length) h0 hb0 (by omega) (by omega)
    have hgw : gw < w.heap.size := h.box.lt
    have hnow : ∀ q, va.ownBlock = some q → q < w.heap.size := fun q hq => (World.ownsRow.lt h.row q hq).2
    have HW0 : Hid (w.alloc (.cells #[.slice a f.length c, .slice a' r.length c'] 125) = w0) := hw0
    have k0 : w0.cell? ⟨w.heap.size, 0, none⟩ = some (.slice a f.length c) := hbx.cell 0
    clear hw0 h hg0
    go_enter Tryz.func39, Tryz.ntmps39
    go_upto_region 11 with fail
    rw [HW0.out]
    clear HW0
    go_wp2_with fail
    refine HKD.mono ?_
    rintro e w1 ⟨rfl, v1, hs1, hw1⟩
    have hbx1 := hbx.kp hw1.kp (fun e => by
      rcases e with e | e
      · omega
      · have := hnow _ e; omega)
    have c0 : w1.cell? ⟨w.heap.size, 0, none⟩ = some (.slice a f.length c) := hbx1.cell 0
    have hk8 := hkl (8 + f.length)
    have hw01 := hww0.trans hw1
    have hb1 := Nat.le_trans hb0 hw1.kp.size
    have hD1 := hD.wrote hw01
    have HN := qwlist w1 gw base v1 _ _ D f wide hs1 hb1 (by omega) hwd (by omega) hfx (hlf.wrote hD hw01) hD1
    clear k0 HKD
    go_wp2_with fail
    refine HN.mono ?_
    rintro e w2 ⟨rfl, v2, hs2, hw2⟩
    have hbx2 := hbx1.kp hw2.kp (fun e => by
      rcases e with e | e
      · omega
      · rcases hw01.own _ e with h1 | h1
        · have := hnow _ h1; omega
        · have h9 := hw1.own _ e
          rcases h9 with h2 | h2
          · have := hnow _ h2; omega
          · have := hbx.lt; omega)
    have c1 : w2.cell? ⟨w.heap.size, 1, none⟩ = some (.slice a' r.length c') := hbx2.cell 1
    have hw02 := hw01.trans hw2
    have hll2 : ((L ++ kindBits (8 + f.length)) ++ listBits wide f).length ≤ L.length + 88 := by
      rw [List.length_append, hk8, listBits_length]
      have : f.length * wide ≤ 4 * 20 := Nat.mul_le_mul hfl hwd
      omega
    have HR := qwres w2 gw base v2 _ _ D r hs2 (Nat.le_trans hb1 hw2.kp.size) (by omega) hrl hrx (hlr.wrote hD hw02) (hD.wrote hw02)
    clear hk8 hkl HN c0 hll2
    go_wp2_with fail
    refine HR.mono ?_
    rintro e w3 hp3
    have hp : WPost w gw base va L (subBits wide (.fixed f r)) e w3 := WPost.next hw01 (WPost.next hw2 hp3)
    obtain rfl := hp3.1
    clear hp3 HR
    go_wp2
    exact bodyPost_end (v := .tuple #[]) (by simp [results, Tryz.results39, go_sem]) rfl hp
end Go.Proofs.YtncmgnmcggkhnaaGreat
