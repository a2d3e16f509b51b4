import Derived.Test.YtncmgnmcggkhnaaGreatGZ15
import Derived.Test.YtncmgnmcggkhnaaGreatGZ20
import Derived.Deep.LoopGhost
import Derived.BigQuiet
import Derived.Test.YtncmgnmcggkhnaaGreatGZ00
import Derived.Test.YtncmgnmcggkhnaaGreatGZ01
import Derived.Laws.IdiomStrings
import Derived.Laws.BytesArg
import Derived.Laws.Concat
import Derived.Deep.RegionWith
namespace Go.Proofs.YtncmgnmcggkhnaaGreat
open Go.RowKit

/-- a list of ints that is handed in, with its room; in a block of `D` -/
def LoC (w : World) (D : Nat → Prop) (v : Value) (xs : List Int) : Prop :=
  (v = .slice none 0 0 ∧ xs = []) ∨ ∃ b off cap, v = .slice (some ⟨b, off, none⟩) xs.length cap ∧ xs.length ≤ cap ∧ D b ∧ b < w.heap.size ∧ ∀ i, i < xs.length → w.cell? ⟨b, off + i, none⟩ = some (.int .i64 (xs.getD i 0))

theorem LoC.lo {w : World} {D : Nat → Prop} {v : Value} {xs : List Int} (h : LoC w D v xs) : Lo w v xs := by
  rcases h with h | ⟨b, off, cap, hv, _, _, _, hc⟩
  · exact .inl h
  · exact .inr ⟨b, off, cap, hv, hc⟩

theorem LoC.kp {w w' : World} {D S : Nat → Prop} {v : Value} {xs : List Int} (h : LoC w D v xs) (hk : Kp w w' S) (hn : ∀ b, D b → ¬ S b) : LoC w' D v xs := by
  rcases h with h | ⟨b, off, cap, hv, hcap, hD, hlt, hc⟩
  · exact .inl h
  · exact .inr ⟨b, off, cap, hv, hcap, hD, Nat.lt_of_lt_of_le hlt hk.size, fun i hi => cell_kp (hc i hi) hk hlt (hn b hD)⟩

/-- a list of lists that is handed in -/
def Ins (w : World) (D : Nat → Prop) (v : Value) (chs : List (List Int)) : Prop :=
  (v = .slice none 0 0 ∧ chs = []) ∨ ∃ lg lcap, v = .slice (some ⟨lg, 0, none⟩) chs.length lcap ∧ D lg ∧ lg < w.heap.size ∧ ∀ i, i < chs.length → ∃ vi, w.cell? ⟨lg, i, none⟩ = some vi ∧ LoC w D vi (chs.getD i [])

theorem Ins.kp {w w' : World} {D S : Nat → Prop} {v : Value} {chs : List (List Int)} (h : Ins w D v chs) (hk : Kp w w' S) (hn : ∀ b, D b → ¬ S b) : Ins w' D v chs := by
  rcases h with h | ⟨lg, lcap, hv, hD, hlt, hc⟩
  · exact .inl h
  · refine .inr ⟨lg, lcap, hv, hD, Nat.lt_of_lt_of_le hlt hk.size, fun i hi => ?_⟩
    obtain ⟨vi, h1, h2⟩ := hc i hi
    exact ⟨vi, cell_kp h1 hk hlt (hn lg hD), h2.kp hk hn⟩

theorem Ins.kept {w w' : World} {D : Nat → Prop} {v : Value} {chs : List (List Int)} (h : Ins w D v chs) (hg : w.grownBy w' none) : Ins w' D v chs := h.kp (Kp.ofNone (S := fun _ => False) hg) (fun _ _ e => e)

theorem Ins.slice {w : World} {D : Nat → Prop} {v : Value} {chs : List (List Int)} (h : Ins w D v chs) : ∃ a c, v = .slice a chs.length c := by
  rcases h with ⟨rfl, rfl⟩ | ⟨lg, lcap, rfl, _⟩
  · exact ⟨none, 0, rfl⟩
  · exact ⟨_, lcap, rfl⟩

theorem Ins.at {w : World} {D : Nat → Prop} {a : Option Addr} {n c : Nat} {chs : List (List Int)} (h : Ins w D (.slice a n c) chs) (k : Nat) (hk : k < chs.length) : ∃ lg vi, a = some ⟨lg, 0, none⟩ ∧ w.cell? ⟨lg, k, none⟩ = some vi ∧ LoC w D vi (chs.getD k []) := by
  rcases h with ⟨_, e⟩ | ⟨lg, lcap, e, _, _, hc⟩
  · rw [e] at hk; simp at hk
  · injection e with e1 _ _
    obtain ⟨vi, h1, h2⟩ := hc k hk
    exact ⟨lg, vi, e1, h1, h2⟩

/-- a part of each list -/
def cutAll (f t : Nat) (chs : List (List Int)) : List (List Int) := chs.map (fun c => (c.drop f).take (t - f))

theorem cutAll_get (f t : Nat) (chs : List (List Int)) (i : Nat) (h : i < chs.length) : (cutAll f t chs).getD i [] = ((chs.getD i []).drop f).take (t - f) := by
  unfold cutAll
  simp [List.getD, h]

theorem map_get_int (xs : List Int) (j : Nat) (hj : j < xs.length) : (xs.map (Value.int .i64))[j]? = some (.int .i64 (xs.getD j 0)) := by
  rw [List.getElem?_map, List.getElem?_eq_getElem hj]
  simp [List.getD, hj]

/-- such lists can be written as a frame -/
theorem Views.chIn {w : World} {D : Nat → Prop} {v : Value} {ls : List (List Int)} (h : Views w D v ls) (hl : ∀ i, i < ls.length → 1 ≤ (ls.getD i []).length ∧ (ls.getD i []).length ≤ 256 ∧ Abs 32768 (ls.getD i [])) : ChIn w v ls := by
  obtain ⟨lg, lcap, hv, _, _, hlt, hc⟩ := h
  refine ⟨lg, lcap, hv, hlt, fun i hi => ?_⟩
  obtain ⟨g, off, cap, _, hgl, h1, hcap, h2⟩ := hc i hi
  obtain ⟨l1, l2, l3⟩ := hl i hi
  refine ⟨g, off, cap, h1, ⟨⟨l1, l2⟩, hcap, hgl, fun j hj => ?_, l3⟩⟩
  have h3 := h2 j (.int .i64 ((ls.getD i []).getD j 0)) (map_get_int _ j hj)
  have e : (⟨g, off, none⟩ : Addr).add j = ⟨g, off + j, none⟩ := by
    unfold Addr.add
    split
    · rename_i e; rw [e, Nat.add_zero]
    · rfl
  rw [e] at h3
  exact h3
end Go.Proofs.YtncmgnmcggkhnaaGreat

namespace Go.Proofs.YtncmgnmcggkhnaaGreat
open Go.RowKit

theorem Lo.drewN {w : World} {v : Value} {xs : List Int} (h : Lo w v xs) (d : Nat) : Lo (w.drewN d) v xs := by
  rcases h with h | ⟨b, off, cap, hv, hc⟩
  · exact .inl h
  · exact .inr ⟨b, off, cap, hv, fun i hi => by rw [World.cell?_drewN]; exact hc i hi⟩

set_option maxHeartbeats 1000000 in
set_option maxRecDepth 20000 in
/-- two lists that are the same -/
theorem ksame_ints (w : World) (v1 v2 : Value) (xs : List Int) (h1 : Lo w v1 xs) (h2 : Lo w v2 xs) (hx : xs.length ≤ 1099511627776) :
    Calls Tryz.prog 12 #[v1, v2] w fun e w' => e = .returned (.bool true) ∧ ∃ d, w' = w.drewN d := by
  obtain ⟨a1, c1, rfl⟩ := h1.slice
  obtain ⟨a2, c2, rfl⟩ := h2.slice
  obtain ⟨n, hn⟩ : ∃ n, xs.length = n := ⟨_, rfl⟩
  rw [hn] at h1 h2 hx ⊢
  have HN : Hid (xs.length = n) := hn
  clear hn
  go_enter Tryz.func12, Tryz.ntmps12
  go_wp2_with fail
  go_loopg [5] n (fun gk t5 wr => ∃ k : Nat, gk + k = n ∧ t5 = .int .i64 k ∧ ∃ d, wr = w.drewN d)
  case atStart => exact ⟨0, rfl, rfl, 0, rfl⟩
  case round =>
    obtain ⟨k, hgk, rfl, d, rfl⟩ := hrel
    by_cases hlt : k < n
    · obtain ⟨b1, o1, rfl, hc1⟩ := h1.at k (by rw [HN.out]; exact hlt)
      obtain ⟨b2, o2, rfl, hc2⟩ := h2.at k (by rw [HN.out]; exact hlt)
      obtain ⟨x, hx'⟩ : ∃ x, xs.getD k 0 = x := ⟨_, rfl⟩
      rw [hx'] at hc1 hc2
      have hkn : (k : Int) < (n : Int) := by omega
      have txx : (x != x) = false := by simp
      clear hx' h1 h2
      go_upto_region 6 with fail
      go_quiet (fail)
      go_wp2
      go_roundg (gk - 1)
      case measure => omega
      case rel => exact ⟨k + 1, by omega, by go_num, _, rfl⟩
    · have hkn : k = n := by omega
      subst hkn
      clear hgk
      go_wp2
      go_ret
      exact ⟨rfl, d, rfl⟩

/-- a sound that is read -/
def SndIn (w : World) (v : Value) (chs : List (List Int)) : Prop :=
  (v = .slice none 0 0 ∧ chs = []) ∨ ∃ lg lcap, v = .slice (some ⟨lg, 0, none⟩) chs.length lcap ∧ ∀ i, i < chs.length → ∃ vi, w.cell? ⟨lg, i, none⟩ = some vi ∧ Lo w vi (chs.getD i [])

theorem Ins.snd {w : World} {D : Nat → Prop} {v : Value} {chs : List (List Int)} (h : Ins w D v chs) : SndIn w v chs := by
  rcases h with h | ⟨lg, lcap, hv, _, _, hc⟩
  · exact .inl h
  · exact .inr ⟨lg, lcap, hv, fun i hi => by obtain ⟨vi, h1, h2⟩ := hc i hi; exact ⟨vi, h1, h2.lo⟩⟩

theorem SndIn.kept {w w' : World} {v : Value} {chs : List (List Int)} (h : SndIn w v chs) (hg : w.grownBy w' none) : SndIn w' v chs := by
  rcases h with h | ⟨lg, lcap, hv, hc⟩
  · exact .inl h
  · exact .inr ⟨lg, lcap, hv, fun i hi => by obtain ⟨vi, h1, h2⟩ := hc i hi; exact ⟨vi, hg.cell h1 (by simp), h2.kept hg⟩⟩

theorem SndIn.slice {w : World} {v : Value} {chs : List (List Int)} (h : SndIn w v chs) : ∃ a c, v = .slice a chs.length c := by
  rcases h with ⟨rfl, rfl⟩ | ⟨lg, lcap, rfl, _⟩
  · exact ⟨none, 0, rfl⟩
  · exact ⟨_, lcap, rfl⟩

theorem SndIn.at {w : World} {a : Option Addr} {n c : Nat} {chs : List (List Int)} (h : SndIn w (.slice a n c) chs) (k : Nat) (hk : k < chs.length) : ∃ lg vi, a = some ⟨lg, 0, none⟩ ∧ w.cell? ⟨lg, k, none⟩ = some vi ∧ Lo w vi (chs.getD k []) := by
  rcases h with ⟨_, e⟩ | ⟨lg, lcap, e, hc⟩
  · rw [e] at hk; simp at hk
  · injection e with e1 _ _
    obtain ⟨vi, h1, h2⟩ := hc k hk
    exact ⟨lg, vi, e1, h1, h2⟩

set_option maxHeartbeats 2000000 in
set_option maxRecDepth 20000 in
theorem ksame (w : World) (v1 v2 : Value) (rate bits : Int) (chs : List (List Int)) (h1 : SndIn w v1 chs) (h2 : SndIn w v2 chs) (hcl : chs.length ≤ 1099511627776) (hlen : ∀ c ∈ chs, c.length ≤ 1099511627776) :
    Calls Tryz.prog 19 #[.agg #[.int .i64 rate, .int .i64 bits, v1], .agg #[.int .i64 rate, .int .i64 bits, v2]] w fun e w' => e = .returned (.bool true) ∧ w.grownBy w' none := by
  obtain ⟨a1, c1, rfl⟩ := h1.slice
  obtain ⟨a2, c2, rfl⟩ := h2.slice
  obtain ⟨n, hn⟩ : ∃ n, chs.length = n := ⟨_, rfl⟩
  rw [hn] at h1 h2 hcl ⊢
  have HN : Hid (chs.length = n) := hn
  obtain ⟨w0, hw0⟩ : ∃ w0, (w.alloc (.cells #[.int .i64 rate, .int .i64 bits, .slice a1 n c1] 25)).alloc (.cells #[.int .i64 rate, .int .i64 bits, .slice a2 n c2] 25) = w0 := ⟨_, rfl⟩
  have hg0 : w.grownBy w0 none := by rw [← hw0]; exact grown_alloc (grown_alloc (grown_refl _ _) _) _
  obtain ⟨gA, hgA⟩ : ∃ gA, w.heap.size = gA := ⟨_, rfl⟩
  have hbA : Box w0 gA #[.int .i64 rate, .int .i64 bits, .slice a1 n c1] 25 := by rw [← hgA, ← hw0]; exact (Box.new w _ _).kept (grown_alloc (grown_refl _ none) _) (by simp)
  have hbB : Box w0 (gA + 1) #[.int .i64 rate, .int .i64 bits, .slice a2 n c2] 25 := by
    have := Box.new (w.alloc (.cells #[.int .i64 rate, .int .i64 bits, .slice a1 n c1] 25)) #[.int .i64 rate, .int .i64 bits, .slice a2 n c2] 25
    rw [hw0, show (w.alloc (.cells #[.int .i64 rate, .int .i64 bits, .slice a1 n c1] 25)).heap.size = gA + 1 by rw [← hgA]; simp] at this
    exact this
  have h1' := h1.kept hg0
  have h2' := h2.kept hg0
  have HW0 : Hid ((w.alloc (.cells #[.int .i64 rate, .int .i64 bits, .slice a1 n c1] 25)).alloc (.cells #[.int .i64 rate, .int .i64 bits, .slice a2 n c2] 25) = w0) := hw0
  have HGA : Hid (w.heap.size = gA) := hgA
  have z0 : w0.cell? ⟨gA, 0, none⟩ = some (.int .i64 rate) := hbA.cell 0
  have z1 : w0.cell? ⟨gA, 1, none⟩ = some (.int .i64 bits) := hbA.cell 1
  have z2 : w0.cell? ⟨gA, 2, none⟩ = some (.slice a1 n c1) := hbA.cell 2
  have y0 : w0.cell? ⟨gA + 1, 0, none⟩ = some (.int .i64 rate) := hbB.cell 0
  have y1 : w0.cell? ⟨gA + 1, 1, none⟩ = some (.int .i64 bits) := hbB.cell 1
  have y2 : w0.cell? ⟨gA + 1, 2, none⟩ = some (.slice a2 n c2) := hbB.cell 2
  have t1 : (rate != rate) = false := by simp
  have t2 : (bits != bits) = false := by simp
  have HLEN : Hid (∀ c ∈ chs, c.length ≤ 1099511627776) := hlen
  have HG0 : Hid (w.grownBy w0 none) := hg0
  clear hw0 hgA hn h1 h2 hbA hbB hg0 hlen
  go_enter Tryz.func19, Tryz.ntmps19
  go_upto_region 1 with fail
  rw [HW0.out, HGA.out]
  go_wp2_with fail
  go_loopg [5] n (fun gk t5 wr => ∃ k : Nat, gk + k = n ∧ t5 = .int .i64 k ∧ ∃ d, wr = w0.drewN d)
  case atStart => exact ⟨0, rfl, rfl, 0, rfl⟩
  case round =>
    obtain ⟨k, hgk, rfl, d, hwr⟩ := hrel
    by_cases hlt : k < n
    · obtain ⟨lg1, u1, rfl, hc1, hl1⟩ := h1'.at k (by rw [HN.out]; exact hlt)
      obtain ⟨lg2, u2, rfl, hc2, hl2⟩ := h2'.at k (by rw [HN.out]; exact hlt)
      obtain ⟨b1, p1, rfl⟩ := hl1.slice
      obtain ⟨b2, p2, rfl⟩ := hl2.slice
      have hkl : (chs.getD k []).length ≤ 1099511627776 := HLEN.out _ (by have := HN.out; simp [List.getD, show k < chs.length by omega])
      have HS := fun d => ksame_ints (w0.drewN d) _ _ _ (hl1.drewN d) (hl2.drewN d) hkl
      obtain ⟨m, hm⟩ : ∃ m, (chs.getD k []).length = m := ⟨_, rfl⟩
      rw [hm] at hc1 hc2 HS
      have hkn : (k : Int) < (n : Int) := by omega
      have Z2 : wr.cell? ⟨gA, 2, none⟩ = some (.slice (some ⟨lg1, 0, none⟩) n c1) := by rw [hwr, World.cell?_drewN]; exact z2
      have Y2 : wr.cell? ⟨gA + 1, 2, none⟩ = some (.slice (some ⟨lg2, 0, none⟩) n c2) := by rw [hwr, World.cell?_drewN]; exact y2
      have C1 : wr.cell? ⟨lg1, k, none⟩ = some (.slice b1 m p1) := by rw [hwr, World.cell?_drewN]; exact hc1
      have C2 : wr.cell? ⟨lg2, k, none⟩ = some (.slice b2 m p2) := by rw [hwr, World.cell?_drewN]; exact hc2
      have HSr : ∀ d', Calls Tryz.prog 12 #[.slice b1 m p1, .slice b2 m p2] (wr.drewN d') fun e w' => e = .returned (.bool true) ∧ ∃ d'', w' = (wr.drewN d').drewN d'' := by
        intro d'
        have := HS (d + d')
        rw [hwr, World.drewN_drewN]
        exact this
      have HWR : Hid (wr = w0.drewN d) := hwr
      clear hc1 hc2 hm hkl HS hl1 hl2 h1' h2' z0 z1 z2 y0 y1 y2 hwr
      go_upto_region 6 with fail
      go_quiet ((go_at_call 12; exact Calls.quiet_of (HSr _)))
      go_wp2
      go_roundg (gk - 1)
      case measure => omega
      case rel => exact ⟨k + 1, by omega, by go_num, _, by rw [HWR.out, World.drewN_drewN]⟩
    · have hkn : k = n := by omega
      subst hkn
      have Z2 : wr.cell? ⟨gA, 2, none⟩ = some (.slice a1 k c1) := by rw [hwr, World.cell?_drewN]; exact z2
      have hgf : w.grownBy wr none := by rw [hwr]; exact grown_drewN HG0.out d
      clear hgk hwr z0 z1 z2 y0 y1 y2 h1' h2'
      go_wp2
      go_ret
      exact ⟨rfl, hgf⟩
end Go.Proofs.YtncmgnmcggkhnaaGreat

/-
  Plain mathematics of check sums, more: a sum behind its own bytes; a byte that is turned.
-/
namespace Go.Proofs.YtncmgnmcggkhnaaGreat
open Go.RowKit

theorem split_xor (b m : Nat) : b = (b / 2 ^ m * 2 ^ m) ^^^ (b % 2 ^ m) := by
  have hlow : b % 2 ^ m < 2 ^ m := Nat.mod_lt _ (Nat.two_pow_pos m)
  have h := Nat.two_pow_add_eq_or_of_lt hlow (b / 2 ^ m)
  have hd := Nat.div_add_mod b (2 ^ m)
  rw [hd] at h
  apply Nat.eq_of_testBit_eq
  intro i
  rw [Nat.testBit_xor]
  have hb' : b.testBit i = (2 ^ m * (b / 2 ^ m) ||| b % 2 ^ m).testBit i := by rw [← h]
  rw [hb', Nat.testBit_or, Nat.mul_comm]
  by_cases hi : i < m
  · rw [show b / 2 ^ m * 2 ^ m = 2 ^ m * (b / 2 ^ m) from Nat.mul_comm _ _, Nat.testBit_two_pow_mul]
    simp [show ¬ m ≤ i by omega]
  · have : (b % 2 ^ m).testBit i = false := Nat.testBit_lt_two_pow (Nat.lt_of_lt_of_le hlow (Nat.pow_le_pow_right (by omega) (by omega)))
    simp [this]

theorem xor_eq_zero_iff' {a b : Nat} (h : a ^^^ b = 0) : a = b := by
  have := congrArg (a ^^^ ·) h
  simpa [← Nat.xor_assoc] using this.symm

theorem xor_left_cancel' {r a b : Nat} (h : r ^^^ a = r ^^^ b) : a = b := by
  have := congrArg (r ^^^ ·) h
  simpa [← Nat.xor_assoc] using this

theorem dbl_zero (w g a : Nat) (hw : 1 ≤ w) (hg : g % 2 = 1) (ha : a < 2 ^ w) (h : dbl w g a = 0) : a = 0 := by
  have e : 2 ^ w = 2 * 2 ^ (w - 1) := by rw [← Nat.pow_succ']; congr 1; omega
  have hp := Nat.two_pow_pos (w - 1)
  unfold dbl at h
  rcases div_two_pow_01 w a hw ha with h1 | h1
  · rw [h1] at h
    have h0 : a < 2 ^ (w - 1) := by
      rcases Nat.lt_or_ge a (2 ^ (w - 1)) with h2 | h2
      · exact h2
      · have := (Nat.le_div_iff_mul_le hp).2 (show 1 * 2 ^ (w - 1) ≤ a by omega)
        omega
    simp at h
    rw [Nat.mod_eq_of_lt (by omega)] at h
    omega
  · rw [h1, if_pos rfl] at h
    have h2 := xor_eq_zero_iff' h
    have h3 : a * 2 % 2 ^ w % 2 = 0 := by
      rw [e, Nat.mod_mul_right_mod]
      omega
    omega

theorem dbl_inj (w g a b : Nat) (hw : 1 ≤ w) (hg : g % 2 = 1) (ha : a < 2 ^ w) (hb : b < 2 ^ w) (h : dbl w g a = dbl w g b) : a = b := by
  apply xor_eq_zero_iff'
  apply dbl_zero w g _ hw hg (Nat.xor_lt_two_pow ha hb)
  rw [dbl_xor w g a b hw ha hb, h, Nat.xor_self]

theorem dblN_inj (w g : Nat) (hw : 1 ≤ w) (hg : g % 2 = 1) (hgl : g < 2 ^ w) : ∀ n a b, a < 2 ^ w → b < 2 ^ w → dblN w g n a = dblN w g n b → a = b
  | 0, _, _, _, _, h => h
  | n + 1, a, b, ha, hb, h => dbl_inj w g a b hw hg ha hb (dblN_inj w g hw hg hgl n _ _ (dbl_lt w g a hgl) (dbl_lt w g b hgl) h)

theorem byte_lt (w b : Nat) (hw : 8 ≤ w) (hb : b < 256) : b * 2 ^ (w - 8) < 2 ^ w := by
  have e : 2 ^ w = 256 * 2 ^ (w - 8) := by
    rw [show (256 : Nat) = 2 ^ 8 from rfl, ← Nat.pow_add]; congr 1; omega
  rw [e]
  exact Nat.mul_lt_mul_of_pos_right hb (Nat.two_pow_pos _)

theorem byteStep_inj (w g r r' b b' : Nat) (hw : 8 ≤ w) (hg : g % 2 = 1) (hgl : g < 2 ^ w) (hr : r < 2 ^ w) (hr' : r' < 2 ^ w) (hb : b < 256) (hb' : b' < 256)
    (h : byteStep w g r b = byteStep w g r' b') : r ^^^ b * 2 ^ (w - 8) = r' ^^^ b' * 2 ^ (w - 8) :=
  dblN_inj w g (by omega) hg hgl 8 _ _ (Nat.xor_lt_two_pow hr (byte_lt w b hw hb)) (Nat.xor_lt_two_pow hr' (byte_lt w b' hw hb')) h

theorem xor_right_cancel' {a b r : Nat} (h : a ^^^ r = b ^^^ r) : a = b := by
  rw [Nat.xor_comm a r, Nat.xor_comm b r] at h
  exact xor_left_cancel' h

theorem crcFrom_inj (w g : Nat) (hw : 8 ≤ w) (hg : g % 2 = 1) (hgl : g < 2 ^ w) : ∀ (l : List UInt8) (r r' : Nat), r < 2 ^ w → r' < 2 ^ w → crcFrom w g r l = crcFrom w g r' l → r = r'
  | [], _, _, _, _, h => h
  | b :: l, r, r', hr, hr', h =>
    xor_right_cancel' (byteStep_inj w g r r' _ _ hw hg hgl hr hr' b.toNat_lt b.toNat_lt
      (crcFrom_inj w g hw hg hgl l _ _ (byteStep_lt w g r _ hw hgl hr b.toNat_lt) (byteStep_lt w g r' _ hw hgl hr' b.toNat_lt) h))

theorem crcFrom_append (w g r : Nat) (l m : List UInt8) : crcFrom w g r (l ++ m) = crcFrom w g (crcFrom w g r l) m := by
  unfold crcFrom; simp

/-- a byte that is turned is seen -/
theorem crc_turned (w g : Nat) (hw : 8 ≤ w) (hg : g % 2 = 1) (hgl : g < 2 ^ w) (l : List UInt8) (k : Nat) (hk : k < l.length) (x : UInt8) (hx : x ≠ l[k]) :
    crc w g (l.set k x) ≠ crc w g l := by
  intro h
  apply hx
  have e1 : l.set k x = l.take k ++ x :: l.drop (k + 1) := List.set_eq_take_append_cons_drop.trans (if_pos hk)
  have e2 : l = l.take k ++ l[k] :: l.drop (k + 1) := by simp
  rw [e1] at h
  conv at h => rhs; rw [e2]
  unfold crc at h
  rw [crcFrom_append, crcFrom_append] at h
  have hlt := crcFrom_lt w g hw hgl (l.take k) 0 (Nat.two_pow_pos _)
  have h2 := crcFrom_inj w g hw hg hgl (l.drop (k + 1)) _ _ (byteStep_lt w g _ x.toNat hw hgl hlt x.toNat_lt) (byteStep_lt w g _ (l[k]).toNat hw hgl hlt (l[k]).toNat_lt) h
  have h3 := xor_left_cancel' (byteStep_inj w g _ _ _ _ hw hg hgl hlt hlt x.toNat_lt (l[k]).toNat_lt h2)
  have h4 := Nat.eq_of_mul_eq_mul_right (Nat.two_pow_pos _) h3
  exact UInt8.toNat_inj.1 h4

theorem self8 (l : List UInt8) (b : UInt8) (h : b.toNat = crc 8 7 l) : crc 8 7 (l ++ [b]) = 0 := by
  rw [crc_snoc, ← h]
  unfold byteStep
  rw [Nat.sub_self, Nat.pow_zero, Nat.mul_one, Nat.xor_self]
  decide +kernel

theorem low16 : ∀ x : Fin 256, dblN 16 32773 8 x.val = x.val * 256 := by decide +kernel

theorem self16 (l : List UInt8) (b c : UInt8) (hb : b.toNat = crc 16 32773 l / 256) (hc : c.toNat = crc 16 32773 l % 256) : crc 16 32773 (l ++ [b, c]) = 0 := by
  rw [show l ++ [b, c] = (l ++ [b]) ++ [c] by simp, crc_snoc, crc_snoc]
  have e := split_xor (crc 16 32773 l) 8
  have hx : crc 16 32773 l ^^^ b.toNat * 2 ^ 8 = c.toNat := by
    rw [hb, hc]
    conv => lhs; lhs; rw [e]
    rw [Nat.xor_comm, ← Nat.xor_assoc]
    show crc 16 32773 l / 256 * 256 ^^^ crc 16 32773 l / 256 * 256 ^^^ _ = _
    rw [Nat.xor_self, Nat.zero_xor]
  have h1 : byteStep 16 32773 (crc 16 32773 l) b.toNat = c.toNat * 256 := by
    unfold byteStep
    show dblN 16 32773 8 (crc 16 32773 l ^^^ b.toNat * 2 ^ 8) = _
    rw [hx]
    exact low16 ⟨c.toNat, c.toNat_lt⟩
  rw [h1]
  unfold byteStep
  show dblN 16 32773 8 (c.toNat * 256 ^^^ c.toNat * 256) = 0
  rw [Nat.xor_self]
  decide +kernel

end Go.Proofs.YtncmgnmcggkhnaaGreat

namespace Go.Proofs.YtncmgnmcggkhnaaGreat
open Go.RowKit

set_option maxHeartbeats 400000 in
theorem pick_any (c : Int) (n : Nat) (w : World) (h0 : -9223372036854775808 ≤ c) (h1 : c ≤ 9223372036854775807) (hn : 1 ≤ n) (hn1 : n ≤ 9223372036854775807) :
    Calls Tryz.prog 9 #[.int .i64 c, .int .i64 n] w fun e w' => ∃ k : Nat, k < n ∧ e = .returned (.int .i64 k) ∧ w' = w := by
  have hn' : (n : Int) ≠ 0 := by omega
  by_cases hc : c < 0
  · go_enter Tryz.func9, Tryz.ntmps9
    go_wp2
    go_ret
    refine ⟨((-(c + 1)) % n).toNat, ?_, ret_int ?_, rfl⟩
    · have := Int.emod_lt_of_pos (-(c + 1)) (show (0 : Int) < n by omega)
      have := Int.emod_nonneg (-(c + 1)) hn'
      omega
    · have := Int.emod_nonneg (-(c + 1)) hn'
      rw [← Int.neg_tmod, Int.tmod_eq_emod_of_nonneg (by omega)]
      omega
  · go_enter Tryz.func9, Tryz.ntmps9
    go_wp2
    go_ret
    refine ⟨(c % n).toNat, ?_, ret_int ?_, rfl⟩
    · have := Int.emod_lt_of_pos c (show (0 : Int) < n by omega)
      have := Int.emod_nonneg c hn'
      omega
    · have := Int.emod_nonneg c hn'
      omega

theorem cv1 (w : World) (c : Int) : (convert 30 9 (.slice (some ⟨w.heap.size, 0, none⟩) 1 1)).run Tryz.prog (w.alloc (.cells #[.int .u8 c] 5)) = .ok (.string (strOfNums [c])) (w.alloc (.cells #[.int .u8 c] 5)) :=
  run_convert_bytes_arg _ 30 5 Tryz.underlying30 Tryz.underlying5 w.heap.size 0 1 1 [c] rfl (fun i hi => by
    obtain rfl : i = 0 := by omega
    rw [World.cell?_alloc_new]; rfl) 9 Tryz.underlying9

theorem cv2 (w : World) (o : Obj) (c d : Int) : (convert 30 9 (.slice (some ⟨w.heap.size + 1, 0, none⟩) 2 2)).run Tryz.prog ((w.alloc o).alloc (.cells #[.int .u8 c, .int .u8 d] 5)) = .ok (.string (strOfNums [c, d])) ((w.alloc o).alloc (.cells #[.int .u8 c, .int .u8 d] 5)) :=
  run_convert_bytes_arg _ 30 5 Tryz.underlying30 Tryz.underlying5 (w.heap.size + 1) 0 2 2 [c, d] rfl (fun i hi => by
    rcases (show i = 0 ∨ i = 1 by omega) with rfl | rfl <;> (rw [World.cell?_alloc_at _ _ _ _ (by simp)]; rfl)) 9 Tryz.underlying9

theorem append_data (s : ByteArray) (xs : List Int) : (s ++ strOfNums xs).data.toList = s.data.toList ++ xs.map fun n => UInt8.ofNat n.toNat := by
  rw [ByteArray.data_append]; simp [strOfNums]

theorem call3 (s : ByteArray) (c : Nat) (hs : s.size ≤ 140737488351232) (hc : crc 8 7 s.data.toList = c) (w : World) :
    Calls Tryz.prog 38 #[.string (s ++ strOfNums [(c : Int)])] w fun e w' => e = .returned (.int .i64 0) ∧ w' = w := by
  have hc1 : c < 256 := hc ▸ crc_lt 8 7 (by omega) (by omega) _
  refine (crc8_any _ w (by rw [ByteArray.size_append, strOfNums_size]; unfold maxLen; simp; omega)).mono ?_
  rintro e w' ⟨rfl, rfl⟩
  refine ⟨ret_int ?_, rfl⟩
  rw [append_data]
  have := self8 s.data.toList (UInt8.ofNat (c : Int).toNat) (by rw [hc]; simp; omega)
  exact congrArg Int.ofNat this

theorem call4 (s : ByteArray) (d : Nat) (hs : s.size ≤ 140737488351232) (hd : crc 16 32773 s.data.toList = d) (x y : Int) (hx : x = d / 256) (hy : y = d % 256) (w : World) :
    Calls Tryz.prog 42 #[.string (s ++ strOfNums [x, y])] w fun e w' => e = .returned (.int .i64 0) ∧ w' = w := by
  have hd1 : d < 65536 := hd ▸ crc_lt 16 32773 (by omega) (by omega) _
  refine (crc16_any _ w (by rw [ByteArray.size_append, strOfNums_size]; unfold maxLen; simp; omega)).mono ?_
  rintro e w' ⟨rfl, rfl⟩
  refine ⟨ret_int ?_, rfl⟩
  rw [append_data]
  have := self16 s.data.toList (UInt8.ofNat x.toNat) (UInt8.ofNat y.toNat) (by rw [hd]; simp; omega) (by rw [hd]; simp; omega)
  exact congrArg Int.ofNat this

theorem one8 : crc 8 7 [1] = 7 := by decide +kernel
theorem one16 : crc 16 32773 [1] = 32773 := by decide +kernel

theorem call5 (w : World) : Calls Tryz.prog 38 #[.string ⟨#[1]⟩] w fun e w' => e = .returned (.int .i64 7) ∧ w' = w := by
  refine (crc8_any _ w (by decide)).mono ?_
  rintro e w' ⟨rfl, rfl⟩
  exact ⟨ret_int (congrArg Int.ofNat one8), rfl⟩

theorem call6 (w : World) : Calls Tryz.prog 42 #[.string ⟨#[1]⟩] w fun e w' => e = .returned (.int .i64 32773) ∧ w' = w := by
  refine (crc16_any _ w (by decide)).mono ?_
  rintro e w' ⟨rfl, rfl⟩
  exact ⟨ret_int (congrArg Int.ofNat one16), rfl⟩

theorem row_get (s : ByteArray) (cap k : Nat) (hk : k < s.size) : (bytesRow s cap)[k]? = some (.int .u8 (s[k].toNat : Int)) := by
  unfold bytesRow
  have h : k < s.data.size := hk
  rw [Array.getElem?_append_left (by simpa using h), Array.getElem?_map, Array.getElem?_eq_getElem h]
  rfl

theorem row_size (s : ByteArray) (cap : Nat) : s.size ≤ (bytesRow s cap).size := by
  unfold bytesRow
  rw [Array.size_append, Array.size_map]
  exact Nat.le_add_right _ _

theorem row_cell (w : World) (s : ByteArray) (cap k : Nat) (hk : k < s.size) {b : Nat} (hb : b = w.heap.size) :
    (w.alloc (.cells (bytesRow s cap) 5 ((bytesRow s cap).size, (bytesRow s cap).size + 1))).drew.cell? ⟨b, k, none⟩ = some (.int .u8 (s[k].toNat : Int)) := by
  subst hb
  rw [World.cell?_drew, World.cell?_alloc_mark, row_get s cap k hk]

theorem row_frozen (w : World) (s : ByteArray) (cap k : Nat) (hk : k < s.size) {b : Nat} (hb : b = w.heap.size) :
    (w.alloc (.cells (bytesRow s cap) 5 ((bytesRow s cap).size, (bytesRow s cap).size + 1))).drew.frozen? ⟨b, k, none⟩ = false := by
  subst hb
  have h := row_size s cap
  have e : (w.alloc (.cells (bytesRow s cap) 5 ((bytesRow s cap).size, (bytesRow s cap).size + 1))).drew.heap[w.heap.size]? = some (.cells (bytesRow s cap) 5 ((bytesRow s cap).size, (bytesRow s cap).size + 1)) := by
    show (w.heap.push _)[w.heap.size]? = _
    simp
  unfold World.frozen?
  simp only [e]
  simp
  omega

theorem bits_xor_u8 (a b : Nat) (ha : a < 256) (hb : b < 256) : bits .xor .u8 (a : Int) (b : Int) = ((a ^^^ b : Nat) : Int) := by
  have hx : a ^^^ b < 2 ^ 8 := Nat.xor_lt_two_pow (by omega) (by omega)
  have e : (BitVec.ofInt 8 (a : Int) ^^^ BitVec.ofInt 8 (b : Int)).toNat = a ^^^ b := by
    rw [BitVec.toNat_xor, BitVec.toNat_ofInt, BitVec.toNat_ofInt]
    congr 1 <;> omega
  show IntKind.wrap .u8 ((BitVec.ofInt 8 (a : Int) ^^^ BitVec.ofInt 8 (b : Int)).toNat : Int) = _
  rw [e, IntKind.wrap_u8]
  omega

theorem turned (w : World) (b k cap x : Nat) (s : ByteArray) (hk : k < s.size) (hx : x < 255)
    (hc : ∀ j (hj : j < s.size), w.cell? ⟨b, j, none⟩ = some (.int .u8 (s[j].toNat : Int))) :
    ∃ s' : ByteArray, ∃ y : UInt8, s'.size = s.size ∧ s'.data.toList = s.data.toList.set k y ∧ y ≠ s[k] ∧
      (convert 30 9 (.slice (some ⟨b, 0, none⟩) s.size cap)).run Tryz.prog (w.setCell ⟨b, k, none⟩ (.int .u8 (bits .xor .u8 (s[k].toNat : Int) (IntKind.u8.wrap (IntKind.i64.wrap (1 + (x : Int))))))).drew
        = .ok (.string s') (w.setCell ⟨b, k, none⟩ (.int .u8 (bits .xor .u8 (s[k].toNat : Int) (IntKind.u8.wrap (IntKind.i64.wrap (1 + (x : Int))))))).drew := by
  have hlt := s[k].toNat_lt
  have ev : bits .xor .u8 (s[k].toNat : Int) (IntKind.u8.wrap (IntKind.i64.wrap (1 + (x : Int)))) = ((s[k].toNat ^^^ (x + 1) : Nat) : Int) := by
    rw [IntKind.wrap_u8, IntKind.wrap_i64, show ((1 + (x : Int) + 9223372036854775808) % 18446744073709551616 - 9223372036854775808) % 256 = ((x + 1 : Nat) : Int) by omega]
    exact bits_xor_u8 _ _ hlt (by omega)
  rw [ev]
  generalize hv : s[k].toNat ^^^ (x + 1) = v
  have hv1 : v < 256 := by rw [← hv]; exact Nat.xor_lt_two_pow (n := 8) hlt (by omega)
  have hv2 : v ≠ s[k].toNat := by
    intro h
    rw [← hv] at h
    have := xor_left_cancel' (r := s[k].toNat) (a := x + 1) (b := 0) (by rw [h, Nat.xor_zero])
    omega
  have hl : s.data.toList.length = s.size := by simp
  refine ⟨strOfNums ((s.data.toList.map fun z => (z.toNat : Int)).set k v), UInt8.ofNat v, ?_, ?_, ?_, ?_⟩
  · rw [strOfNums_size]; simp
  · rw [strOfNums_data, List.map_set]
    congr 1
    rw [List.map_map]
    conv => rhs; rw [← List.map_id s.data.toList]
    apply List.map_congr_left
    intro z _
    simp
  · intro h
    apply hv2
    rw [← h]
    simp
    omega
  · refine run_convert_bytes_arg _ 30 5 Tryz.underlying30 Tryz.underlying5 b 0 s.size cap _ (by simp) (fun i hi => ?_) 9 Tryz.underlying9
    rw [World.cell?_drew, Nat.zero_add]
    by_cases hik : i = k
    · subst hik
      rw [World.cell?_setCell_same _ _ _ (hc i hi)]
      simp [List.getD, hi]
    · rw [World.cell?_setCell_other _ _ _ _ (fun h => hik (by injection h with _ h2; exact h2.symm)), hc i hi]
      have hi' : i < s.data.size := hi
      simp [List.getD, Ne.symm hik]
      rw [Array.getElem?_eq_getElem hi']
      rfl

theorem same_of (P : Program) (f : Nat) (args : Array Value) (r : Int) (h : ∀ w, Calls P f args w fun e w' => e = .returned (.int .i64 r) ∧ w' = w) (w : World) :
    Calls P f args w fun e w' => e = .returned (.int .i64 r) ∧ w = w' :=
  (h w).mono fun _ _ ⟨a, b⟩ => ⟨a, b.symm⟩

end Go.Proofs.YtncmgnmcggkhnaaGreat
