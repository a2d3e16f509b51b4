import Derived.Test.YtncmgnmcggkhnaaEncProofJ22
import Derived.Test.YtncmgnmcggkhnaaEncProofJ27
import Derived.Deep.LoopGhost
import Derived.BigQuiet
namespace Go.Proofs.Ytncmgnmcggkhnaa
open Go.RowKit

/-- a list of ints that is handed in, with its room; in a block of `D` -/
def LoC (w : World) (D : Nat → Prop) (v : Value) (xs : List Int) : Prop :=
  (v = .slice none 0 0 ∧ xs = []) ∨ ∃ b off cap, v = .slice (some ⟨b, off, none⟩) xs.length cap ∧ xs.length ≤ cap ∧ D b ∧ b < w.heap.size ∧ ∀ i, i < xs.length → w.cell? ⟨b, off + i, none⟩ = some (.int .i64 (xs.getD i 0))

theorem LoC.lo {w : World} {D : Nat → Prop} {v : Value} {xs : List Int} (h : LoC w D v xs) : Lo w v xs := by
  rcases h with h | ⟨b, off, cap, hv, _, _, _, hc⟩
  · exact .inl h
  · exact .inr ⟨b, off, cap, hv, hc⟩

theorem LoC.kp {w w' : World} {D S : Nat → Prop} {v : Value} {xs : List Int} (h : LoC w D v xs) (hk : Kp w w' S) (hn : ∀ b, D b → ¬ S b) : LoC w' D v xs := by
  rcases h with h | ⟨b, off, cap, hv, hcap, hD, hlt, hc⟩
  · exact .inl h
  · exact .inr ⟨b, off, cap, hv, hcap, hD, Nat.lt_of_lt_of_le hlt hk.size, fun i hi => cell_kp (hc i hi) hk hlt (hn b hD)⟩

/-- a list of lists that is handed in -/
def Ins (w : World) (D : Nat → Prop) (v : Value) (chs : List (List Int)) : Prop :=
  (v = .slice none 0 0 ∧ chs = []) ∨ ∃ lg lcap, v = .slice (some ⟨lg, 0, none⟩) chs.length lcap ∧ D lg ∧ lg < w.heap.size ∧ ∀ i, i < chs.length → ∃ vi, w.cell? ⟨lg, i, none⟩ = some vi ∧ LoC w D vi (chs.getD i [])

theorem Ins.kp {w w' : World} {D S : Nat → Prop} {v : Value} {chs : List (List Int)} (h : Ins w D v chs) (hk : Kp w w' S) (hn : ∀ b, D b → ¬ S b) : Ins w' D v chs := by
  rcases h with h | ⟨lg, lcap, hv, hD, hlt, hc⟩
  · exact .inl h
  · refine .inr ⟨lg, lcap, hv, hD, Nat.lt_of_lt_of_le hlt hk.size, fun i hi => ?_⟩
    obtain ⟨vi, h1, h2⟩ := hc i hi
    exact ⟨vi, cell_kp h1 hk hlt (hn lg hD), h2.kp hk hn⟩

theorem Ins.kept {w w' : World} {D : Nat → Prop} {v : Value} {chs : List (List Int)} (h : Ins w D v chs) (hg : w.grownBy w' none) : Ins w' D v chs := h.kp (Kp.ofNone (S := fun _ => False) hg) (fun _ _ e => e)

theorem Ins.slice {w : World} {D : Nat → Prop} {v : Value} {chs : List (List Int)} (h : Ins w D v chs) : ∃ a c, v = .slice a chs.length c := by
  rcases h with ⟨rfl, rfl⟩ | ⟨lg, lcap, rfl, _⟩
  · exact ⟨none, 0, rfl⟩
  · exact ⟨_, lcap, rfl⟩

theorem Ins.at {w : World} {D : Nat → Prop} {a : Option Addr} {n c : Nat} {chs : List (List Int)} (h : Ins w D (.slice a n c) chs) (k : Nat) (hk : k < chs.length) : ∃ lg vi, a = some ⟨lg, 0, none⟩ ∧ w.cell? ⟨lg, k, none⟩ = some vi ∧ LoC w D vi (chs.getD k []) := by
  rcases h with ⟨_, e⟩ | ⟨lg, lcap, e, _, _, hc⟩
  · rw [e] at hk; simp at hk
  · injection e with e1 _ _
    obtain ⟨vi, h1, h2⟩ := hc k hk
    exact ⟨lg, vi, e1, h1, h2⟩

/-- a part of each list -/
def cutAll (f t : Nat) (chs : List (List Int)) : List (List Int) := chs.map (fun c => (c.drop f).take (t - f))

theorem cutAll_get (f t : Nat) (chs : List (List Int)) (i : Nat) (h : i < chs.length) : (cutAll f t chs).getD i [] = ((chs.getD i []).drop f).take (t - f) := by
  unfold cutAll
  simp [List.getD, h]

theorem map_get_int (xs : List Int) (j : Nat) (hj : j < xs.length) : (xs.map (Value.int .i64))[j]? = some (.int .i64 (xs.getD j 0)) := by
  rw [List.getElem?_map, List.getElem?_eq_getElem hj]
  simp [List.getD, hj]

/-- such lists can be written as a frame -/
theorem Views.chIn {w : World} {D : Nat → Prop} {v : Value} {ls : List (List Int)} (h : Views w D v ls) (hl : ∀ i, i < ls.length → 1 ≤ (ls.getD i []).length ∧ (ls.getD i []).length ≤ 256 ∧ Abs 32768 (ls.getD i [])) : ChIn w v ls := by
  obtain ⟨lg, lcap, hv, _, _, hlt, hc⟩ := h
  refine ⟨lg, lcap, hv, hlt, fun i hi => ?_⟩
  obtain ⟨g, off, cap, _, hgl, h1, hcap, h2⟩ := hc i hi
  obtain ⟨l1, l2, l3⟩ := hl i hi
  refine ⟨g, off, cap, h1, ⟨⟨l1, l2⟩, hcap, hgl, fun j hj => ?_, l3⟩⟩
  have h3 := h2 j (.int .i64 ((ls.getD i []).getD j 0)) (map_get_int _ j hj)
  have e : (⟨g, off, none⟩ : Addr).add j = ⟨g, off + j, none⟩ := by
    unfold Addr.add
    split
    · rename_i e; rw [e, Nat.add_zero]
    · rfl
  rw [e] at h3
  exact h3
end Go.Proofs.Ytncmgnmcggkhnaa

namespace Go.Proofs.Ytncmgnmcggkhnaa
open Go.RowKit

theorem Lo.drewN {w : World} {v : Value} {xs : List Int} (h : Lo w v xs) (d : Nat) : Lo (w.drewN d) v xs := by
  rcases h with h | ⟨b, off, cap, hv, hc⟩
  · exact .inl h
  · exact .inr ⟨b, off, cap, hv, fun i hi => by rw [World.cell?_drewN]; exact hc i hi⟩

set_option maxHeartbeats 1000000 in
set_option maxRecDepth 20000 in
/-- two lists that are the same -/
theorem ksame_ints (w : World) (v1 v2 : Value) (xs : List Int) (h1 : Lo w v1 xs) (h2 : Lo w v2 xs) (hx : xs.length ≤ 1099511627776) :
    Calls Try.prog 37 #[v1, v2] w fun e w' => e = .returned (.bool true) ∧ ∃ d, w' = w.drewN d := by
  obtain ⟨a1, c1, rfl⟩ := h1.slice
  obtain ⟨a2, c2, rfl⟩ := h2.slice
  obtain ⟨n, hn⟩ : ∃ n, xs.length = n := ⟨_, rfl⟩
  rw [hn] at h1 h2 hx ⊢
  have HN : Hid (xs.length = n) := hn
  clear hn
  go_enter Try.func37, Try.ntmps37
  go_wp2_with fail
  go_loopg [5] n (fun gk t5 wr => ∃ k : Nat, gk + k = n ∧ t5 = .int .i64 k ∧ ∃ d, wr = w.drewN d)
  case atStart => exact ⟨0, rfl, rfl, 0, rfl⟩
  case round =>
    obtain ⟨k, hgk, rfl, d, rfl⟩ := hrel
    by_cases hlt : k < n
    · obtain ⟨b1, o1, rfl, hc1⟩ := h1.at k (by rw [HN.out]; exact hlt)
      obtain ⟨b2, o2, rfl, hc2⟩ := h2.at k (by rw [HN.out]; exact hlt)
      obtain ⟨x, hx'⟩ : ∃ x, xs.getD k 0 = x := ⟨_, rfl⟩
      rw [hx'] at hc1 hc2
      have hkn : (k : Int) < (n : Int) := by omega
      have txx : (x != x) = false := by simp
      clear hx' h1 h2
      go_upto_region 6 with fail
      go_quiet (fail)
      go_wp2
      go_roundg (gk - 1)
      case measure => omega
      case rel => exact ⟨k + 1, by omega, by go_num, _, rfl⟩
    · have hkn : k = n := by omega
      subst hkn
      clear hgk
      go_wp2
      go_ret
      exact ⟨rfl, d, rfl⟩

/-- a sound that is read -/
def SndIn (w : World) (v : Value) (chs : List (List Int)) : Prop :=
  (v = .slice none 0 0 ∧ chs = []) ∨ ∃ lg lcap, v = .slice (some ⟨lg, 0, none⟩) chs.length lcap ∧ ∀ i, i < chs.length → ∃ vi, w.cell? ⟨lg, i, none⟩ = some vi ∧ Lo w vi (chs.getD i [])

theorem Ins.snd {w : World} {D : Nat → Prop} {v : Value} {chs : List (List Int)} (h : Ins w D v chs) : SndIn w v chs := by
  rcases h with h | ⟨lg, lcap, hv, _, _, hc⟩
  · exact .inl h
  · exact .inr ⟨lg, lcap, hv, fun i hi => by obtain ⟨vi, h1, h2⟩ := hc i hi; exact ⟨vi, h1, h2.lo⟩⟩

theorem SndIn.kept {w w' : World} {v : Value} {chs : List (List Int)} (h : SndIn w v chs) (hg : w.grownBy w' none) : SndIn w' v chs := by
  rcases h with h | ⟨lg, lcap, hv, hc⟩
  · exact .inl h
  · exact .inr ⟨lg, lcap, hv, fun i hi => by obtain ⟨vi, h1, h2⟩ := hc i hi; exact ⟨vi, hg.cell h1 (by simp), h2.kept hg⟩⟩

theorem SndIn.slice {w : World} {v : Value} {chs : List (List Int)} (h : SndIn w v chs) : ∃ a c, v = .slice a chs.length c := by
  rcases h with ⟨rfl, rfl⟩ | ⟨lg, lcap, rfl, _⟩
  · exact ⟨none, 0, rfl⟩
  · exact ⟨_, lcap, rfl⟩

theorem SndIn.at {w : World} {a : Option Addr} {n c : Nat} {chs : List (List Int)} (h : SndIn w (.slice a n c) chs) (k : Nat) (hk : k < chs.length) : ∃ lg vi, a = some ⟨lg, 0, none⟩ ∧ w.cell? ⟨lg, k, none⟩ = some vi ∧ Lo w vi (chs.getD k []) := by
  rcases h with ⟨_, e⟩ | ⟨lg, lcap, e, hc⟩
  · rw [e] at hk; simp at hk
  · injection e with e1 _ _
    obtain ⟨vi, h1, h2⟩ := hc k hk
    exact ⟨lg, vi, e1, h1, h2⟩

set_option maxHeartbeats 2000000 in
set_option maxRecDepth 20000 in
theorem ksame (w : World) (v1 v2 : Value) (rate bits : Int) (chs : List (List Int)) (h1 : SndIn w v1 chs) (h2 : SndIn w v2 chs) (hcl : chs.length ≤ 1099511627776) (hlen : ∀ c ∈ chs, c.length ≤ 1099511627776) :
    Calls Try.prog 58 #[.agg #[.int .i64 rate, .int .i64 bits, v1], .agg #[.int .i64 rate, .int .i64 bits, v2]] w fun e w' => e = .returned (.bool true) ∧ w.grownBy w' none := by
  obtain ⟨a1, c1, rfl⟩ := h1.slice
  obtain ⟨a2, c2, rfl⟩ := h2.slice
  obtain ⟨n, hn⟩ : ∃ n, chs.length = n := ⟨_, rfl⟩
  rw [hn] at h1 h2 hcl ⊢
  have HN : Hid (chs.length = n) := hn
  obtain ⟨w0, hw0⟩ : ∃ w0, (w.alloc (.cells #[.int .i64 rate, .int .i64 bits, .slice a1 n c1] 26)).alloc (.cells #[.int .i64 rate, .int .i64 bits, .slice a2 n c2] 26) = w0 := ⟨_, rfl⟩
  have hg0 : w.grownBy w0 none := by rw [← hw0]; exact grown_alloc (grown_alloc (grown_refl _ _) _) _
  obtain ⟨gA, hgA⟩ : ∃ gA, w.heap.size = gA := ⟨_, rfl⟩
  have hbA : Box w0 gA #[.int .i64 rate, .int .i64 bits, .slice a1 n c1] 26 := by rw [← hgA, ← hw0]; exact (Box.new w _ _).kept (grown_alloc (grown_refl _ none) _) (by simp)
  have hbB : Box w0 (gA + 1) #[.int .i64 rate, .int .i64 bits, .slice a2 n c2] 26 := by
    have := Box.new (w.alloc (.cells #[.int .i64 rate, .int .i64 bits, .slice a1 n c1] 26)) #[.int .i64 rate, .int .i64 bits, .slice a2 n c2] 26
    rw [hw0, show (w.alloc (.cells #[.int .i64 rate, .int .i64 bits, .slice a1 n c1] 26)).heap.size = gA + 1 by rw [← hgA]; simp] at this
    exact this
  have h1' := h1.kept hg0
  have h2' := h2.kept hg0
  have HW0 : Hid ((w.alloc (.cells #[.int .i64 rate, .int .i64 bits, .slice a1 n c1] 26)).alloc (.cells #[.int .i64 rate, .int .i64 bits, .slice a2 n c2] 26) = w0) := hw0
  have HGA : Hid (w.heap.size = gA) := hgA
  have z0 : w0.cell? ⟨gA, 0, none⟩ = some (.int .i64 rate) := hbA.cell 0
  have z1 : w0.cell? ⟨gA, 1, none⟩ = some (.int .i64 bits) := hbA.cell 1
  have z2 : w0.cell? ⟨gA, 2, none⟩ = some (.slice a1 n c1) := hbA.cell 2
  have y0 : w0.cell? ⟨gA + 1, 0, none⟩ = some (.int .i64 rate) := hbB.cell 0
  have y1 : w0.cell? ⟨gA + 1, 1, none⟩ = some (.int .i64 bits) := hbB.cell 1
  have y2 : w0.cell? ⟨gA + 1, 2, none⟩ = some (.slice a2 n c2) := hbB.cell 2
  have t1 : (rate != rate) = false := by simp
  have t2 : (bits != bits) = false := by simp
  have HLEN : Hid (∀ c ∈ chs, c.length ≤ 1099511627776) := hlen
  have HG0 : Hid (w.grownBy w0 none) := hg0
  clear hw0 hgA hn h1 h2 hbA hbB hg0 hlen
  go_enter Try.func58, Try.ntmps58
  go_upto_region 1 with fail
  rw [HW0.out, HGA.out]
  go_wp2_with fail
  go_loopg [5] n (fun gk t5 wr => ∃ k : Nat, gk + k = n ∧ t5 = .int .i64 k ∧ ∃ d, wr = w0.drewN d)
  case atStart => exact ⟨0, rfl, rfl, 0, rfl⟩
  case round =>
    obtain ⟨k, hgk, rfl, d, hwr⟩ := hrel
    by_cases hlt : k < n
    · obtain ⟨lg1, u1, rfl, hc1, hl1⟩ := h1'.at k (by rw [HN.out]; exact hlt)
      obtain ⟨lg2, u2, rfl, hc2, hl2⟩ := h2'.at k (by rw [HN.out]; exact hlt)
      obtain ⟨b1, p1, rfl⟩ := hl1.slice
      obtain ⟨b2, p2, rfl⟩ := hl2.slice
      have hkl : (chs.getD k []).length ≤ 1099511627776 := HLEN.out _ (by have := HN.out; simp [List.getD, show k < chs.length by omega])
      have HS := fun d => ksame_ints (w0.drewN d) _ _ _ (hl1.drewN d) (hl2.drewN d) hkl
      obtain ⟨m, hm⟩ : ∃ m, (chs.getD k []).length = m := ⟨_, rfl⟩
      rw [hm] at hc1 hc2 HS
      have hkn : (k : Int) < (n : Int) := by omega
      have Z2 : wr.cell? ⟨gA, 2, none⟩ = some (.slice (some ⟨lg1, 0, none⟩) n c1) := by rw [hwr, World.cell?_drewN]; exact z2
      have Y2 : wr.cell? ⟨gA + 1, 2, none⟩ = some (.slice (some ⟨lg2, 0, none⟩) n c2) := by rw [hwr, World.cell?_drewN]; exact y2
      have C1 : wr.cell? ⟨lg1, k, none⟩ = some (.slice b1 m p1) := by rw [hwr, World.cell?_drewN]; exact hc1
      have C2 : wr.cell? ⟨lg2, k, none⟩ = some (.slice b2 m p2) := by rw [hwr, World.cell?_drewN]; exact hc2
      have HSr : ∀ d', Calls Try.prog 37 #[.slice b1 m p1, .slice b2 m p2] (wr.drewN d') fun e w' => e = .returned (.bool true) ∧ ∃ d'', w' = (wr.drewN d').drewN d'' := by
        intro d'
        have := HS (d + d')
        rw [hwr, World.drewN_drewN]
        exact this
      have HWR : Hid (wr = w0.drewN d) := hwr
      clear hc1 hc2 hm hkl HS hl1 hl2 h1' h2' z0 z1 z2 y0 y1 y2 hwr
      go_upto_region 6 with fail
      go_quiet ((go_at_call 37; exact Calls.quiet_of (HSr _)))
      go_wp2
      go_roundg (gk - 1)
      case measure => omega
      case rel => exact ⟨k + 1, by omega, by go_num, _, by rw [HWR.out, World.drewN_drewN]⟩
    · have hkn : k = n := by omega
      subst hkn
      have Z2 : wr.cell? ⟨gA, 2, none⟩ = some (.slice a1 k c1) := by rw [hwr, World.cell?_drewN]; exact z2
      have hgf : w.grownBy wr none := by rw [hwr]; exact grown_drewN HG0.out d
      clear hgk hwr z0 z1 z2 y0 y1 y2 h1' h2'
      go_wp2
      go_ret
      exact ⟨rfl, hgf⟩
end Go.Proofs.Ytncmgnmcggkhnaa

namespace Go.Proofs.Ytncmgnmcggkhnaa
open Go.RowKit

/-- a list that comes in: an empty one's address may be anything -/
def RinC (w : World) (v : Value) (raw : List Int) : Prop :=
  ∃ a c, v = .slice a raw.length c ∧ raw.length ≤ c ∧ ∀ k, k < raw.length → ∃ b off, a = some ⟨b, off, none⟩ ∧ w.cell? ⟨b, off + k, none⟩ = some (.int .i64 (raw.getD k 0))

theorem RinC.slice {w : World} {v : Value} {l : List Int} (h : RinC w v l) : ∃ a c, v = .slice a l.length c ∧ l.length ≤ c := by
  obtain ⟨a, c, h1, h2, _⟩ := h
  exact ⟨a, c, h1, h2⟩

theorem RinC.at {w : World} {a : Option Addr} {n c : Nat} {l : List Int} (h : RinC w (.slice a n c) l) (k : Nat) (hk : k < l.length) : ∃ b off, a = some ⟨b, off, none⟩ ∧ w.cell? ⟨b, off + k, none⟩ = some (.int .i64 (l.getD k 0)) := by
  obtain ⟨a', c', e, _, h3⟩ := h
  injection e with e1 _ _
  subst e1
  exact h3 k hk

theorem RinC.kept {w w' : World} {v : Value} {l : List Int} (h : RinC w v l) (hg : w.grownBy w' none) : RinC w' v l := by
  obtain ⟨a, c, h1, h2, h3⟩ := h
  exact ⟨a, c, h1, h2, fun k hk => by obtain ⟨b, off, h4, h5⟩ := h3 k hk; exact ⟨b, off, h4, hg.cell h5 (by simp)⟩⟩

theorem RinC.drewN {w : World} {v : Value} {l : List Int} (h : RinC w v l) (d : Nat) : RinC (w.drewN d) v l := by
  obtain ⟨a, c, h1, h2, h3⟩ := h
  exact ⟨a, c, h1, h2, fun k hk => by obtain ⟨b, off, h4, h5⟩ := h3 k hk; exact ⟨b, off, h4, by rw [World.cell?_drewN]; exact h5⟩⟩

/-- a list of lists that comes in -/
def RSnd (w : World) (v : Value) (chs : List (List Int)) : Prop :=
  ∃ a c, v = .slice a chs.length c ∧ ∀ k, k < chs.length → ∃ b off vi, a = some ⟨b, off, none⟩ ∧ w.cell? ⟨b, off + k, none⟩ = some vi ∧ RinC w vi (chs.getD k [])

theorem RSnd.slice {w : World} {v : Value} {chs : List (List Int)} (h : RSnd w v chs) : ∃ a c, v = .slice a chs.length c := by
  obtain ⟨a, c, h1, _⟩ := h
  exact ⟨a, c, h1⟩

theorem RSnd.at {w : World} {a : Option Addr} {n c : Nat} {chs : List (List Int)} (h : RSnd w (.slice a n c) chs) (k : Nat) (hk : k < chs.length) : ∃ b off vi, a = some ⟨b, off, none⟩ ∧ w.cell? ⟨b, off + k, none⟩ = some vi ∧ RinC w vi (chs.getD k []) := by
  obtain ⟨a', c', e, h3⟩ := h
  injection e with e1 _ _
  subst e1
  exact h3 k hk

theorem RSnd.kept {w w' : World} {v : Value} {chs : List (List Int)} (h : RSnd w v chs) (hg : w.grownBy w' none) : RSnd w' v chs := by
  obtain ⟨a, c, h1, h3⟩ := h
  exact ⟨a, c, h1, fun k hk => by obtain ⟨b, off, vi, h4, h5, h6⟩ := h3 k hk; exact ⟨b, off, vi, h4, hg.cell h5 (by simp), h6.kept hg⟩⟩

/-- a part of a list that comes in -/
theorem RinC.part {w : World} {b off n c : Nat} {l : List Int} (h : RinC w (.slice (some ⟨b, off, none⟩) n c) l) (f t c' : Nat) (hft : f ≤ t) (ht : t ≤ l.length) : Lo w (.slice (some ⟨b, off + f, none⟩) (t - f) c') ((l.drop f).take (t - f)) := by
  have hl : ((l.drop f).take (t - f)).length = t - f := by rw [List.length_take, List.length_drop]; omega
  refine .inr ⟨b, off + f, c', by rw [hl], fun i hi => ?_⟩
  rw [hl] at hi
  obtain ⟨b', off', e, h2⟩ := h.at (f + i) (by omega)
  injection e with e
  injection e with e1 e2
  subst e1 e2
  have e3 : ((l.drop f).take (t - f)).getD i 0 = l.getD (f + i) 0 := by simp [List.getD, hi, List.getElem?_drop]
  rw [e3, Nat.add_assoc]
  exact h2
end Go.Proofs.Ytncmgnmcggkhnaa

namespace Go.Proofs.Ytncmgnmcggkhnaa
open Go.RowKit

/-- a list that was lent: eight marked places behind it -/
def LentL (w : World) (v : Value) (l : List Int) : Prop :=
  ∃ b, v = .slice (some ⟨b, 0, none⟩) l.length (l.length + 8) ∧ b < w.heap.size ∧ ∀ k, k < l.length + 8 → w.cell? ⟨b, k, none⟩ = some (.int .i64 ((l ++ List.replicate 8 77777).getD k 0))

theorem LentL.kept {w w' : World} {v : Value} {l : List Int} (h : LentL w v l) (hg : w.grownBy w' none) : LentL w' v l := by
  obtain ⟨b, h1, h2, h3⟩ := h
  exact ⟨b, h1, Nat.lt_of_lt_of_le h2 hg.size, fun k hk => hg.cell (h3 k hk) (by simp)⟩

theorem LentL.loC {w : World} {v : Value} {l : List Int} (h : LentL w v l) : LoC w (fun q => q < w.heap.size) v l := by
  obtain ⟨b, h1, h2, h3⟩ := h
  refine .inr ⟨b, 0, l.length + 8, h1, by omega, h2, h2, fun i hi => ?_⟩
  have h4 := h3 i (by omega)
  have e : (l ++ List.replicate 8 77777).getD i 0 = l.getD i 0 := by simp [List.getD, List.getElem?_append, hi]
  rw [e] at h4
  rw [Nat.zero_add]
  exact h4

/-- a list of lists that was lent: eight marked lists behind it -/
def LentS (w : World) (v : Value) (chs : List (List Int)) : Prop :=
  ∃ lg, v = .slice (some ⟨lg, 0, none⟩) chs.length (chs.length + 8) ∧ lg < w.heap.size ∧ (∀ i, i < chs.length → ∃ vi, w.cell? ⟨lg, i, none⟩ = some vi ∧ LentL w vi (chs.getD i [])) ∧
    ∀ k, k < 8 → ∃ b c, w.cell? ⟨lg, chs.length + k, none⟩ = some (.slice (some ⟨b, 0, none⟩) 1 c) ∧ w.cell? ⟨b, 0, none⟩ = some (.int .i64 88888)

theorem LentS.kept {w w' : World} {v : Value} {chs : List (List Int)} (h : LentS w v chs) (hg : w.grownBy w' none) : LentS w' v chs := by
  obtain ⟨lg, h1, h2, h3, h4⟩ := h
  refine ⟨lg, h1, Nat.lt_of_lt_of_le h2 hg.size, fun i hi => ?_, fun k hk => ?_⟩
  · obtain ⟨vi, h5, h6⟩ := h3 i hi
    exact ⟨vi, hg.cell h5 (by simp), h6.kept hg⟩
  · obtain ⟨b, c, h5, h6⟩ := h4 k hk
    exact ⟨b, c, hg.cell h5 (by simp), hg.cell h6 (by simp)⟩

theorem LentS.ins {w : World} {v : Value} {chs : List (List Int)} (h : LentS w v chs) : Ins w (fun q => q < w.heap.size) v chs := by
  obtain ⟨lg, h1, h2, h3, _⟩ := h
  exact .inr ⟨lg, chs.length + 8, h1, h2, h2, fun i hi => by obtain ⟨vi, h5, h6⟩ := h3 i hi; exact ⟨vi, h5, h6.loC⟩⟩
end Go.Proofs.Ytncmgnmcggkhnaa

namespace Go.Proofs.Ytncmgnmcggkhnaa
open Go.RowKit

def BetPost (w : World) (D : Nat → Prop) (ls : List (List Int)) (e : Ending) (w' : World) : Prop :=
  ∃ g, e = .returned (.slice (some ⟨g, 0, none⟩) ls.length ls.length) ∧ w.grownBy w' none ∧ w.heap.size ≤ g ∧ g < w'.heap.size ∧ Views w' (fun q => D q ∨ q = g) (.slice (some ⟨g, 0, none⟩) ls.length ls.length) ls

/-- the new list of lists, filled up to `k` -/
def BetI (w : World) (D : Nat → Prop) (wr : World) (g n : Nat) (ls : List (List Int)) (k : Nat) (us : List Value) : Prop :=
  w.grownBy wr none ∧ us.length = k ∧ Box wr g (fillV n us).toArray 30 ∧ ∀ i, i < k → ∃ b off cap, us.getD i undef = .slice (some ⟨b, off, none⟩) (ls.getD i []).length cap ∧ (ls.getD i []).length ≤ cap ∧ D b ∧ b < w.heap.size ∧ ∀ j, j < (ls.getD i []).length → w.cell? ⟨b, off + j, none⟩ = some (.int .i64 ((ls.getD i []).getD j 0))

theorem fillV_set (n : Nat) (us : List Value) (x : Value) (h : us.length < n) : (fillV n us).set us.length x = fillV n (us ++ [x]) := fill_set' n us x _ h

theorem BetI.start {w w1 : World} (D : Nat → Prop) {g n : Nat} (ls : List (List Int)) (hg : w.grownBy w1 none) (hb : Box w1 g (List.replicate n (Value.slice none 0 0)).toArray 30) : BetI w D w1 g n ls 0 [] :=
  ⟨hg, rfl, by simpa [fillV] using hb, fun i hi => by omega⟩

theorem BetI.views {w wr : World} {D : Nat → Prop} {g : Nat} {ls : List (List Int)} {us : List Value} (h : BetI w D wr g ls.length ls ls.length us) : Views wr (fun q => D q ∨ q = g) (.slice (some ⟨g, 0, none⟩) ls.length ls.length) ls := by
  obtain ⟨hg, hul, hb, hi⟩ := h
  refine ⟨g, ls.length, rfl, Nat.le_refl _, .inr rfl, hb.lt, fun i hlt => ?_⟩
  obtain ⟨b, off, cap, hu, hcap, hD, hbl, hc⟩ := hi i hlt
  refine ⟨b, off, cap, .inl hD, Nat.lt_of_lt_of_le hbl hg.size, ?_, hcap, fun j u hj => ?_⟩
  · rw [hb.cell i, ← hu]
    simp [fillV, List.getD, hul, hlt]
  · have hjl : j < (ls.getD i []).length := by
      rcases Nat.lt_or_ge j (ls.getD i []).length with h1 | h1
      · exact h1
      · rw [List.getElem?_eq_none (by rw [List.length_map]; exact h1)] at hj; cases hj
    have e : (⟨b, off, none⟩ : Addr).add j = ⟨b, off + j, none⟩ := by
      unfold Addr.add
      split
      · rename_i e; rw [e, Nat.add_zero]
      · rfl
    rw [e, hg.cell (hc j hjl) (by simp), ← hj, map_get_int _ j hjl]

theorem BetI.next {w wr : World} {D : Nat → Prop} {g n k b off cap : Nat} {ls : List (List Int)} {us : List Value} (h : BetI w D wr g n ls k us) (hk : k < n) (hwg : w.heap.size ≤ g) (hcap : (ls.getD k []).length ≤ cap) (hD : D b) (hbl : b < w.heap.size)
    (hc : ∀ j, j < (ls.getD k []).length → w.cell? ⟨b, off + j, none⟩ = some (.int .i64 ((ls.getD k []).getD j 0))) :
    BetI w D (wr.setCell ⟨g, k, none⟩ (.slice (some ⟨b, off, none⟩) (ls.getD k []).length cap)) g n ls (k + 1) (us ++ [.slice (some ⟨b, off, none⟩) (ls.getD k []).length cap]) := by
  obtain ⟨hg, hul, hb, hi⟩ := h
  refine ⟨grown_new hg (grown_set _ _ _ _) (fun q e => by injection e with e; omega), by rw [List.length_append, hul]; rfl, ?_, fun i hlt => ?_⟩
  · have := hb.set k (.slice (some ⟨b, off, none⟩) (ls.getD k []).length cap)
    rw [List.setIfInBounds_toArray] at this
    have e := fillV_set n us (.slice (some ⟨b, off, none⟩) (ls.getD k []).length cap) (by omega)
    rw [hul] at e
    rw [e] at this
    exact this
  · rcases (show i < k ∨ i = k by omega) with h1 | rfl
    · rw [getD_snoc_lt _ _ _ _ (by omega)]
      exact hi i h1
    · refine ⟨b, off, cap, ?_, hcap, hD, hbl, hc⟩
      have := getD_snoc_eq us (.slice (some ⟨b, off, none⟩) (ls.getD i []).length cap) undef
      rw [hul] at this
      exact this

set_option maxHeartbeats 2000000 in
set_option maxRecDepth 20000 in
theorem qbetween (w : World) (D : Nat → Prop) (v : Value) (chs : List (List Int)) (n f t : Nat) (h : Ins w D v chs) (hc1 : 1 ≤ chs.length) (hc2 : chs.length ≤ 2) (hn : ∀ i, i < chs.length → (chs.getD i []).length = n) (hft : f < t) (htn : t ≤ n) :
    Calls Try.prog 50 #[v, .int .i64 f, .int .i64 t] w (BetPost w D (cutAll f t chs)) := by
  obtain ⟨i1, hi, hz0, hz1, hz2⟩ := info_parts Try.info30
  obtain ⟨a, c, rfl⟩ := h.slice
  obtain ⟨m, hm⟩ : ∃ m, chs.length = m := ⟨_, rfl⟩
  obtain ⟨ls, hls⟩ : ∃ ls, cutAll f t chs = ls := ⟨_, rfl⟩
  have hlm : ls.length = m := by rw [← hls, ← hm]; unfold cutAll; rw [List.length_map]
  have HLS : Hid (∀ i, i < m → (ls.getD i []).length = t - f ∧ ∀ j, j < t - f → (ls.getD i []).getD j 0 = (chs.getD i []).getD (f + j) 0) := by
    intro i hi'
    rw [← hls, cutAll_get f t chs i (by omega)]
    have hni := hn i (by omega)
    refine ⟨by rw [List.length_take, List.length_drop]; omega, fun j hj => ?_⟩
    simp [List.getD, hj]
  rw [hls]
  rw [hm] at h hc1 hc2 ⊢
  have HM : Hid (chs.length = m) := hm
  have HLM : Hid (ls.length = m) := hlm
  clear hm hls hlm
  go_enter Try.func50, Try.ntmps50
  go_wp2_with (first
    | (at_make; refine wpList_make_full _ rfl _ _ 24 rfl w.heap.size 30 i1 (.slice none 0 0) 1 Try.underlying24 hi hz0 hz1 _ _ _ _ m rfl rfl rfl rfl ?m1 ?m2 ?m3 ?_))
  case m1 => rw [hz2]; omega
  case m2 => unfold maxLen; omega
  case m3 => exact Nat.le_refl _
  intro w1 hmade hg1
  have hboxC : Box w1 w.heap.size (List.replicate m (Value.slice none 0 0)).toArray 30 := by
    rcases hmade.2 with ⟨e, _⟩ | ⟨g, cap, cur, e, _, hblk, _, _, hcs, htake⟩
    · cases e
    · simp only [Value.slice.injEq, Option.some.injEq, Addr.mk.injEq, and_true, true_and] at e
      obtain ⟨rfl, rfl⟩ := e
      rw [Nat.mul_one] at hcs htake
      have hr := replicate_of_made hcs htake
      rw [← hr]
      exact hblk
  have hB0 := BetI.start D ls hg1 hboxC
  obtain ⟨g, hg⟩ : ∃ g, w.heap.size = g := ⟨_, rfl⟩
  rw [hg] at hB0
  rw [hg]
  have HG : Hid (w.heap.size = g) := hg
  clear hmade hboxC hi hz0 hz1 hz2 hg hg1
  go_wp2_with fail
  go_loopg [15] m (fun gk t15 wr => ∃ (k : Nat) (us : List Value), gk + k = m ∧ t15 = .int .i64 k ∧ BetI w D wr g m ls k us)
  case atStart => exact ⟨0, [], rfl, rfl, hB0⟩
  case round =>
    clear hB0
    obtain ⟨k, us, hgk, rfl, hB⟩ := hrel
    by_cases hlt : k < m
    · obtain ⟨lg, vi, rfl, hck, hlo⟩ := h.at k (by rw [HM.out]; exact hlt)
      have hnk := hn k (by rw [HM.out]; exact hlt)
      rcases hlo with ⟨_, e0⟩ | ⟨b, off, cap, rfl, hcap, hD, hbl, hcells⟩
      · rw [e0] at hnk; simp at hnk; omega
      rw [hnk] at hck hcap
      obtain ⟨hl1, hl2⟩ := HLS.out k hlt
      have hckr : wr.cell? ⟨lg, k, none⟩ = some (.slice (some ⟨b, off, none⟩) n cap) := hB.1.cell hck (by simp)
      have hnext := hB.next hlt (by rw [HG.out]; exact Nat.le_refl _) (b := b) (off := off + f) (cap := cap - f) (by rw [hl1]; omega) hD hbl (fun j hj => by
        rw [hl1] at hj
        rw [hl2 j hj, Nat.add_assoc]
        exact hcells (f + j) (by omega))
      rw [hl1] at hnext
      have fz := hB.2.2.1.fz k
      have hgc : wr.cell? ⟨g, k, none⟩ = some (.slice none 0 0) := by
        rw [hB.2.2.1.cell k]
        have hul := hB.2.1
        unfold fillV
        rw [List.getElem?_toArray, List.getElem?_append_right (by omega), hul, Nat.sub_self, List.getElem?_replicate, if_pos (by omega)]
      have hkm : (k : Int) < (m : Int) := by omega
      have hf1 : (f : Int) ≤ (t : Int) := by omega
      have hf2 : (t : Int) ≤ (cap : Int) := by omega
      have HNX : Hid _ := hnext
      clear hnext hB hck hl1 hl2 hcells hnk h
      go_wp2
      go_roundg (gk - 1)
      case measure => omega
      case rel => exact ⟨k + 1, _, by omega, by go_num, HNX.out⟩
    · have hkm : k = m := by omega
      subst hkm
      have hpost : BetPost w D ls (.returned (.slice (some ⟨g, 0, none⟩) k k)) wr := by
        have h1 := hB
        rw [← HLM.out] at h1
        have h2 := h1.views
        rw [HLM.out] at h2
        exact ⟨g, by rw [HLM.out], hB.1, by rw [HG.out]; exact Nat.le_refl _, hB.2.2.1.lt, by rw [HLM.out]; exact h2⟩
      clear hB hgk hn h
      go_wp2
      exact bodyPost_ret (v := .slice (some ⟨g, 0, none⟩) k k) (by simp [results, Try.results50, go_sem]) rfl hpost
end Go.Proofs.Ytncmgnmcggkhnaa
