import Derived.Test.YtncmgnmcggkhnaaG28
import Derived.Test.YtncmgnmcggkhnaaG07
import Derived.BigQuiet
namespace Go.Proofs.Ytncmgnmcggkhnaa
open Go.RowKit

/-- a list that comes in: an empty one's address may be anything -/
def RinC (w : World) (v : Value) (raw : List Int) : Prop :=
  ∃ a c, v = .slice a raw.length c ∧ raw.length ≤ c ∧ ∀ k, k < raw.length → ∃ b off, a = some ⟨b, off, none⟩ ∧ w.cell? ⟨b, off + k, none⟩ = some (.int .i64 (raw.getD k 0))

theorem RinC.slice {w : World} {v : Value} {l : List Int} (h : RinC w v l) : ∃ a c, v = .slice a l.length c ∧ l.length ≤ c := by
  obtain ⟨a, c, h1, h2, _⟩ := h
  exact ⟨a, c, h1, h2⟩

theorem RinC.at {w : World} {a : Option Addr} {n c : Nat} {l : List Int} (h : RinC w (.slice a n c) l) (k : Nat) (hk : k < l.length) : ∃ b off, a = some ⟨b, off, none⟩ ∧ w.cell? ⟨b, off + k, none⟩ = some (.int .i64 (l.getD k 0)) := by
  obtain ⟨a', c', e, _, h3⟩ := h
  injection e with e1 _ _
  subst e1
  exact h3 k hk

theorem RinC.kept {w w' : World} {v : Value} {l : List Int} (h : RinC w v l) (hg : w.grownBy w' none) : RinC w' v l := by
  obtain ⟨a, c, h1, h2, h3⟩ := h
  exact ⟨a, c, h1, h2, fun k hk => by obtain ⟨b, off, h4, h5⟩ := h3 k hk; exact ⟨b, off, h4, hg.cell h5 (by simp)⟩⟩

theorem RinC.drewN {w : World} {v : Value} {l : List Int} (h : RinC w v l) (d : Nat) : RinC (w.drewN d) v l := by
  obtain ⟨a, c, h1, h2, h3⟩ := h
  exact ⟨a, c, h1, h2, fun k hk => by obtain ⟨b, off, h4, h5⟩ := h3 k hk; exact ⟨b, off, h4, by rw [World.cell?_drewN]; exact h5⟩⟩

/-- a list of lists that comes in -/
def RSnd (w : World) (v : Value) (chs : List (List Int)) : Prop :=
  ∃ a c, v = .slice a chs.length c ∧ ∀ k, k < chs.length → ∃ b off vi, a = some ⟨b, off, none⟩ ∧ w.cell? ⟨b, off + k, none⟩ = some vi ∧ RinC w vi (chs.getD k [])

theorem RSnd.slice {w : World} {v : Value} {chs : List (List Int)} (h : RSnd w v chs) : ∃ a c, v = .slice a chs.length c := by
  obtain ⟨a, c, h1, _⟩ := h
  exact ⟨a, c, h1⟩

theorem RSnd.at {w : World} {a : Option Addr} {n c : Nat} {chs : List (List Int)} (h : RSnd w (.slice a n c) chs) (k : Nat) (hk : k < chs.length) : ∃ b off vi, a = some ⟨b, off, none⟩ ∧ w.cell? ⟨b, off + k, none⟩ = some vi ∧ RinC w vi (chs.getD k []) := by
  obtain ⟨a', c', e, h3⟩ := h
  injection e with e1 _ _
  subst e1
  exact h3 k hk

theorem RSnd.kept {w w' : World} {v : Value} {chs : List (List Int)} (h : RSnd w v chs) (hg : w.grownBy w' none) : RSnd w' v chs := by
  obtain ⟨a, c, h1, h3⟩ := h
  exact ⟨a, c, h1, fun k hk => by obtain ⟨b, off, vi, h4, h5, h6⟩ := h3 k hk; exact ⟨b, off, vi, h4, hg.cell h5 (by simp), h6.kept hg⟩⟩

/-- a part of a list that comes in -/
theorem RinC.part {w : World} {b off n c : Nat} {l : List Int} (h : RinC w (.slice (some ⟨b, off, none⟩) n c) l) (f t c' : Nat) (hft : f ≤ t) (ht : t ≤ l.length) : Lo w (.slice (some ⟨b, off + f, none⟩) (t - f) c') ((l.drop f).take (t - f)) := by
  have hl : ((l.drop f).take (t - f)).length = t - f := by rw [List.length_take, List.length_drop]; omega
  refine .inr ⟨b, off + f, c', by rw [hl], fun i hi => ?_⟩
  rw [hl] at hi
  obtain ⟨b', off', e, h2⟩ := h.at (f + i) (by omega)
  injection e with e
  injection e with e1 e2
  subst e1 e2
  have e3 : ((l.drop f).take (t - f)).getD i 0 = l.getD (f + i) 0 := by simp [List.getD, hi, List.getElem?_drop]
  rw [e3, Nat.add_assoc]
  exact h2
end Go.Proofs.Ytncmgnmcggkhnaa

namespace Go.Proofs.Ytncmgnmcggkhnaa
open Go.RowKit

/-- a list that can be read, wherever it lies -/
def RdL (w : World) (v : Value) (l : List Int) : Prop :=
  ∃ a c, v = .slice a l.length c ∧ ∀ k, k < l.length → ∃ b off, a = some ⟨b, off, none⟩ ∧ w.cell? ⟨b, off + k, none⟩ = some (.int .i64 (l.getD k 0))

theorem RinC.rdl {w : World} {v : Value} {l : List Int} (h : RinC w v l) : RdL w v l := by
  obtain ⟨a, c, h1, _, h3⟩ := h
  exact ⟨a, c, h1, h3⟩

theorem Lo.rdl {w : World} {v : Value} {l : List Int} (h : Lo w v l) : RdL w v l := by
  rcases h with ⟨h1, rfl⟩ | ⟨b, off, cap, h1, h2⟩
  · exact ⟨none, 0, h1, fun k hk => by simp at hk⟩
  · exact ⟨_, cap, h1, fun k hk => ⟨b, off, rfl, h2 k hk⟩⟩

theorem RdL.slice {w : World} {v : Value} {l : List Int} (h : RdL w v l) : ∃ a c, v = .slice a l.length c := by
  obtain ⟨a, c, h1, _⟩ := h
  exact ⟨a, c, h1⟩

theorem RdL.at {w : World} {a : Option Addr} {n c : Nat} {l : List Int} (h : RdL w (.slice a n c) l) (k : Nat) (hk : k < l.length) : ∃ b off, a = some ⟨b, off, none⟩ ∧ w.cell? ⟨b, off + k, none⟩ = some (.int .i64 (l.getD k 0)) := by
  obtain ⟨a', c', e, h3⟩ := h
  injection e with e1 _ _
  subst e1
  exact h3 k hk

theorem RdL.drewN {w : World} {v : Value} {l : List Int} (h : RdL w v l) (d : Nat) : RdL (w.drewN d) v l := by
  obtain ⟨a, c, h1, h3⟩ := h
  exact ⟨a, c, h1, fun k hk => by obtain ⟨b, off, h4, h5⟩ := h3 k hk; exact ⟨b, off, h4, by rw [World.cell?_drewN]; exact h5⟩⟩

theorem RdL.kept {w w' : World} {v : Value} {l : List Int} (h : RdL w v l) (hg : w.grownBy w' none) : RdL w' v l := by
  obtain ⟨a, c, h1, h3⟩ := h
  exact ⟨a, c, h1, fun k hk => by obtain ⟨b, off, h4, h5⟩ := h3 k hk; exact ⟨b, off, h4, hg.cell h5 (by simp)⟩⟩

/-- a list of lists that can be read -/
def RdS (w : World) (v : Value) (chs : List (List Int)) : Prop :=
  ∃ a c, v = .slice a chs.length c ∧ ∀ k, k < chs.length → ∃ b off vi, a = some ⟨b, off, none⟩ ∧ w.cell? ⟨b, off + k, none⟩ = some vi ∧ RdL w vi (chs.getD k [])

theorem RSnd.rds {w : World} {v : Value} {chs : List (List Int)} (h : RSnd w v chs) : RdS w v chs := by
  obtain ⟨a, c, h1, h3⟩ := h
  exact ⟨a, c, h1, fun k hk => by obtain ⟨b, off, vi, h4, h5, h6⟩ := h3 k hk; exact ⟨b, off, vi, h4, h5, h6.rdl⟩⟩

theorem SndIn.rds {w : World} {v : Value} {chs : List (List Int)} (h : SndIn w v chs) : RdS w v chs := by
  rcases h with ⟨h1, rfl⟩ | ⟨lg, lcap, h1, h2⟩
  · exact ⟨none, 0, h1, fun k hk => by simp at hk⟩
  · exact ⟨_, lcap, h1, fun k hk => by obtain ⟨vi, h5, h6⟩ := h2 k hk; exact ⟨lg, 0, vi, rfl, by rw [Nat.zero_add]; exact h5, h6.rdl⟩⟩

theorem RdS.slice {w : World} {v : Value} {chs : List (List Int)} (h : RdS w v chs) : ∃ a c, v = .slice a chs.length c := by
  obtain ⟨a, c, h1, _⟩ := h
  exact ⟨a, c, h1⟩

theorem RdS.at {w : World} {a : Option Addr} {n c : Nat} {chs : List (List Int)} (h : RdS w (.slice a n c) chs) (k : Nat) (hk : k < chs.length) : ∃ b off vi, a = some ⟨b, off, none⟩ ∧ w.cell? ⟨b, off + k, none⟩ = some vi ∧ RdL w vi (chs.getD k []) := by
  obtain ⟨a', c', e, h3⟩ := h
  injection e with e1 _ _
  subst e1
  exact h3 k hk

theorem RdS.kept {w w' : World} {v : Value} {chs : List (List Int)} (h : RdS w v chs) (hg : w.grownBy w' none) : RdS w' v chs := by
  obtain ⟨a, c, h1, h3⟩ := h
  exact ⟨a, c, h1, fun k hk => by obtain ⟨b, off, vi, h4, h5, h6⟩ := h3 k hk; exact ⟨b, off, vi, h4, hg.cell h5 (by simp), h6.kept hg⟩⟩

set_option maxHeartbeats 1000000 in
set_option maxRecDepth 20000 in
/-- two lists that are the same -/
theorem lsame_ints (w : World) (v1 v2 : Value) (xs : List Int) (h1 : RdL w v1 xs) (h2 : RdL w v2 xs) (hx : xs.length ≤ 17592186044416) :
    Calls Try.prog 68 #[v1, v2] w fun e w' => e = .returned (.bool true) ∧ ∃ d, w' = w.drewN d := by
  obtain ⟨a1, c1, rfl⟩ := h1.slice
  obtain ⟨a2, c2, rfl⟩ := h2.slice
  obtain ⟨n, hn⟩ : ∃ n, xs.length = n := ⟨_, rfl⟩
  rw [hn] at h1 h2 hx ⊢
  have HN : Hid (xs.length = n) := hn
  clear hn
  go_enter Try.func68, Try.ntmps68
  go_wp2_with fail
  go_loopg [5] n (fun gk t5 wr => ∃ k : Nat, gk + k = n ∧ t5 = .int .i64 k ∧ ∃ d, wr = w.drewN d)
  case atStart => exact ⟨0, rfl, rfl, 0, rfl⟩
  case round =>
    obtain ⟨k, hgk, rfl, d, rfl⟩ := hrel
    by_cases hlt : k < n
    · obtain ⟨b1, o1, rfl, hc1⟩ := h1.at k (by rw [HN.out]; exact hlt)
      obtain ⟨b2, o2, rfl, hc2⟩ := h2.at k (by rw [HN.out]; exact hlt)
      obtain ⟨x, hx'⟩ : ∃ x, xs.getD k 0 = x := ⟨_, rfl⟩
      rw [hx'] at hc1 hc2
      have hkn : (k : Int) < (n : Int) := by omega
      have txx : (x != x) = false := by simp
      clear hx' h1 h2
      go_upto_region 6 with fail
      go_quiet (fail)
      go_wp2
      go_roundg (gk - 1)
      case measure => omega
      case rel => exact ⟨k + 1, by omega, by go_num, _, rfl⟩
    · have hkn : k = n := by omega
      subst hkn
      clear hgk
      go_wp2
      go_ret
      exact ⟨rfl, d, rfl⟩

set_option maxHeartbeats 1000000 in
set_option maxRecDepth 20000 in
/-- two lists of lists that are the same -/
theorem lsame_lists (w : World) (v1 v2 : Value) (chs : List (List Int)) (h1 : RdS w v1 chs) (h2 : RdS w v2 chs) (hcl : chs.length ≤ 17592186044416) (hlen : ∀ c ∈ chs, c.length ≤ 17592186044416) :
    Calls Try.prog 46 #[v1, v2] w fun e w' => e = .returned (.bool true) ∧ ∃ d, w' = w.drewN d := by
  obtain ⟨a1, c1, rfl⟩ := h1.slice
  obtain ⟨a2, c2, rfl⟩ := h2.slice
  obtain ⟨n, hn⟩ : ∃ n, chs.length = n := ⟨_, rfl⟩
  rw [hn] at h1 h2 hcl ⊢
  have HN : Hid (chs.length = n) := hn
  have HLEN : Hid (∀ c ∈ chs, c.length ≤ 17592186044416) := hlen
  clear hn hlen
  go_enter Try.func46, Try.ntmps46
  go_wp2_with fail
  go_loopg [5] n (fun gk t5 wr => ∃ k : Nat, gk + k = n ∧ t5 = .int .i64 k ∧ ∃ d, wr = w.drewN d)
  case atStart => exact ⟨0, rfl, rfl, 0, rfl⟩
  case round =>
    obtain ⟨k, hgk, rfl, d, hwr⟩ := hrel
    by_cases hlt : k < n
    · obtain ⟨lg1, og1, u1, rfl, hc1, hl1⟩ := h1.at k (by rw [HN.out]; exact hlt)
      obtain ⟨lg2, og2, u2, rfl, hc2, hl2⟩ := h2.at k (by rw [HN.out]; exact hlt)
      obtain ⟨b1, p1, rfl⟩ := hl1.slice
      obtain ⟨b2, p2, rfl⟩ := hl2.slice
      have hkl : (chs.getD k []).length ≤ 17592186044416 := HLEN.out _ (by have := HN.out; simp [List.getD, show k < chs.length by omega])
      have HS := fun d => lsame_ints (w.drewN d) _ _ _ (hl1.drewN d) (hl2.drewN d) hkl
      obtain ⟨m, hm⟩ : ∃ m, (chs.getD k []).length = m := ⟨_, rfl⟩
      rw [hm] at hc1 hc2 HS
      have hkn : (k : Int) < (n : Int) := by omega
      have C1 : wr.cell? ⟨lg1, og1 + k, none⟩ = some (.slice b1 m p1) := by rw [hwr, World.cell?_drewN]; exact hc1
      have C2 : wr.cell? ⟨lg2, og2 + k, none⟩ = some (.slice b2 m p2) := by rw [hwr, World.cell?_drewN]; exact hc2
      have HSr : ∀ d', Calls Try.prog 68 #[.slice b1 m p1, .slice b2 m p2] (wr.drewN d') fun e w' => e = .returned (.bool true) ∧ ∃ d'', w' = (wr.drewN d').drewN d'' := by
        intro d'
        have := HS (d + d')
        rw [hwr, World.drewN_drewN]
        exact this
      have HWR : Hid (wr = w.drewN d) := hwr
      clear hc1 hc2 hm hkl HS hl1 hl2 h1 h2 hwr
      go_upto_region 6 with fail
      go_quiet ((go_at_call 68; exact Calls.quiet_of (HSr _)))
      go_wp2
      go_roundg (gk - 1)
      case measure => omega
      case rel => exact ⟨k + 1, by omega, by go_num, _, by rw [HWR.out, World.drewN_drewN]⟩
    · have hkn : k = n := by omega
      subst hkn
      have HWR : Hid (wr = w.drewN d) := hwr
      clear hgk hwr h1 h2
      go_wp2
      go_ret
      exact ⟨rfl, d, HWR.out⟩

set_option maxHeartbeats 1000000 in
set_option maxRecDepth 20000 in
/-- two sounds that are the same -/
theorem lsame (w : World) (v1 v2 : Value) (rate bits : Int) (chs : List (List Int)) (h1 : RdS w v1 chs) (h2 : RdS w v2 chs) (hcl : chs.length ≤ 17592186044416) (hlen : ∀ c ∈ chs, c.length ≤ 17592186044416) :
    Calls Try.prog 18 #[.agg #[.int .i64 rate, .int .i64 bits, v1], .agg #[.int .i64 rate, .int .i64 bits, v2]] w fun e w' => e = .returned (.bool true) ∧ w.grownBy w' none := by
  have hg : w.grownBy ((w.alloc (Obj.cells #[Value.int .i64 rate, Value.int .i64 bits, v1] 26)).alloc (Obj.cells #[Value.int .i64 rate, Value.int .i64 bits, v2] 26)) none := grown_alloc (grown_alloc (grown_refl w none) _) _
  have HS := lsame_lists _ v1 v2 chs (h1.kept hg) (h2.kept hg) hcl hlen
  have HX1 := Box.new w #[Value.int .i64 rate, Value.int .i64 bits, v1] 26
  have HX2 := Box.new (w.alloc (Obj.cells #[Value.int .i64 rate, Value.int .i64 bits, v1] 26)) #[Value.int .i64 rate, Value.int .i64 bits, v2] 26
  replace HX1 := HX1.kept (grown_alloc (grown_refl _ none) (Obj.cells #[Value.int .i64 rate, Value.int .i64 bits, v2] 26)) (by simp)
  have hsz : (w.alloc (Obj.cells #[Value.int .i64 rate, Value.int .i64 bits, v1] 26)).heap.size = w.heap.size + 1 := by simp
  rw [hsz] at HX2
  clear h1 h2 hcl hlen hsz
  go_enter Try.func18, Try.ntmps18
  go_wp2_with fail
  refine HS.mono ?_
  rintro e w1 ⟨rfl, d, rfl⟩
  clear HS
  revert HX1 HX2 hg
  generalize (w.alloc (Obj.cells #[Value.int .i64 rate, Value.int .i64 bits, v1] 26)).alloc (Obj.cells #[Value.int .i64 rate, Value.int .i64 bits, v2] 26) = w0
  intro hg HX2 HX1
  have hc10 : w0.cell? ⟨w.heap.size, 0, none⟩ = some (.int .i64 rate) := HX1.cell 0
  have hc11 : w0.cell? ⟨w.heap.size, 1, none⟩ = some (.int .i64 bits) := HX1.cell 1
  have hc20 : w0.cell? ⟨w.heap.size + 1, 0, none⟩ = some (.int .i64 rate) := HX2.cell 0
  have hc21 : w0.cell? ⟨w.heap.size + 1, 1, none⟩ = some (.int .i64 bits) := HX2.cell 1
  have HG : Hid (w.grownBy w0 none) := hg
  have tr : (rate == rate) = true := by simp
  have tb : (bits == bits) = true := by simp
  clear HX1 HX2 hg
  go_wp2
  go_ret
  exact ⟨rfl, grown_drewN HG.out _⟩
end Go.Proofs.Ytncmgnmcggkhnaa

namespace Go.Proofs.Ytncmgnmcggkhnaa
open Go.RowKit

theorem Ls2.rds {w : World} {v : Value} {chs : List (List Int)} (h : Ls2 w v chs) : RdS w v chs := by
  rcases h with ⟨h1, rfl⟩ | ⟨g, cap, h1, h2⟩
  · exact ⟨none, 0, h1, fun k hk => by simp at hk⟩
  · exact ⟨_, cap, h1, fun k hk => by obtain ⟨u, h5, h6⟩ := h2 k hk; exact ⟨g, 0, u, rfl, by rw [Nat.zero_add]; exact h5, h6.lo.rdl⟩⟩
end Go.Proofs.Ytncmgnmcggkhnaa
