import Derived.Test.YtncmgnmcggkhnaaG38
import Derived.Test.YtncmgnmcggkhnaaG28
import Derived.Test.YtncmgnmcggkhnaaG29
import Derived.Test.YtncmgnmcggkhnaaG13
import Derived.BigQuiet
namespace Go.Proofs.Ytncmgnmcggkhnaa
open Go.RowKit

/-- a list that was lent: eight marked places behind it -/
def LentL (w : World) (v : Value) (l : List Int) : Prop :=
  ∃ b, v = .slice (some ⟨b, 0, none⟩) l.length (l.length + 8) ∧ b < w.heap.size ∧ ∀ k, k < l.length + 8 → w.cell? ⟨b, k, none⟩ = some (.int .i64 ((l ++ List.replicate 8 77777).getD k 0))

theorem LentL.kept {w w' : World} {v : Value} {l : List Int} (h : LentL w v l) (hg : w.grownBy w' none) : LentL w' v l := by
  obtain ⟨b, h1, h2, h3⟩ := h
  exact ⟨b, h1, Nat.lt_of_lt_of_le h2 hg.size, fun k hk => hg.cell (h3 k hk) (by simp)⟩

theorem LentL.loC {w : World} {v : Value} {l : List Int} (h : LentL w v l) : LoC w (fun q => q < w.heap.size) v l := by
  obtain ⟨b, h1, h2, h3⟩ := h
  refine .inr ⟨b, 0, l.length + 8, h1, by omega, h2, h2, fun i hi => ?_⟩
  have h4 := h3 i (by omega)
  have e : (l ++ List.replicate 8 77777).getD i 0 = l.getD i 0 := by simp [List.getD, List.getElem?_append, hi]
  rw [e] at h4
  rw [Nat.zero_add]
  exact h4

/-- a list of lists that was lent: eight marked lists behind it -/
def LentS (w : World) (v : Value) (chs : List (List Int)) : Prop :=
  ∃ lg, v = .slice (some ⟨lg, 0, none⟩) chs.length (chs.length + 8) ∧ lg < w.heap.size ∧ (∀ i, i < chs.length → ∃ vi, w.cell? ⟨lg, i, none⟩ = some vi ∧ LentL w vi (chs.getD i [])) ∧
    ∀ k, k < 8 → ∃ b c, w.cell? ⟨lg, chs.length + k, none⟩ = some (.slice (some ⟨b, 0, none⟩) 1 c) ∧ w.cell? ⟨b, 0, none⟩ = some (.int .i64 88888)

theorem LentS.kept {w w' : World} {v : Value} {chs : List (List Int)} (h : LentS w v chs) (hg : w.grownBy w' none) : LentS w' v chs := by
  obtain ⟨lg, h1, h2, h3, h4⟩ := h
  refine ⟨lg, h1, Nat.lt_of_lt_of_le h2 hg.size, fun i hi => ?_, fun k hk => ?_⟩
  · obtain ⟨vi, h5, h6⟩ := h3 i hi
    exact ⟨vi, hg.cell h5 (by simp), h6.kept hg⟩
  · obtain ⟨b, c, h5, h6⟩ := h4 k hk
    exact ⟨b, c, hg.cell h5 (by simp), hg.cell h6 (by simp)⟩

theorem LentS.ins {w : World} {v : Value} {chs : List (List Int)} (h : LentS w v chs) : Ins w (fun q => q < w.heap.size) v chs := by
  obtain ⟨lg, h1, h2, h3, _⟩ := h
  exact .inr ⟨lg, chs.length + 8, h1, h2, h2, fun i hi => by obtain ⟨vi, h5, h6⟩ := h3 i hi; exact ⟨vi, h5, h6.loC⟩⟩
end Go.Proofs.Ytncmgnmcggkhnaa

namespace Go.Proofs.Ytncmgnmcggkhnaa
open Go.RowKit

/-- a list that was lent, behind a block -/
def LentAt (w : World) (lg : Nat) (v : Value) (l : List Int) : Prop :=
  ∃ b, lg < b ∧ v = .slice (some ⟨b, 0, none⟩) l.length (l.length + 8) ∧ b < w.heap.size ∧ ∀ k, k < l.length + 8 → w.cell? ⟨b, k, none⟩ = some (.int .i64 ((l ++ List.replicate 8 77777).getD k 0))

theorem LentAt.lent {w : World} {lg : Nat} {v : Value} {l : List Int} (h : LentAt w lg v l) : LentL w v l := by
  obtain ⟨b, _, h1, h2, h3⟩ := h
  exact ⟨b, h1, h2, h3⟩

theorem LentAt.kept {w w' : World} {lg : Nat} {v : Value} {l : List Int} (h : LentAt w lg v l) (hg : w.grownBy w' (some lg)) : LentAt w' lg v l := by
  obtain ⟨b, h0, h1, h2, h3⟩ := h
  exact ⟨b, h0, h1, Nat.lt_of_lt_of_le h2 hg.size, fun k hk => hg.cell (h3 k hk) (by simp; omega)⟩

/-- a marked list behind a block -/
def MarkAt (w : World) (lg : Nat) (v : Value) : Prop :=
  ∃ b c, lg < b ∧ v = .slice (some ⟨b, 0, none⟩) 1 c ∧ w.cell? ⟨b, 0, none⟩ = some (.int .i64 88888)

theorem MarkAt.kept {w w' : World} {lg : Nat} {v : Value} (h : MarkAt w lg v) (hg : w.grownBy w' (some lg)) : MarkAt w' lg v := by
  obtain ⟨b, c, h0, h1, h2⟩ := h
  exact ⟨b, c, h0, h1, hg.cell h2 (by simp; omega)⟩

theorem grown_some {w w' : World} {g : Nat} (h : w.grownBy w' none) : w.grownBy w' (some g) := ⟨h.os, h.tape, h.output, h.size, fun i hi _ => h.block i hi (by simp)⟩

/-- the new list of lists, filled as far as `us` -/
def LenI (w : World) (wr : World) (lg : Nat) (chs : List (List Int)) (us : List Value) : Prop :=
  w.grownBy wr none ∧ Box wr lg (fillV (chs.length + 8) us).toArray 30 ∧ ∀ j, j < us.length → (j < chs.length → LentAt wr lg (us.getD j undef) (chs.getD j [])) ∧ (chs.length ≤ j → MarkAt wr lg (us.getD j undef))

theorem LenI.start {w w1 : World} {lg : Nat} {chs : List (List Int)} (hg : w.grownBy w1 none) (hb : Box w1 lg (List.replicate (chs.length + 8) (Value.slice none 0 0)).toArray 30) : LenI w w1 lg chs [] :=
  ⟨hg, by simpa [fillV] using hb, fun i hi => by simp at hi⟩

theorem LenI.next {w wr wq : World} {lg : Nat} {chs : List (List Int)} {us : List Value} (h : LenI w wr lg chs us) (hwg : w.heap.size ≤ lg) (hq : wr.grownBy wq none) (v : Value) (hl : us.length < chs.length + 8)
    (h1 : us.length < chs.length → LentAt wq lg v (chs.getD us.length [])) (h2 : chs.length ≤ us.length → MarkAt wq lg v) : LenI w (wq.setCell ⟨lg, us.length, none⟩ v) lg chs (us ++ [v]) := by
  obtain ⟨hg, hb, hi⟩ := h
  have hs : wq.grownBy (wq.setCell ⟨lg, us.length, none⟩ v) (some lg) := grown_set _ _ _ _
  have hrs := grown_trans (grown_some hq) hs
  refine ⟨grown_new (grown_trans hg hq) hs (fun q e => by injection e with e; omega), ?_, fun j hj => ?_⟩
  · have := (hb.kept hq (by simp)).set us.length v
    rw [List.setIfInBounds_toArray, fillV_set _ us v hl] at this
    exact this
  · rw [List.length_append, List.length_singleton] at hj
    rcases (show j < us.length ∨ j = us.length by omega) with h3 | h3
    · rw [getD_snoc_lt _ _ _ _ h3]
      exact ⟨fun e => ((hi j h3).1 e).kept hrs, fun e => ((hi j h3).2 e).kept hrs⟩
    · rw [h3, getD_snoc_eq us v undef]
      exact ⟨fun e => (h1 e).kept hs, fun e => (h2 e).kept hs⟩

theorem LenI.done {w wr : World} {lg : Nat} {chs : List (List Int)} {us : List Value} (h : LenI w wr lg chs us) (hl : us.length = chs.length + 8) : LentS wr (.slice (some ⟨lg, 0, none⟩) chs.length (chs.length + 8)) chs := by
  obtain ⟨hg, hb, hi⟩ := h
  have e : fillV (chs.length + 8) us = us := by simp [fillV, hl]
  rw [e] at hb
  have hc : ∀ j, j < us.length → wr.cell? ⟨lg, j, none⟩ = some (us.getD j undef) := fun j hj => by
    rw [hb.cell j]
    simp [List.getD, hj]
  refine ⟨lg, rfl, hb.lt, fun i hlt => ⟨us.getD i undef, hc i (by omega), ((hi i (by omega)).1 hlt).lent⟩, fun k hk => ?_⟩
  obtain ⟨b, c, _, h1, h2⟩ := (hi (chs.length + k) (by omega)).2 (by omega)
  exact ⟨b, c, by rw [hc _ (by omega), h1], h2⟩

/-- what was filled is kept where a block ahead of it changes -/
theorem LenI.done2 {w wr wa wb : World} {lg q r : Nat} {chs : List (List Int)} {us : List Value} (h : LenI w wr lg chs us) (hl : us.length = chs.length + 8) (ha : wr.grownBy wa (some q)) (hq : q < lg) (hb : wa.grownBy wb (some r)) (hr : r < lg) : LentS wb (.slice (some ⟨lg, 0, none⟩) chs.length (chs.length + 8)) chs := by
  have kA : ∀ {w1 w2 : World} {v : Value} {l : List Int} {s : Nat}, LentAt w1 lg v l → w1.grownBy w2 (some s) → s < lg → LentAt w2 lg v l := by
    intro w1 w2 v l s ⟨b, h0, h1, h2, h3⟩ hg hs
    exact ⟨b, h0, h1, Nat.lt_of_lt_of_le h2 hg.size, fun k hk => hg.cell (h3 k hk) (by simp; omega)⟩
  have kM : ∀ {w1 w2 : World} {v : Value} {s : Nat}, MarkAt w1 lg v → w1.grownBy w2 (some s) → s < lg → MarkAt w2 lg v := by
    intro w1 w2 v s ⟨b, c, h0, h1, h2⟩ hg hs
    exact ⟨b, c, h0, h1, hg.cell h2 (by simp; omega)⟩
  obtain ⟨hg, hbx, hi⟩ := h
  have hbx2 := (hbx.kept ha (by simp; omega)).kept hb (by simp; omega)
  have h2 : LenI wb wb lg chs us := ⟨grown_refl _ _, hbx2, fun j hj => ⟨fun e => kA (kA ((hi j hj).1 e) ha hq) hb hr, fun e => kM (kM ((hi j hj).2 e) ha hq) hb hr⟩⟩
  exact h2.done hl

/-- a list of numbers in a block of its own -/
def IBox (w : World) (g : Nat) (xs : List Int) : Prop := Box w g (xs.map (Value.int .i64)).toArray 3

theorem IBox.cell {w : World} {g : Nat} {xs : List Int} (h : IBox w g xs) (k : Nat) (hk : k < xs.length) : w.cell? ⟨g, k, none⟩ = some (.int .i64 (xs.getD k 0)) := by
  rw [Box.cell h k, List.getElem?_toArray, map_get_int _ k hk]

theorem IBox.stored {w : World} {g : Nat} {xs : List Int} (h : IBox w g xs) (k : Nat) (x : Int) : IBox (w.setCell ⟨g, k, none⟩ (.int .i64 x)) g (xs.set k x) := by
  have := Box.set h k (.int .i64 x)
  rw [List.setIfInBounds_toArray, ← List.map_set] at this
  exact this

theorem splice_fill (m : Nat) (l : List Int) (h : l.length = m) : splice ((fill (m + 8) []).map (Value.int .i64)) 0 (l.map (Value.int .i64)) = (fill (m + 8) (l ++ List.replicate 0 77777)).map (Value.int .i64) := by
  subst h
  simp [splice, fill]

theorem fill_mark (m k : Nat) (l : List Int) (h : l.length = m) (hk : k < 8) : (fill (m + 8) (l ++ List.replicate k 77777)).set (m + k) 77777 = fill (m + 8) (l ++ List.replicate (k + 1) 77777) := by
  have := fill_set (m + 8) (l ++ List.replicate k 77777) 77777 (by simp; omega)
  rw [List.length_append, List.length_replicate, h] at this
  rw [this, List.append_assoc, ← List.replicate_succ']

theorem IBox.lent {w : World} {lg g : Nat} {l : List Int} (h : IBox w g (fill (l.length + 8) (l ++ List.replicate 8 77777))) (hl : lg < g) : LentAt w lg (.slice (some ⟨g, 0, none⟩) l.length (l.length + 8)) l := by
  rw [fill_full _ _ (by simp)] at h
  exact ⟨g, hl, rfl, Box.lt h, fun k hk => h.cell k (by simpa using hk)⟩
end Go.Proofs.Ytncmgnmcggkhnaa

namespace Go.Proofs.Ytncmgnmcggkhnaa
open Go.RowKit

theorem replicate_of_madeI {n : Nat} {cur : Array Value} (h1 : cur.size = n) (h2 : cur.toList.take n = (madeCells #[Value.int .i64 0] n).toList) : cur = (List.replicate n (Value.int .i64 0)).toArray := by
  have e : (madeCells #[Value.int .i64 0] n).toList = List.replicate n (Value.int .i64 0) := toList_madeCells_one _ _
  rw [e, List.take_of_length_le (by rw [Array.length_toList]; omega)] at h2
  rw [← h2]

def LentPost (w : World) (rate bits : Int) (chs : List (List Int)) (e : Ending) (w' : World) : Prop :=
  ∃ v, e = .returned (.agg #[.int .i64 rate, .int .i64 bits, v]) ∧ LentS w' v chs ∧ w.grownBy w' none

set_option maxHeartbeats 4000000 in
set_option maxRecDepth 20000 in
theorem llent (w : World) (vs : Value) (rate bits : Int) (chs : List (List Int)) (hs : RSnd w vs chs) (hcl : chs.length + 8 ≤ 11728124029610) (hlen : ∀ c ∈ chs, c.length ≤ 17592186044416) :
    Calls Try.prog 22 #[.agg #[.int .i64 rate, .int .i64 bits, vs]] w (LentPost w rate bits chs) := by
  obtain ⟨i0, hi, hz0, hz1, hz2⟩ := info_parts Try.info3
  obtain ⟨i1, ki, kz0, kz1, kz2⟩ := info_parts Try.info30
  obtain ⟨a, c, rfl⟩ := hs.slice
  obtain ⟨n, hn⟩ : ∃ n, chs.length = n := ⟨_, rfl⟩
  have HN : Hid (chs.length = n) := hn
  rw [hn] at hs hcl ⊢
  have HRS : Hid (RSnd w (.slice a n c) chs) := hs
  have HLEN : Hid (∀ k, (chs.getD k []).length ≤ 17592186044416) := by
    intro k
    by_cases hk : k < chs.length
    · exact hlen _ (by simp [List.getD, hk])
    · simp [List.getD, hk]
  clear hn hs hlen
  go_enter Try.func22, Try.ntmps22
  go_upto_region 2 with fail
  obtain ⟨gS, hgS⟩ : ∃ gS, w.heap.size = gS := ⟨_, rfl⟩
  obtain ⟨w3, hw3⟩ : ∃ w3, ((w.alloc (.cells #[.int .i64 rate, .int .i64 bits, .slice a n c] 26)).alloc (.cells #[.int .i64 0, .int .i64 0, .slice none 0 0] 26)).alloc (.cells #[.int .i64 rate, .int .i64 bits, .slice a n c] 26) = w3 := ⟨_, rfl⟩
  have hg3 : w.grownBy w3 none := by rw [← hw3]; exact grown_alloc (grown_alloc (grown_alloc (grown_refl _ _) _) _) _
  have hs1 : (w.alloc (.cells #[.int .i64 rate, .int .i64 bits, .slice a n c] 26)).heap.size = gS + 1 := by rw [← hgS]; simp
  have hs2 : ((w.alloc (.cells #[.int .i64 rate, .int .i64 bits, .slice a n c] 26)).alloc (.cells #[.int .i64 0, .int .i64 0, .slice none 0 0] 26)).heap.size = gS + 2 := by rw [← hgS]; simp
  have hs3 : w3.heap.size = gS + 3 := by rw [← hw3, ← hgS]; simp
  have hbS : Box w3 gS #[.int .i64 rate, .int .i64 bits, .slice a n c] 26 := by
    rw [← hgS, ← hw3]
    exact (Box.new w _ _).kept (grown_alloc (grown_alloc (grown_refl _ none) _) _) (by simp)
  have hbR : Box w3 (gS + 1) #[.int .i64 0, .int .i64 0, .slice none 0 0] 26 := by
    rw [← hs1, ← hw3]
    exact (Box.new _ _ _).kept (grown_alloc (grown_refl _ none) _) (by simp)
  have hbO : Box w3 (gS + 2) #[.int .i64 rate, .int .i64 bits, .slice a n c] 26 := by
    rw [← hs2, ← hw3]
    exact Box.new _ _ _
  have HRS3 : Hid (RSnd w3 (.slice a n c) chs) := HRS.out.kept hg3
  obtain ⟨n8, hn8⟩ : ∃ n8, n + 8 = n8 := ⟨_, rfl⟩
  have hn8z : (n : Int) + 8 = (n8 : Int) := by omega
  have HN8 : Hid (n + 8 = n8) := hn8
  rw [hn8] at hcl
  rw [hw3, hgS]
  have HG3 : Hid (w.grownBy w3 none) := hg3
  have HGS : Hid (w.heap.size = gS) := hgS
  have hc3 : w3.cell? ⟨gS, 2, none⟩ = some (.slice a n c) := hbS.cell 2
  obtain ⟨lg, hlg⟩ : ∃ lg, w3.heap.size = lg := ⟨_, rfl⟩
  rw [hlg] at hs3
  have HLG : Hid (w3.heap.size = lg) := hlg
  have HS3 : Hid (lg = gS + 3) := hs3
  clear hw3 hs1 hs2 hn8 hgS hg3 HRS hlg hs3
  go_wp2_with (first
    | (at_make; refine wpList_make_full _ rfl _ _ 24 rfl w3.heap.size 30 i1 (.slice none 0 0) 1 Try.underlying24 ki kz0 kz1 _ _ _ _ n8 rfl rfl rfl rfl ?m1 ?m2 ?m3 ?_))
  case m1 => rw [kz2]; omega
  case m2 => unfold maxLen; omega
  case m3 => exact Nat.le_refl _
  intro w4 hmade hg4
  have hboxC : Box w4 w3.heap.size (List.replicate n8 (Value.slice none 0 0)).toArray 30 := by
    rcases hmade.2 with ⟨e, _⟩ | ⟨g, cap, cur, e, _, hblk, _, _, hcs, htake⟩
    · cases e
    · simp only [Value.slice.injEq, Option.some.injEq, Addr.mk.injEq, and_true, true_and] at e
      obtain ⟨rfl, rfl⟩ := e
      rw [Nat.mul_one] at hcs htake
      have hr := replicate_of_made hcs htake
      rw [← hr]
      exact hblk
  rw [HLG.out] at hboxC
  rw [HLG.out]
  have hI0 : LenI w3 w4 lg chs [] := LenI.start hg4 (by rw [HN.out, HN8.out]; exact hboxC)
  clear hmade hboxC ki kz0 kz1 kz2 hg4 hc3
  have HBS : Hid (Box w3 gS #[.int .i64 rate, .int .i64 bits, .slice a n c] 26) := hbS
  have HBR : Hid (Box w3 (gS + 1) #[.int .i64 0, .int .i64 0, .slice none 0 0] 26) := hbR
  have HBO : Hid (Box w3 (gS + 2) #[.int .i64 rate, .int .i64 bits, .slice a n c] 26) := hbO
  clear hbS hbR hbO
  go_wp2_with fail
  go_loopg [5] n (fun gk t5 wr => ∃ us : List Value, gk + us.length = n ∧ t5 = .int .i64 us.length ∧ LenI w3 wr lg chs us)
  case atStart => exact ⟨[], rfl, rfl, hI0⟩
  case round =>
    clear hI0
    obtain ⟨us, hgk, rfl, hI⟩ := hrel
    obtain ⟨i, hiu⟩ : ∃ i, us.length = i := ⟨_, rfl⟩
    have HIU : Hid (us.length = i) := hiu
    rw [hiu] at hgk ⊢
    clear hiu
    have HI : Hid (LenI w3 wr lg chs us) := hI
    have cS2 : wr.cell? ⟨gS, 2, none⟩ = some (.slice a n c) := hI.1.cell (HBS.out.cell 2) (by simp)
    clear hI
    by_cases hlt : i < n
    · have tiz : (i : Int) < (n : Int) := by omega
      obtain ⟨lS, oS, vi, ea, q1, hR1⟩ := HRS3.out.at i (by rw [HN.out]; exact hlt)
      subst ea
      obtain ⟨a2, c2, rfl, _⟩ := hR1.slice
      have hlm := HLEN.out i
      obtain ⟨m, hm⟩ : ∃ m, (chs.getD i []).length = m := ⟨_, rfl⟩
      rw [hm] at q1 hlm hR1
      have HMM : Hid ((chs.getD i []).length = m) := hm
      have q2 : wr.cell? ⟨lS, oS + i, none⟩ = some (.slice a2 m c2) := HI.out.1.cell q1 (by simp)
      have HR1 : Hid (RinC wr (.slice a2 m c2) (chs.getD i [])) := hR1.kept HI.out.1
      obtain ⟨m8, hm8⟩ : ∃ m8, m + 8 = m8 := ⟨_, rfl⟩
      have hm8z : (m : Int) + 8 = (m8 : Int) := by omega
      have HM8 : Hid (m + 8 = m8) := hm8
      have hm8b : m8 ≤ 17592186044424 := by omega
      have Q2 : Hid (wr.cell? ⟨lS, oS + i, none⟩ = some (.slice a2 m c2)) := q2
      clear hm hR1 hm8
      go_wp2_with (first
        | (at_make; refine wpList_make_full _ rfl _ _ 30 rfl wr.heap.size 3 i0 (.int .i64 0) 1 Try.underlying30 hi hz0 hz1 _ _ _ _ m8 rfl rfl rfl rfl ?m1 ?m2 ?m3 ?_))
      case m1 => rw [hz2]; omega
      case m2 => unfold maxLen; omega
      case m3 => exact Nat.le_refl _
      intro w5 hmade hg5
      have hbG : IBox w5 wr.heap.size (fill m8 []) := by
        rcases hmade.2 with ⟨e, _⟩ | ⟨g, cap, cur, e, _, hblk, _, _, hcs, htake⟩
        · cases e
        · simp only [Value.slice.injEq, Option.some.injEq, Addr.mk.injEq, and_true, true_and] at e
          obtain ⟨rfl, rfl⟩ := e
          rw [Nat.mul_one] at hcs htake
          have hr := replicate_of_madeI hcs htake
          unfold IBox fill
          simp only [List.nil_append, List.length_nil, Nat.sub_zero, List.map_replicate]
          rw [← hr]
          exact hblk
      obtain ⟨g, hg⟩ : ∃ g, wr.heap.size = g := ⟨_, rfl⟩
      rw [hg] at hbG
      rw [hg]
      have HG : Hid (wr.heap.size = g) := hg
      have hB5 : Hid (Below g wr w5) := ⟨hg5.os, hg5.tape, hg5.output, hg5.size, fun k hk => hg5.block k (by rw [hg]; exact hk) (by simp)⟩
      have cS5 : w5.cell? ⟨gS, 2, none⟩ = some (.slice (some ⟨lS, oS, none⟩) n c) := hg5.cell cS2 (by simp)
      have q5 : w5.cell? ⟨lS, oS + i, none⟩ = some (.slice a2 m c2) := hg5.cell q2 (by simp)
      have HR5 : Hid (RinC w5 (.slice a2 m c2) (chs.getD i [])) := HR1.out.kept hg5
      have HBG : Hid (w5.heap[g]? = some (.cells ((fill m8 []).map (Value.int .i64)).toArray 3 (0, 0))) := hbG
      have HSZ : Hid ((Try.prog.info? 3).map (·.size) = some 1) := by rw [hi]; show some i0.size = some 1; rw [hz1]
      have HCS : Hid (((chs.getD i []).map (Value.int .i64)).length = m) := by show _ = _; rw [List.length_map]; exact HMM.out
      have HONE : Hid (∀ u ∈ (chs.getD i []).map (Value.int .i64), u.oneCell' = true) := ints_one _
      have HPOS : Hid (0 < ((chs.getD i []).map (Value.int .i64)).length → (some (⟨g, 0, none⟩ : Addr)) = some ⟨g, 0, none⟩ ∧ ∃ ad, a2 = some ad ∧ ∀ j v, ((chs.getD i []).map (Value.int .i64))[j]? = some v → w5.cell? (ad.add j) = some v) := by
        intro h0
        refine ⟨rfl, ?_⟩
        rw [List.length_map] at h0
        obtain ⟨b, off, e, _⟩ := HR5.out.at 0 h0
        refine ⟨⟨b, off, none⟩, e, fun j v hj => ?_⟩
        have hjn : j < (chs.getD i []).length := by
          rcases Nat.lt_or_ge j (chs.getD i []).length with h1 | h1
          · exact h1
          · rw [List.getElem?_eq_none (by simpa using h1)] at hj; cases hj
        obtain ⟨b', off', e', h2⟩ := HR5.out.at j hjn
        rw [e] at e'
        injection e' with e'
        injection e' with e1 e2
        subst e1 e2
        rw [map_get_int _ j hjn] at hj
        injection hj with hj
        rw [← hj, ← h2]
        unfold Addr.add
        split
        · rename_i e3; rw [e3]; rfl
        · rfl
      have hminm : Nat.min m m8 = m := Nat.min_eq_left (by have := HM8.out; omega)
      clear hmade hbG hg HR1 q1 q2 cS2 hg5
      obtain ⟨cs, hcs⟩ : ∃ cs, (chs.getD i []).map (Value.int .i64) = cs := ⟨_, rfl⟩
      rw [hcs] at HCS HONE HPOS
      have HCSE : Hid ((chs.getD i []).map (Value.int .i64) = cs) := hcs
      obtain ⟨z0, hz⟩ : ∃ z0, (fill m8 []).map (Value.int .i64) = z0 := ⟨_, rfl⟩
      rw [hz] at HBG
      have HZ : Hid ((fill m8 []).map (Value.int .i64) = z0) := hz
      clear hcs hz
      go_upto_region 7 with fail
      go_wp2_with (first
        | (refine wpList_copy_splice rfl _ _ 30 30 rfl 3 Try.underlying30 HSZ.out (some ⟨g, 0, none⟩) a2 m8 m8 m c2 rfl rfl g 0 z0 3 HBG.out cs ?c1 ?c2 ?c3 ?c4 g wr hB5.out (Nat.le_refl _) ?_))
      case c1 => exact HCS.out
      case c2 => exact fun h0 => (HPOS.out h0).2
      case c3 => rw [HCS.out, ← HZ.out]; simp [fill]; have := HM8.out; omega
      case c4 => exact HONE.out
      intro w6 HG6 hB6
      obtain ⟨L, hL⟩ : ∃ L, chs.getD i [] = L := ⟨_, rfl⟩
      have HLE : Hid (chs.getD i [] = L) := hL
      have HLL : Hid (L.length = m) := by show _ = _; rw [← hL]; exact HMM.out
      have hb6 : IBox w6 g (fill m8 (L ++ List.replicate 0 77777)) := by
        have := splice_fill m L HLL.out
        rw [HM8.out, HZ.out, ← hL, HCSE.out, hL] at this
        unfold IBox
        rw [← this]
        exact HG6.out
      have hg6 : wr.grownBy w6 none := ⟨hB6.os, hB6.tape, hB6.output, hB6.size, fun k hk _ => hB6.block k (by rw [← HG.out]; exact hk)⟩
      clear HG6 hB6 hB5 HBG HCS HONE HPOS hL HCSE HZ HR5 q5 cS5 hminm HMM HSZ
      obtain ⟨ko, rfl⟩ : ∃ ko : Nat, ko = gk := ⟨_, rfl⟩
      obtain ⟨wo, rfl⟩ : ∃ wo : World, wo = wr := ⟨_, rfl⟩
      have HKO : Hid (ko + i = n) := hgk
      clear hgk
      go_wp2_with fail
      go_loopg [7] 8 (fun gk t7 wr => ∃ k : Nat, gk + k = 8 ∧ t7 = .int .i64 k ∧ wo.grownBy wr none ∧ IBox wr g (fill m8 (L ++ List.replicate k 77777)))
      case atStart => exact ⟨0, rfl, rfl, hg6, hb6⟩
      case round =>
        clear hg6 hb6
        obtain ⟨k, hgq, rfl, hgw, hbw⟩ := hrel
        have HGW : Hid (wo.grownBy wr none) := hgw
        have HBW : Hid (IBox wr g (fill m8 (L ++ List.replicate k 77777))) := hbw
        have hI1 := HI.out.1
        have cS7 : wr.cell? ⟨gS, 2, none⟩ = some (.slice (some ⟨lS, oS, none⟩) n c) := hgw.cell (hI1.cell (HBS.out.cell 2) (by simp)) (by simp)
        have q7 : wr.cell? ⟨lS, oS + i, none⟩ = some (.slice a2 m c2) := hgw.cell Q2.out (by simp)
        clear hgw hI1
        by_cases hk : k < 8
        · have hkz : (k : Int) < 8 := by omega
          obtain ⟨p, hp⟩ : ∃ p, m + k = p := ⟨_, rfl⟩
          have hpz : (m : Int) + (k : Int) = (p : Int) := by omega
          have hpl : (p : Int) < (m8 : Int) := by have := HM8.out; omega
          have fz := Box.fz hbw p
          have hfl : p < (fill m8 (L ++ List.replicate k 77777)).length := by
            have h1 := HM8.out
            have h2 := HLL.out
            simp [fill]
            omega
          have hck := hbw.cell p hfl
          have HNX : Hid (IBox (wr.setCell ⟨g, p, none⟩ (.int .i64 77777)) g (fill m8 (L ++ List.replicate (k + 1) 77777))) := by
            have h1 := hbw.stored p 77777
            have h2 := fill_mark m k L HLL.out hk
            rw [hp, HM8.out] at h2
            rw [h2] at h1
            exact h1
          obtain ⟨x, hx⟩ : ∃ x, (fill m8 (L ++ List.replicate k 77777)).getD p 0 = x := ⟨_, rfl⟩
          rw [hx] at hck
          clear hp hfl hx hbw
          go_wp2
          go_roundg (gk - 1)
          case measure => omega
          case rel => exact ⟨k + 1, by omega, by go_num, grown_new HGW.out (grown_set _ _ _ _) (fun q e => by injection e with e; have := HG.out; omega), HNX.out⟩
        · obtain rfl : k = 8 := by omega
          have tk : decide (((8 : Nat) : Int) < 8) = false := by decide
          have hmm : (m : Int) ≤ (m8 : Int) := by have := HM8.out; omega
          have hin : (i : Int) < (n8 : Int) := by have := HN8.out; omega
          have hlgg : lg < g := by have h1 := HI.out.2.1.lt; rw [HG.out] at h1; exact h1
          have hla : LentAt wr lg (.slice (some ⟨g, 0, none⟩) m m8) L := by
            have h1 := IBox.lent (lg := lg) (g := g) (l := L) (w := wr) (by rw [HLL.out, HM8.out]; exact hbw) hlgg
            rw [HLL.out, HM8.out] at h1
            exact h1
          have hnx := HI.out.next (by rw [HLG.out]; exact Nat.le_refl _) HGW.out (.slice (some ⟨g, 0, none⟩) m m8) (by rw [HIU.out, HN.out]; omega) (fun _ => by rw [HIU.out, HLE.out]; exact hla) (fun e => by rw [HIU.out, HN.out] at e; omega)
          rw [HIU.out] at hnx
          have HNX : Hid (LenI w3 (wr.setCell ⟨lg, i, none⟩ (.slice (some ⟨g, 0, none⟩) m m8)) lg chs (us ++ [.slice (some ⟨g, 0, none⟩) m m8])) := hnx
          have hbl := HI.out.2.1.kept HGW.out (by simp)
          have fz := hbl.fz i
          have hcl : wr.cell? ⟨lg, i, none⟩ = some (.slice none 0 0) := by
            rw [hbl.cell i]
            have hul := HIU.out
            have hnn := HN.out
            unfold fillV
            rw [List.getElem?_toArray, List.getElem?_append_right (by omega), hul, Nat.sub_self, List.getElem?_replicate, if_pos (by omega)]
          clear hla hnx hbl hbw hk
          go_wp2
          go_roundg (ko - 1)
          case measure => have := HKO.out; omega
          case rel => exact ⟨us ++ [.slice (some ⟨g, 0, none⟩) m m8], by have := HKO.out; rw [List.length_append, HIU.out]; simp; omega, by rw [List.length_append, HIU.out]; go_num, HNX.out⟩
    · have hin : i = n := by omega
      have tk : decide ((i : Int) < (n : Int)) = false := decide_eq_false (by omega)
      have hI3 : ∃ u3 : List Value, u3.length = n + 0 ∧ LenI w3 wr lg chs u3 := ⟨us, by rw [HIU.out]; exact hin, HI.out⟩
      clear hin hgk
      obtain ⟨wo, rfl⟩ : ∃ wo : World, wo = wr := ⟨_, rfl⟩
      go_wp2_with fail
      go_loopg [8] 8 (fun gk t8 wr => ∃ k : Nat, gk + k = 8 ∧ t8 = .int .i64 k ∧ ∃ u3 : List Value, u3.length = n + k ∧ LenI w3 wr lg chs u3)
      case atStart => exact ⟨0, rfl, rfl, hI3⟩
      case round =>
        clear hI3 cS2
        obtain ⟨k, hgk, rfl, u3, hu3, hI3⟩ := hrel
        have HU3 : Hid (u3.length = n + k) := hu3
        have HI3 : Hid (LenI w3 wr lg chs u3) := hI3
        have cS7 : wr.cell? ⟨gS, 2, none⟩ = some (.slice a n c) := hI3.1.cell (HBS.out.cell 2) (by simp)
        have cO7 : wr.cell? ⟨gS + 2, 2, none⟩ = some (.slice a n c) := hI3.1.cell (HBO.out.cell 2) (by simp)
        clear hu3
        by_cases hk : k < 8
        · have hkz : (k : Int) < 8 := by omega
          obtain ⟨p, hp⟩ : ∃ p, n + k = p := ⟨_, rfl⟩
          have hpz : (n : Int) + (k : Int) = (p : Int) := by omega
          have hpl : (p : Int) < (n8 : Int) := by have := HN8.out; omega
          obtain ⟨wa, hwa⟩ : ∃ wa, wr.alloc (.cells #[.int .i64 88888] 3) = wa := ⟨_, rfl⟩
          have hga : wr.grownBy wa none := by rw [← hwa]; exact grown_alloc (grown_refl _ _) _
          have hba : Box wa wr.heap.size #[.int .i64 88888] 3 := by rw [← hwa]; exact Box.new _ _ _
          have hma : MarkAt wa lg (.slice (some ⟨wr.heap.size, 0, none⟩) 1 1) := ⟨wr.heap.size, 1, hI3.2.1.lt, rfl, hba.cell 0⟩
          have hnx := hI3.next (by rw [HLG.out]; exact Nat.le_refl _) hga (.slice (some ⟨wr.heap.size, 0, none⟩) 1 1) (by rw [HU3.out, HN.out]; omega) (fun e => by rw [HU3.out, HN.out] at e; omega) (fun _ => hma)
          have hbl := hI3.2.1.kept hga (by simp)
          rw [HU3.out, hp, ← hwa] at hnx
          have HNX : Hid (LenI w3 ((wr.alloc (.cells #[.int .i64 88888] 3)).setCell ⟨lg, p, none⟩ (.slice (some ⟨wr.heap.size, 0, none⟩) 1 1)) lg chs (u3 ++ [.slice (some ⟨wr.heap.size, 0, none⟩) 1 1])) := hnx
          rw [← hwa] at hbl
          have fz := hbl.fz p
          have hcl : (wr.alloc (.cells #[.int .i64 88888] 3)).cell? ⟨lg, p, none⟩ = some (.slice none 0 0) := by
            rw [hbl.cell p]
            have hul := HU3.out
            have hnn := HN.out
            unfold fillV
            rw [List.getElem?_toArray, List.getElem?_append_right (by omega), hul, hp, Nat.sub_self, List.getElem?_replicate, if_pos (by omega)]
          have HP : Hid (n + k = p) := hp
          clear hnx hma hba hga hwa hbl hp hI3
          go_wp2
          go_roundg (gk - 1)
          case measure => omega
          case rel => exact ⟨k + 1, by omega, by go_num, u3 ++ [.slice (some ⟨wr.heap.size, 0, none⟩) 1 1], by rw [List.length_append, HU3.out]; simp; omega, HNX.out⟩
        · obtain rfl : k = 8 := by omega
          have tk : decide (((8 : Nat) : Int) < 8) = false := by decide
          have hnn : (n : Int) ≤ (n8 : Int) := by have := HN8.out; omega
          have bO := HBO.out.kept hI3.1 (by simp)
          have bR := HBR.out.kept hI3.1 (by simp)
          have fO := bO.fz 2
          have o0 : wr.cell? ⟨gS + 2, 0, none⟩ = some (.int .i64 rate) := bO.cell 0
          have o1 : wr.cell? ⟨gS + 2, 1, none⟩ = some (.int .i64 bits) := bO.cell 1
          have r0 : wr.cell? ⟨gS + 1, 0, none⟩ = some (.int .i64 0) := bR.cell 0
          have r1 : wr.cell? ⟨gS + 1, 1, none⟩ = some (.int .i64 0) := bR.cell 1
          have r2 : wr.cell? ⟨gS + 1, 2, none⟩ = some (.slice none 0 0) := bR.cell 2
          have f0 := bR.fz 0
          have f1 := bR.fz 1
          have f2 := bR.fz 2
          have gO : wr.grownBy (wr.setCell ⟨gS + 1 + 1, 2, none⟩ (.slice (some ⟨lg, 0, none⟩) n n8)) (some (gS + 1 + 1)) := grown_set _ _ _ _
          have h3 := three_cells (wr.setCell ⟨gS + 1 + 1, 2, none⟩ (.slice (some ⟨lg, 0, none⟩) n n8)) (gS + 1) _ _ _ _ (.int .i64 rate) (.int .i64 bits) (.slice (some ⟨lg, 0, none⟩) n n8) (bR.kept gO (by simp))
          have hfin : ∀ wf, (wr.setCell ⟨gS + 1 + 1, 2, none⟩ (.slice (some ⟨lg, 0, none⟩) n n8)).grownBy wf (some (gS + 1)) → LentPost w rate bits chs (.returned (.agg #[.int .i64 rate, .int .i64 bits, .slice (some ⟨lg, 0, none⟩) n n8])) wf := by
            intro wf hgf
            have e1 := HN.out
            have e2 := HN8.out
            have e3 := HS3.out
            have e4 := HGS.out
            refine ⟨_, rfl, ?_, ?_⟩
            · have := hI3.done2 (by rw [HU3.out, e1]) gO (by omega) hgf (by omega)
              rw [e1, e2] at this
              exact this
            · exact grown_new (grown_new (grown_trans HG3.out hI3.1) gO (fun q e => by injection e with e; omega)) hgf (fun q e => by injection e with e; omega)
          have HFIN : Hid _ := hfin
          clear bO bR hI3 hgk hk hfin gO
          go_upto_region 18 with fail
          go_wp2
          generalize (World.setCell _ ⟨gS + 1, 2, none⟩ (Value.slice (some ⟨lg, 0, none⟩) n n8)) = wf at h3 ⊢
          have x0 := h3.1.cell 0
          have x1 := h3.1.cell 1
          have x2 := h3.1.cell 2
          exact bodyPost_ret (v := .agg #[.int .i64 rate, .int .i64 bits, .slice (some ⟨lg, 0, none⟩) n n8]) (by simp [results, Try.results22, go_sem, x0, x1, x2]) rfl (HFIN.out wf h3.2)
end Go.Proofs.Ytncmgnmcggkhnaa
