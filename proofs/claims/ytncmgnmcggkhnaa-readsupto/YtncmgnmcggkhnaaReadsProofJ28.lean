import Derived.Test.YtncmgnmcggkhnaaReadsProofJ9
import Derived.Test.YtncmgnmcggkhnaaReadsProofJ26
import Derived.Test.YtncmgnmcggkhnaaReadsProofJ23
import Derived.Test.YtncmgnmcggkhnaaReadsProofJ21
import Derived.Deep.LoopGhost
import Derived.BigQuiet
import Derived.Test.YtncmgnmcggkhnaaReadsProofJ6
import Derived.Test.YtncmgnmcggkhnaaReadsProofJ24
import Derived.Deep.DeepCutAuto
import Derived.Deep.CutBlock
namespace Go.Proofs.Ytncmgnmcggkhnaa
set_option maxRecDepth 100000 in
theorem empty_dec : decode [102, 76, 97, 67, 128, 0, 0, 34, 0, 16, 0, 16, 0, 0, 0, 0, 0, 0, 0, 0, 16, 112, 0, 0, 0, 0, 0, 0, 0, 0, 0, 0, 0, 0, 0, 0, 0, 0, 0, 0, 0, 0] = .sound 1 8 [[]] := by
  kernel_rfl
end Go.Proofs.Ytncmgnmcggkhnaa

namespace Go.Proofs.Ytncmgnmcggkhnaa
open Go.RowKit

theorem frames_lens (h : Head) (hc : 1 ≤ h.channels) : ∀ (fuel number total : Nat) (ended : Bool) (acc chs : List (List Int)) (L : List UInt8), acc.length = h.channels → total ≤ 1200 → (∀ j, j < h.channels → (acc.getD j []).length = total) →
    frames h fuel number total ended acc L = .ok chs → ∀ j, j < h.channels → (chs.getD j []).length ≤ 1200
  | 0, _, _, _, _, _, _, _, _, _, e => by cases e
  | fuel + 1, number, total, ended, acc, chs, L, ha, ht, hl, e => by
    unfold frames at e
    split at e
    · injection e with e
      subst e
      intro j hj
      rw [hl j hj]
      exact ht
    · cases hp : pFrame h number L with
      | none => rw [hp] at e; cases e
      | some x =>
        obtain ⟨cs, rest⟩ := x
        rw [hp] at e
        obtain ⟨hcl, n, k, _, _, hcn, _⟩ := pFrame_spec hp
        simp only at e
        split at e
        · cases e
        · rename_i hno
          rw [headD_getD, hcn 0 (by omega)] at hno
          have hn : ¬ 1200 < total + n := fun h => hno (.inr h)
          refine frames_lens h hc fuel _ _ _ _ chs rest (by rw [List.length_zipWith, ha, hcl]; omega) ?_ ?_ e
          · rw [headD_getD, hcn 0 (by omega)]; omega
          · intro j hj
            rw [zip_append_get acc cs h.channels ha hcl j hj, List.length_append, hl j hj, hcn j hj, headD_getD, hcn 0 (by omega)]

theorem decode_bounds {s : ByteArray} {r bt : Nat} {chs : List (List Int)} (hd : decode s.data.toList = .sound r bt chs) : chs.length ≤ 2 ∧ ∀ j, j < chs.length → (chs.getD j []).length ≤ 1200 := by
  by_cases hlong : 6000 < s.size
  · rw [decode_long s hlong] at hd; cases hd
  · have hs : s.size ≤ 6000 := by omega
    cases hpb : pBlocks (bitsOf s.data.toList) with
    | none => rw [decode_meta s hs hpb] at hd; cases hd
    | some x =>
      obtain ⟨h, rb⟩ := x
      have hspec := pBlocks_spec hpb (by rw [total_bits]; omega)
      have hhok := hspec.2.2.1
      have hc2 : h.channels ≤ 2 := by unfold headOk at hhok; simp at hhok; omega
      rw [decode_frames s hs hpb] at hd
      cases hf : frames h (s.size + 1) 0 0 false (List.replicate h.channels []) (s.data.toList.drop (s.size - rb.length / 8)) with
      | error k => rw [hf] at hd; cases hd
      | ok cs =>
        rw [hf] at hd
        have hd' : (if (cs.headD []).length = h.total then Answer.sound h.rate h.bits cs else .err 5 0) = .sound r bt chs := hd
        split at hd'
        · injection hd' with _ _ e
          subst e
          have hl := frames_len h _ _ _ _ _ cs _ (by simp) hf
          refine ⟨by omega, fun j hj => frames_lens h hspec.2.2.2 _ _ _ _ _ cs _ (by simp) (by omega) (fun j hj => by simp [List.getD, hj]) hf j (by omega)⟩
        · cases hd'

def ansRate : Answer → Nat | .err _ _ => 0 | .sound r _ _ => r
def ansBits : Answer → Nat | .err _ _ => 0 | .sound _ b _ => b
def ansChs : Answer → List (List Int) | .err _ _ => [] | .sound _ _ c => c
def ansErr : Answer → Nat | .err e _ => e | .sound _ _ _ => 0
def ansAt : Answer → Nat | .err _ p => p | .sound _ _ _ => 0

theorem ans_bounds (s : ByteArray) : (ansChs (decode s.data.toList)).length ≤ 2 ∧ ∀ j, j < (ansChs (decode s.data.toList)).length → ((ansChs (decode s.data.toList)).getD j []).length ≤ 1200 := by
  cases hd : decode s.data.toList with
  | err e p => exact ⟨by simp [ansChs], fun j hj => by simp [ansChs] at hj⟩
  | sound r b c => exact decode_bounds hd

theorem dec_parts {w w' : World} {s : ByteArray} {e : Ending} {A : Answer} (hA : decode s.data.toList = A) (h : DecPost w s e w') :
    w.grownBy w' none ∧ ∃ lv vs, e = .returned (.tuple #[.agg #[.int .i64 (ansRate A), .int .i64 (ansBits A), lv], .int .i64 (ansErr A), .int .i64 (ansAt A)]) ∧ Subs w' w.heap.size lv vs (ansChs A) := by
  obtain ⟨hg, h⟩ := h
  rw [hA] at h
  refine ⟨hg, ?_⟩
  cases A with
  | err er place => exact ⟨.slice none 0 0, [], h, Subs.nil _ _⟩
  | sound r b c => exact h

theorem Subs.ls2 {w : World} {base : Nat} {lv : Value} {vs : List Value} {xss : List (List Int)} (h : Subs w base lv vs xss) : Ls2 w lv xss := by
  have hl := h.len
  rcases Nat.eq_zero_or_pos vs.length with h0 | hpos
  · have hx : xss = [] := List.eq_nil_of_length_eq_zero (by omega)
    subst hx
    rcases h.row.2 with ⟨hv, _⟩ | ⟨g, cap, cur, hv, _⟩
    · exact .inl ⟨hv, rfl⟩
    · exact .inr ⟨g, cap, by rw [hv, h0]; rfl, fun i hi => by simp at hi⟩
  · obtain ⟨lg, lcap, hv, _, _, hc⟩ := h.cell hpos
    exact .inr ⟨lg, lcap, by rw [hv, hl], fun i hi => ⟨_, hc i (by omega), (h.own i (by omega)).ls⟩⟩

/-- the book through new memory -/
theorem BookOk.new {w w' : World} {b N M : Nat} (h : BookOk w b N M) (hg : w.grownBy w' none) : BookOk w' b N M := by
  obtain ⟨iv, ov, us, os, E, hbk, hN, hM, hi, ho⟩ := h
  refine ⟨iv, ov, us, os, E, hbk.data hg (fun g e => by cases e), hN, hM, fun k hk => (hi k hk).step fun g n hS => ⟨hS, fun _ _ hc => cell_kept hc hg⟩, fun k hk => (ho k hk).step (fun g hgE => ⟨hgE, ?_⟩) fun g n hS => ⟨hS, fun _ _ _ _ hc => cell_kept hc hg⟩⟩
  exact World.cell?_of_block (w := w) (a := ⟨g, 0, none⟩) (hg.block g (hbk.dat g (.inl hgE)).2.1 (by simp))

/-- the book, empty -/
theorem BookOk.start {w : World} {b : Nat} (h : Box w b #[.slice none 0 0, .slice none 0 0] 34) : BookOk w b 0 0 :=
  ⟨_, _, [], [], fun _ => False, ⟨h, World.ownsRow_nil _ _ _ _, World.ownsRow_nil _ _ _ _, (fun g e => by cases e), (fun g hg => by rcases hg with hg | hg <;> exact hg.elim), fun g hg => hg.elim⟩, rfl, rfl, (fun k hk => by simp at hk), fun k hk => by simp at hk⟩

/-- lists that came out of a call, and the book that was there before -/
theorem KS.begin {wB w : World} {b B N M : Nat} {lv : Value} {vs : List Value} {xss : List (List Int)} (h : BookOk wB b N M) (hg : wB.grownBy w none) (hs : Subs w B lv vs xss) (hB : wB.heap.size ≤ B) :
    ∃ iv ov us os E, us.length = N ∧ os.length = M ∧ KS w w b lv vs xss 0 iv ov us os E (.slice none 0 0) 0 0 := by
  have hnew := h.new hg
  obtain ⟨iv, ov, us, os, E, hbk, hN, hM, hi, ho⟩ := h
  have hbk2 := hbk.data hg (fun g e => by cases e)
  have hri := World.ownsRow.lt hbk.ri
  have hro := World.ownsRow.lt hbk.ro
  have hbl := hbk.box.lt
  have hlv := World.ownsRow.lt hs.row
  have hK : ∀ g, Kl lv vs 0 g → B ≤ g ∧ g < w.heap.size := by
    rintro g (hg | ⟨j, _, hj, hg⟩)
    · exact hlv g hg
    · exact (hs.own j hj).lt g hg
  refine ⟨iv, ov, us, os, E, hN, hM, ⟨hbk2.sets (fun g hgE => ?_) (fun g hgE hk => ?_), Below.refl _ _, ownsRow_mono hs.row (by omega), fun j _ hj => Own.mono (hs.own j hj) (by omega), fun j g _ hj hv => hs.apartL j g hj hv, hs.apartV, Own.nil _ _, (fun g e => by cases e), fun k hk => (hi k hk).step fun g n hS => ⟨.inl hS, fun _ _ hc => cell_kept hc hg⟩, fun k hk => (ho k hk).step (fun g hgE => ⟨hgE, ?_⟩) fun g n hS => ⟨hS, fun _ _ _ _ hc => cell_kept hc hg⟩⟩⟩
  · rcases hgE with hgE | hk | hk
    · exact hbk2.dat g (.inl hgE)
    · have := hK g hk
      exact ⟨by omega, this.2, fun e => by have := (hri g e).2; omega, fun e => by have := (hro g e).2; omega⟩
    · cases hk
  · have h1 := (hbk.dat g (.inl hgE)).2.1
    rcases hk with hk | hk
    · have := hK g hk; omega
    · cases hk
  · exact World.cell?_of_block (w := w) (a := ⟨g, 0, none⟩) rfl |>.trans (World.cell?_of_block (w := wB) (a := ⟨g, 0, none⟩) (hg.block g (hbk.dat g (.inl hgE)).2.1 (by simp)))

theorem BookOk.looks {w : World} {b N M : Nat} (h : BookOk w b N M) (hN : N ≤ 1000) (hM : M ≤ 1000) :
    Calls Try.prog 20 #[.pointer (some ⟨b, 0, none⟩)] w fun e w' => e = .returned (.bool true) ∧ w' = w := by
  obtain ⟨iv, ov, us, os, E, hbk, hNe, hMe, hi, ho⟩ := h
  subst hNe hMe
  refine looks_true w b us.length os.length iv ov (by omega) (by omega) (hbk.box.cell 0) (hbk.box.cell 1) ?_ ?_
  · obtain ⟨a, c, hv⟩ := row_sliceK hbk.ri
    refine ⟨a, c, hv, fun i hlt => ?_⟩
    have hri := hbk.ri
    rw [hv] at hri
    obtain ⟨g, ha, _, hc, _⟩ := row_cell1 hri hlt
    exact ⟨g, _, ha, hc, (hi i hlt).mk⟩
  · obtain ⟨a, c, hv⟩ := row_sliceK hbk.ro
    refine ⟨a, c, hv, fun i hlt => ?_⟩
    have hro := hbk.ro
    rw [hv] at hro
    obtain ⟨g, ha, _, hc, _⟩ := row_cell1 hro hlt
    exact ⟨g, _, ha, hc, (ho i hlt).mk⟩

/-- keep, on a book and lists that came out of a call -/
theorem BookOk.keep {wB w : World} {b B N M : Nat} {lv : Value} {vs : List Value} {xss : List (List Int)} (h : BookOk wB b N M) (hg : wB.grownBy w none) (hs : Subs w B lv vs xss) (hB : wB.heap.size ≤ B) (hN : N % 4 = 0) (hNb : N ≤ 100) (hM : M % 4 = 0) (hMb : M ≤ 100)
    (hx2 : xss.length ≤ 2) (hxl : ∀ j, j < xss.length → (xss.getD j []).length ≤ 1200) :
    Calls Try.prog 19 #[.pointer (some ⟨b, 0, none⟩), lv] w fun e w' => e = .returned (.tuple #[]) ∧ Below b w w' ∧ BookOk w' b (N + 4 * xss.length) (M + 4) := by
  obtain ⟨iv, ov, us, os, E, hNe, hMe, hks⟩ := KS.begin h hg hs hB
  subst hNe hMe
  have hl := hs.len
  have := keep_book w b lv vs xss iv ov us os E hks hN hNb hM hMb hl (by omega) hxl
  rw [hl] at this
  exact this
end Go.Proofs.Ytncmgnmcggkhnaa

namespace Go.Proofs.Ytncmgnmcggkhnaa
open Go.RowKit

theorem Lo.drewN {w : World} {v : Value} {xs : List Int} (h : Lo w v xs) (d : Nat) : Lo (w.drewN d) v xs := by
  rcases h with h | ⟨b, off, cap, hv, hc⟩
  · exact .inl h
  · exact .inr ⟨b, off, cap, hv, fun i hi => by rw [World.cell?_drewN]; exact hc i hi⟩

set_option maxHeartbeats 1000000 in
set_option maxRecDepth 20000 in
/-- two lists that are the same -/
theorem ksame_ints (w : World) (v1 v2 : Value) (xs : List Int) (h1 : Lo w v1 xs) (h2 : Lo w v2 xs) (hx : xs.length ≤ 1099511627776) :
    Calls Try.prog 37 #[v1, v2] w fun e w' => e = .returned (.bool true) ∧ ∃ d, w' = w.drewN d := by
  obtain ⟨a1, c1, rfl⟩ := h1.slice
  obtain ⟨a2, c2, rfl⟩ := h2.slice
  obtain ⟨n, hn⟩ : ∃ n, xs.length = n := ⟨_, rfl⟩
  rw [hn] at h1 h2 hx ⊢
  have HN : Hid (xs.length = n) := hn
  clear hn
  go_enter Try.func37, Try.ntmps37
  go_wp2_with fail
  go_loopg [5] n (fun gk t5 wr => ∃ k : Nat, gk + k = n ∧ t5 = .int .i64 k ∧ ∃ d, wr = w.drewN d)
  case atStart => exact ⟨0, rfl, rfl, 0, rfl⟩
  case round =>
    obtain ⟨k, hgk, rfl, d, rfl⟩ := hrel
    by_cases hlt : k < n
    · obtain ⟨b1, o1, rfl, hc1⟩ := h1.at k (by rw [HN.out]; exact hlt)
      obtain ⟨b2, o2, rfl, hc2⟩ := h2.at k (by rw [HN.out]; exact hlt)
      obtain ⟨x, hx'⟩ : ∃ x, xs.getD k 0 = x := ⟨_, rfl⟩
      rw [hx'] at hc1 hc2
      have hkn : (k : Int) < (n : Int) := by omega
      have txx : (x != x) = false := by simp
      clear hx' h1 h2
      go_upto_region 6 with fail
      go_quiet (fail)
      go_wp2
      go_roundg (gk - 1)
      case measure => omega
      case rel => exact ⟨k + 1, by omega, by go_num, _, rfl⟩
    · have hkn : k = n := by omega
      subst hkn
      clear hgk
      go_wp2
      go_ret
      exact ⟨rfl, d, rfl⟩

/-- a sound that is read -/
def SndIn (w : World) (v : Value) (chs : List (List Int)) : Prop :=
  (v = .slice none 0 0 ∧ chs = []) ∨ ∃ lg lcap, v = .slice (some ⟨lg, 0, none⟩) chs.length lcap ∧ ∀ i, i < chs.length → ∃ vi, w.cell? ⟨lg, i, none⟩ = some vi ∧ Lo w vi (chs.getD i [])

theorem Ins.snd {w : World} {D : Nat → Prop} {v : Value} {chs : List (List Int)} (h : Ins w D v chs) : SndIn w v chs := by
  rcases h with h | ⟨lg, lcap, hv, _, _, hc⟩
  · exact .inl h
  · exact .inr ⟨lg, lcap, hv, fun i hi => by obtain ⟨vi, h1, h2⟩ := hc i hi; exact ⟨vi, h1, h2.lo⟩⟩

theorem SndIn.kept {w w' : World} {v : Value} {chs : List (List Int)} (h : SndIn w v chs) (hg : w.grownBy w' none) : SndIn w' v chs := by
  rcases h with h | ⟨lg, lcap, hv, hc⟩
  · exact .inl h
  · exact .inr ⟨lg, lcap, hv, fun i hi => by obtain ⟨vi, h1, h2⟩ := hc i hi; exact ⟨vi, hg.cell h1 (by simp), h2.kept hg⟩⟩

theorem SndIn.slice {w : World} {v : Value} {chs : List (List Int)} (h : SndIn w v chs) : ∃ a c, v = .slice a chs.length c := by
  rcases h with ⟨rfl, rfl⟩ | ⟨lg, lcap, rfl, _⟩
  · exact ⟨none, 0, rfl⟩
  · exact ⟨_, lcap, rfl⟩

theorem SndIn.at {w : World} {a : Option Addr} {n c : Nat} {chs : List (List Int)} (h : SndIn w (.slice a n c) chs) (k : Nat) (hk : k < chs.length) : ∃ lg vi, a = some ⟨lg, 0, none⟩ ∧ w.cell? ⟨lg, k, none⟩ = some vi ∧ Lo w vi (chs.getD k []) := by
  rcases h with ⟨_, e⟩ | ⟨lg, lcap, e, hc⟩
  · rw [e] at hk; simp at hk
  · injection e with e1 _ _
    obtain ⟨vi, h1, h2⟩ := hc k hk
    exact ⟨lg, vi, e1, h1, h2⟩

set_option maxHeartbeats 2000000 in
set_option maxRecDepth 20000 in
theorem ksame (w : World) (v1 v2 : Value) (rate bits : Int) (chs : List (List Int)) (h1 : SndIn w v1 chs) (h2 : SndIn w v2 chs) (hcl : chs.length ≤ 1099511627776) (hlen : ∀ c ∈ chs, c.length ≤ 1099511627776) :
    Calls Try.prog 58 #[.agg #[.int .i64 rate, .int .i64 bits, v1], .agg #[.int .i64 rate, .int .i64 bits, v2]] w fun e w' => e = .returned (.bool true) ∧ w.grownBy w' none := by
  obtain ⟨a1, c1, rfl⟩ := h1.slice
  obtain ⟨a2, c2, rfl⟩ := h2.slice
  obtain ⟨n, hn⟩ : ∃ n, chs.length = n := ⟨_, rfl⟩
  rw [hn] at h1 h2 hcl ⊢
  have HN : Hid (chs.length = n) := hn
  obtain ⟨w0, hw0⟩ : ∃ w0, (w.alloc (.cells #[.int .i64 rate, .int .i64 bits, .slice a1 n c1] 26)).alloc (.cells #[.int .i64 rate, .int .i64 bits, .slice a2 n c2] 26) = w0 := ⟨_, rfl⟩
  have hg0 : w.grownBy w0 none := by rw [← hw0]; exact grown_alloc (grown_alloc (grown_refl _ _) _) _
  obtain ⟨gA, hgA⟩ : ∃ gA, w.heap.size = gA := ⟨_, rfl⟩
  have hbA : Box w0 gA #[.int .i64 rate, .int .i64 bits, .slice a1 n c1] 26 := by rw [← hgA, ← hw0]; exact (Box.new w _ _).kept (grown_alloc (grown_refl _ none) _) (by simp)
  have hbB : Box w0 (gA + 1) #[.int .i64 rate, .int .i64 bits, .slice a2 n c2] 26 := by
    have := Box.new (w.alloc (.cells #[.int .i64 rate, .int .i64 bits, .slice a1 n c1] 26)) #[.int .i64 rate, .int .i64 bits, .slice a2 n c2] 26
    rw [hw0, show (w.alloc (.cells #[.int .i64 rate, .int .i64 bits, .slice a1 n c1] 26)).heap.size = gA + 1 by rw [← hgA]; simp] at this
    exact this
  have h1' := h1.kept hg0
  have h2' := h2.kept hg0
  have HW0 : Hid ((w.alloc (.cells #[.int .i64 rate, .int .i64 bits, .slice a1 n c1] 26)).alloc (.cells #[.int .i64 rate, .int .i64 bits, .slice a2 n c2] 26) = w0) := hw0
  have HGA : Hid (w.heap.size = gA) := hgA
  have z0 : w0.cell? ⟨gA, 0, none⟩ = some (.int .i64 rate) := hbA.cell 0
  have z1 : w0.cell? ⟨gA, 1, none⟩ = some (.int .i64 bits) := hbA.cell 1
  have z2 : w0.cell? ⟨gA, 2, none⟩ = some (.slice a1 n c1) := hbA.cell 2
  have y0 : w0.cell? ⟨gA + 1, 0, none⟩ = some (.int .i64 rate) := hbB.cell 0
  have y1 : w0.cell? ⟨gA + 1, 1, none⟩ = some (.int .i64 bits) := hbB.cell 1
  have y2 : w0.cell? ⟨gA + 1, 2, none⟩ = some (.slice a2 n c2) := hbB.cell 2
  have t1 : (rate != rate) = false := by simp
  have t2 : (bits != bits) = false := by simp
  have HLEN : Hid (∀ c ∈ chs, c.length ≤ 1099511627776) := hlen
  have HG0 : Hid (w.grownBy w0 none) := hg0
  clear hw0 hgA hn h1 h2 hbA hbB hg0 hlen
  go_enter Try.func58, Try.ntmps58
  go_upto_region 1 with fail
  rw [HW0.out, HGA.out]
  go_wp2_with fail
  go_loopg [5] n (fun gk t5 wr => ∃ k : Nat, gk + k = n ∧ t5 = .int .i64 k ∧ ∃ d, wr = w0.drewN d)
  case atStart => exact ⟨0, rfl, rfl, 0, rfl⟩
  case round =>
    obtain ⟨k, hgk, rfl, d, hwr⟩ := hrel
    by_cases hlt : k < n
    · obtain ⟨lg1, u1, rfl, hc1, hl1⟩ := h1'.at k (by rw [HN.out]; exact hlt)
      obtain ⟨lg2, u2, rfl, hc2, hl2⟩ := h2'.at k (by rw [HN.out]; exact hlt)
      obtain ⟨b1, p1, rfl⟩ := hl1.slice
      obtain ⟨b2, p2, rfl⟩ := hl2.slice
      have hkl : (chs.getD k []).length ≤ 1099511627776 := HLEN.out _ (by have := HN.out; simp [List.getD, show k < chs.length by omega])
      have HS := fun d => ksame_ints (w0.drewN d) _ _ _ (hl1.drewN d) (hl2.drewN d) hkl
      obtain ⟨m, hm⟩ : ∃ m, (chs.getD k []).length = m := ⟨_, rfl⟩
      rw [hm] at hc1 hc2 HS
      have hkn : (k : Int) < (n : Int) := by omega
      have Z2 : wr.cell? ⟨gA, 2, none⟩ = some (.slice (some ⟨lg1, 0, none⟩) n c1) := by rw [hwr, World.cell?_drewN]; exact z2
      have Y2 : wr.cell? ⟨gA + 1, 2, none⟩ = some (.slice (some ⟨lg2, 0, none⟩) n c2) := by rw [hwr, World.cell?_drewN]; exact y2
      have C1 : wr.cell? ⟨lg1, k, none⟩ = some (.slice b1 m p1) := by rw [hwr, World.cell?_drewN]; exact hc1
      have C2 : wr.cell? ⟨lg2, k, none⟩ = some (.slice b2 m p2) := by rw [hwr, World.cell?_drewN]; exact hc2
      have HSr : ∀ d', Calls Try.prog 37 #[.slice b1 m p1, .slice b2 m p2] (wr.drewN d') fun e w' => e = .returned (.bool true) ∧ ∃ d'', w' = (wr.drewN d').drewN d'' := by
        intro d'
        have := HS (d + d')
        rw [hwr, World.drewN_drewN]
        exact this
      have HWR : Hid (wr = w0.drewN d) := hwr
      clear hc1 hc2 hm hkl HS hl1 hl2 h1' h2' z0 z1 z2 y0 y1 y2 hwr
      go_upto_region 6 with fail
      go_quiet ((go_at_call 37; exact Calls.quiet_of (HSr _)))
      go_wp2
      go_roundg (gk - 1)
      case measure => omega
      case rel => exact ⟨k + 1, by omega, by go_num, _, by rw [HWR.out, World.drewN_drewN]⟩
    · have hkn : k = n := by omega
      subst hkn
      have Z2 : wr.cell? ⟨gA, 2, none⟩ = some (.slice a1 k c1) := by rw [hwr, World.cell?_drewN]; exact z2
      have hgf : w.grownBy wr none := by rw [hwr]; exact grown_drewN HG0.out d
      clear hgk hwr z0 z1 z2 y0 y1 y2 h1' h2'
      go_wp2
      go_ret
      exact ⟨rfl, hgf⟩
end Go.Proofs.Ytncmgnmcggkhnaa

namespace Go.Proofs.Ytncmgnmcggkhnaa
open Go.RowKit

/-- a list that comes in: an empty one's address may be anything -/
def RinC (w : World) (v : Value) (raw : List Int) : Prop :=
  ∃ a c, v = .slice a raw.length c ∧ raw.length ≤ c ∧ ∀ k, k < raw.length → ∃ b off, a = some ⟨b, off, none⟩ ∧ w.cell? ⟨b, off + k, none⟩ = some (.int .i64 (raw.getD k 0))

theorem RinC.slice {w : World} {v : Value} {l : List Int} (h : RinC w v l) : ∃ a c, v = .slice a l.length c ∧ l.length ≤ c := by
  obtain ⟨a, c, h1, h2, _⟩ := h
  exact ⟨a, c, h1, h2⟩

theorem RinC.at {w : World} {a : Option Addr} {n c : Nat} {l : List Int} (h : RinC w (.slice a n c) l) (k : Nat) (hk : k < l.length) : ∃ b off, a = some ⟨b, off, none⟩ ∧ w.cell? ⟨b, off + k, none⟩ = some (.int .i64 (l.getD k 0)) := by
  obtain ⟨a', c', e, _, h3⟩ := h
  injection e with e1 _ _
  subst e1
  exact h3 k hk

theorem RinC.kept {w w' : World} {v : Value} {l : List Int} (h : RinC w v l) (hg : w.grownBy w' none) : RinC w' v l := by
  obtain ⟨a, c, h1, h2, h3⟩ := h
  exact ⟨a, c, h1, h2, fun k hk => by obtain ⟨b, off, h4, h5⟩ := h3 k hk; exact ⟨b, off, h4, hg.cell h5 (by simp)⟩⟩

theorem RinC.drewN {w : World} {v : Value} {l : List Int} (h : RinC w v l) (d : Nat) : RinC (w.drewN d) v l := by
  obtain ⟨a, c, h1, h2, h3⟩ := h
  exact ⟨a, c, h1, h2, fun k hk => by obtain ⟨b, off, h4, h5⟩ := h3 k hk; exact ⟨b, off, h4, by rw [World.cell?_drewN]; exact h5⟩⟩

/-- a list of lists that comes in -/
def RSnd (w : World) (v : Value) (chs : List (List Int)) : Prop :=
  ∃ a c, v = .slice a chs.length c ∧ ∀ k, k < chs.length → ∃ b off vi, a = some ⟨b, off, none⟩ ∧ w.cell? ⟨b, off + k, none⟩ = some vi ∧ RinC w vi (chs.getD k [])

theorem RSnd.slice {w : World} {v : Value} {chs : List (List Int)} (h : RSnd w v chs) : ∃ a c, v = .slice a chs.length c := by
  obtain ⟨a, c, h1, _⟩ := h
  exact ⟨a, c, h1⟩

theorem RSnd.at {w : World} {a : Option Addr} {n c : Nat} {chs : List (List Int)} (h : RSnd w (.slice a n c) chs) (k : Nat) (hk : k < chs.length) : ∃ b off vi, a = some ⟨b, off, none⟩ ∧ w.cell? ⟨b, off + k, none⟩ = some vi ∧ RinC w vi (chs.getD k []) := by
  obtain ⟨a', c', e, h3⟩ := h
  injection e with e1 _ _
  subst e1
  exact h3 k hk

theorem RSnd.kept {w w' : World} {v : Value} {chs : List (List Int)} (h : RSnd w v chs) (hg : w.grownBy w' none) : RSnd w' v chs := by
  obtain ⟨a, c, h1, h3⟩ := h
  exact ⟨a, c, h1, fun k hk => by obtain ⟨b, off, vi, h4, h5, h6⟩ := h3 k hk; exact ⟨b, off, vi, h4, hg.cell h5 (by simp), h6.kept hg⟩⟩

/-- a part of a list that comes in -/
theorem RinC.part {w : World} {b off n c : Nat} {l : List Int} (h : RinC w (.slice (some ⟨b, off, none⟩) n c) l) (f t c' : Nat) (hft : f ≤ t) (ht : t ≤ l.length) : Lo w (.slice (some ⟨b, off + f, none⟩) (t - f) c') ((l.drop f).take (t - f)) := by
  have hl : ((l.drop f).take (t - f)).length = t - f := by rw [List.length_take, List.length_drop]; omega
  refine .inr ⟨b, off + f, c', by rw [hl], fun i hi => ?_⟩
  rw [hl] at hi
  obtain ⟨b', off', e, h2⟩ := h.at (f + i) (by omega)
  injection e with e
  injection e with e1 e2
  subst e1 e2
  have e3 : ((l.drop f).take (t - f)).getD i 0 = l.getD (f + i) 0 := by simp [List.getD, hi, List.getElem?_drop]
  rw [e3, Nat.add_assoc]
  exact h2
end Go.Proofs.Ytncmgnmcggkhnaa

namespace Go.Proofs.Ytncmgnmcggkhnaa
open Go.RowKit

/-- a list that can be read, wherever it lies -/
def RdL (w : World) (v : Value) (l : List Int) : Prop :=
  ∃ a c, v = .slice a l.length c ∧ ∀ k, k < l.length → ∃ b off, a = some ⟨b, off, none⟩ ∧ w.cell? ⟨b, off + k, none⟩ = some (.int .i64 (l.getD k 0))

theorem RinC.rdl {w : World} {v : Value} {l : List Int} (h : RinC w v l) : RdL w v l := by
  obtain ⟨a, c, h1, _, h3⟩ := h
  exact ⟨a, c, h1, h3⟩

theorem Lo.rdl {w : World} {v : Value} {l : List Int} (h : Lo w v l) : RdL w v l := by
  rcases h with ⟨h1, rfl⟩ | ⟨b, off, cap, h1, h2⟩
  · exact ⟨none, 0, h1, fun k hk => by simp at hk⟩
  · exact ⟨_, cap, h1, fun k hk => ⟨b, off, rfl, h2 k hk⟩⟩

theorem RdL.slice {w : World} {v : Value} {l : List Int} (h : RdL w v l) : ∃ a c, v = .slice a l.length c := by
  obtain ⟨a, c, h1, _⟩ := h
  exact ⟨a, c, h1⟩

theorem RdL.at {w : World} {a : Option Addr} {n c : Nat} {l : List Int} (h : RdL w (.slice a n c) l) (k : Nat) (hk : k < l.length) : ∃ b off, a = some ⟨b, off, none⟩ ∧ w.cell? ⟨b, off + k, none⟩ = some (.int .i64 (l.getD k 0)) := by
  obtain ⟨a', c', e, h3⟩ := h
  injection e with e1 _ _
  subst e1
  exact h3 k hk

theorem RdL.drewN {w : World} {v : Value} {l : List Int} (h : RdL w v l) (d : Nat) : RdL (w.drewN d) v l := by
  obtain ⟨a, c, h1, h3⟩ := h
  exact ⟨a, c, h1, fun k hk => by obtain ⟨b, off, h4, h5⟩ := h3 k hk; exact ⟨b, off, h4, by rw [World.cell?_drewN]; exact h5⟩⟩

theorem RdL.kept {w w' : World} {v : Value} {l : List Int} (h : RdL w v l) (hg : w.grownBy w' none) : RdL w' v l := by
  obtain ⟨a, c, h1, h3⟩ := h
  exact ⟨a, c, h1, fun k hk => by obtain ⟨b, off, h4, h5⟩ := h3 k hk; exact ⟨b, off, h4, hg.cell h5 (by simp)⟩⟩

/-- a list of lists that can be read -/
def RdS (w : World) (v : Value) (chs : List (List Int)) : Prop :=
  ∃ a c, v = .slice a chs.length c ∧ ∀ k, k < chs.length → ∃ b off vi, a = some ⟨b, off, none⟩ ∧ w.cell? ⟨b, off + k, none⟩ = some vi ∧ RdL w vi (chs.getD k [])

theorem RSnd.rds {w : World} {v : Value} {chs : List (List Int)} (h : RSnd w v chs) : RdS w v chs := by
  obtain ⟨a, c, h1, h3⟩ := h
  exact ⟨a, c, h1, fun k hk => by obtain ⟨b, off, vi, h4, h5, h6⟩ := h3 k hk; exact ⟨b, off, vi, h4, h5, h6.rdl⟩⟩

theorem SndIn.rds {w : World} {v : Value} {chs : List (List Int)} (h : SndIn w v chs) : RdS w v chs := by
  rcases h with ⟨h1, rfl⟩ | ⟨lg, lcap, h1, h2⟩
  · exact ⟨none, 0, h1, fun k hk => by simp at hk⟩
  · exact ⟨_, lcap, h1, fun k hk => by obtain ⟨vi, h5, h6⟩ := h2 k hk; exact ⟨lg, 0, vi, rfl, by rw [Nat.zero_add]; exact h5, h6.rdl⟩⟩

theorem RdS.slice {w : World} {v : Value} {chs : List (List Int)} (h : RdS w v chs) : ∃ a c, v = .slice a chs.length c := by
  obtain ⟨a, c, h1, _⟩ := h
  exact ⟨a, c, h1⟩

theorem RdS.at {w : World} {a : Option Addr} {n c : Nat} {chs : List (List Int)} (h : RdS w (.slice a n c) chs) (k : Nat) (hk : k < chs.length) : ∃ b off vi, a = some ⟨b, off, none⟩ ∧ w.cell? ⟨b, off + k, none⟩ = some vi ∧ RdL w vi (chs.getD k []) := by
  obtain ⟨a', c', e, h3⟩ := h
  injection e with e1 _ _
  subst e1
  exact h3 k hk

theorem RdS.kept {w w' : World} {v : Value} {chs : List (List Int)} (h : RdS w v chs) (hg : w.grownBy w' none) : RdS w' v chs := by
  obtain ⟨a, c, h1, h3⟩ := h
  exact ⟨a, c, h1, fun k hk => by obtain ⟨b, off, vi, h4, h5, h6⟩ := h3 k hk; exact ⟨b, off, vi, h4, hg.cell h5 (by simp), h6.kept hg⟩⟩

set_option maxHeartbeats 1000000 in
set_option maxRecDepth 20000 in
/-- two lists that are the same -/
theorem lsame_ints (w : World) (v1 v2 : Value) (xs : List Int) (h1 : RdL w v1 xs) (h2 : RdL w v2 xs) (hx : xs.length ≤ 17592186044416) :
    Calls Try.prog 68 #[v1, v2] w fun e w' => e = .returned (.bool true) ∧ ∃ d, w' = w.drewN d := by
  obtain ⟨a1, c1, rfl⟩ := h1.slice
  obtain ⟨a2, c2, rfl⟩ := h2.slice
  obtain ⟨n, hn⟩ : ∃ n, xs.length = n := ⟨_, rfl⟩
  rw [hn] at h1 h2 hx ⊢
  have HN : Hid (xs.length = n) := hn
  clear hn
  go_enter Try.func68, Try.ntmps68
  go_wp2_with fail
  go_loopg [5] n (fun gk t5 wr => ∃ k : Nat, gk + k = n ∧ t5 = .int .i64 k ∧ ∃ d, wr = w.drewN d)
  case atStart => exact ⟨0, rfl, rfl, 0, rfl⟩
  case round =>
    obtain ⟨k, hgk, rfl, d, rfl⟩ := hrel
    by_cases hlt : k < n
    · obtain ⟨b1, o1, rfl, hc1⟩ := h1.at k (by rw [HN.out]; exact hlt)
      obtain ⟨b2, o2, rfl, hc2⟩ := h2.at k (by rw [HN.out]; exact hlt)
      obtain ⟨x, hx'⟩ : ∃ x, xs.getD k 0 = x := ⟨_, rfl⟩
      rw [hx'] at hc1 hc2
      have hkn : (k : Int) < (n : Int) := by omega
      have txx : (x != x) = false := by simp
      clear hx' h1 h2
      go_upto_region 6 with fail
      go_quiet (fail)
      go_wp2
      go_roundg (gk - 1)
      case measure => omega
      case rel => exact ⟨k + 1, by omega, by go_num, _, rfl⟩
    · have hkn : k = n := by omega
      subst hkn
      clear hgk
      go_wp2
      go_ret
      exact ⟨rfl, d, rfl⟩

set_option maxHeartbeats 1000000 in
set_option maxRecDepth 20000 in
/-- two lists of lists that are the same -/
theorem lsame_lists (w : World) (v1 v2 : Value) (chs : List (List Int)) (h1 : RdS w v1 chs) (h2 : RdS w v2 chs) (hcl : chs.length ≤ 17592186044416) (hlen : ∀ c ∈ chs, c.length ≤ 17592186044416) :
    Calls Try.prog 46 #[v1, v2] w fun e w' => e = .returned (.bool true) ∧ ∃ d, w' = w.drewN d := by
  obtain ⟨a1, c1, rfl⟩ := h1.slice
  obtain ⟨a2, c2, rfl⟩ := h2.slice
  obtain ⟨n, hn⟩ : ∃ n, chs.length = n := ⟨_, rfl⟩
  rw [hn] at h1 h2 hcl ⊢
  have HN : Hid (chs.length = n) := hn
  have HLEN : Hid (∀ c ∈ chs, c.length ≤ 17592186044416) := hlen
  clear hn hlen
  go_enter Try.func46, Try.ntmps46
  go_wp2_with fail
  go_loopg [5] n (fun gk t5 wr => ∃ k : Nat, gk + k = n ∧ t5 = .int .i64 k ∧ ∃ d, wr = w.drewN d)
  case atStart => exact ⟨0, rfl, rfl, 0, rfl⟩
  case round =>
    obtain ⟨k, hgk, rfl, d, hwr⟩ := hrel
    by_cases hlt : k < n
    · obtain ⟨lg1, og1, u1, rfl, hc1, hl1⟩ := h1.at k (by rw [HN.out]; exact hlt)
      obtain ⟨lg2, og2, u2, rfl, hc2, hl2⟩ := h2.at k (by rw [HN.out]; exact hlt)
      obtain ⟨b1, p1, rfl⟩ := hl1.slice
      obtain ⟨b2, p2, rfl⟩ := hl2.slice
      have hkl : (chs.getD k []).length ≤ 17592186044416 := HLEN.out _ (by have := HN.out; simp [List.getD, show k < chs.length by omega])
      have HS := fun d => lsame_ints (w.drewN d) _ _ _ (hl1.drewN d) (hl2.drewN d) hkl
      obtain ⟨m, hm⟩ : ∃ m, (chs.getD k []).length = m := ⟨_, rfl⟩
      rw [hm] at hc1 hc2 HS
      have hkn : (k : Int) < (n : Int) := by omega
      have C1 : wr.cell? ⟨lg1, og1 + k, none⟩ = some (.slice b1 m p1) := by rw [hwr, World.cell?_drewN]; exact hc1
      have C2 : wr.cell? ⟨lg2, og2 + k, none⟩ = some (.slice b2 m p2) := by rw [hwr, World.cell?_drewN]; exact hc2
      have HSr : ∀ d', Calls Try.prog 68 #[.slice b1 m p1, .slice b2 m p2] (wr.drewN d') fun e w' => e = .returned (.bool true) ∧ ∃ d'', w' = (wr.drewN d').drewN d'' := by
        intro d'
        have := HS (d + d')
        rw [hwr, World.drewN_drewN]
        exact this
      have HWR : Hid (wr = w.drewN d) := hwr
      clear hc1 hc2 hm hkl HS hl1 hl2 h1 h2 hwr
      go_upto_region 6 with fail
      go_quiet ((go_at_call 68; exact Calls.quiet_of (HSr _)))
      go_wp2
      go_roundg (gk - 1)
      case measure => omega
      case rel => exact ⟨k + 1, by omega, by go_num, _, by rw [HWR.out, World.drewN_drewN]⟩
    · have hkn : k = n := by omega
      subst hkn
      have HWR : Hid (wr = w.drewN d) := hwr
      clear hgk hwr h1 h2
      go_wp2
      go_ret
      exact ⟨rfl, d, HWR.out⟩

set_option maxHeartbeats 1000000 in
set_option maxRecDepth 20000 in
/-- two sounds that are the same -/
theorem lsame (w : World) (v1 v2 : Value) (rate bits : Int) (chs : List (List Int)) (h1 : RdS w v1 chs) (h2 : RdS w v2 chs) (hcl : chs.length ≤ 17592186044416) (hlen : ∀ c ∈ chs, c.length ≤ 17592186044416) :
    Calls Try.prog 18 #[.agg #[.int .i64 rate, .int .i64 bits, v1], .agg #[.int .i64 rate, .int .i64 bits, v2]] w fun e w' => e = .returned (.bool true) ∧ w.grownBy w' none := by
  have hg : w.grownBy ((w.alloc (Obj.cells #[Value.int .i64 rate, Value.int .i64 bits, v1] 26)).alloc (Obj.cells #[Value.int .i64 rate, Value.int .i64 bits, v2] 26)) none := grown_alloc (grown_alloc (grown_refl w none) _) _
  have HS := lsame_lists _ v1 v2 chs (h1.kept hg) (h2.kept hg) hcl hlen
  have HX1 := Box.new w #[Value.int .i64 rate, Value.int .i64 bits, v1] 26
  have HX2 := Box.new (w.alloc (Obj.cells #[Value.int .i64 rate, Value.int .i64 bits, v1] 26)) #[Value.int .i64 rate, Value.int .i64 bits, v2] 26
  replace HX1 := HX1.kept (grown_alloc (grown_refl _ none) (Obj.cells #[Value.int .i64 rate, Value.int .i64 bits, v2] 26)) (by simp)
  have hsz : (w.alloc (Obj.cells #[Value.int .i64 rate, Value.int .i64 bits, v1] 26)).heap.size = w.heap.size + 1 := by simp
  rw [hsz] at HX2
  clear h1 h2 hcl hlen hsz
  go_enter Try.func18, Try.ntmps18
  go_wp2_with fail
  refine HS.mono ?_
  rintro e w1 ⟨rfl, d, rfl⟩
  clear HS
  revert HX1 HX2 hg
  generalize (w.alloc (Obj.cells #[Value.int .i64 rate, Value.int .i64 bits, v1] 26)).alloc (Obj.cells #[Value.int .i64 rate, Value.int .i64 bits, v2] 26) = w0
  intro hg HX2 HX1
  have hc10 : w0.cell? ⟨w.heap.size, 0, none⟩ = some (.int .i64 rate) := HX1.cell 0
  have hc11 : w0.cell? ⟨w.heap.size, 1, none⟩ = some (.int .i64 bits) := HX1.cell 1
  have hc20 : w0.cell? ⟨w.heap.size + 1, 0, none⟩ = some (.int .i64 rate) := HX2.cell 0
  have hc21 : w0.cell? ⟨w.heap.size + 1, 1, none⟩ = some (.int .i64 bits) := HX2.cell 1
  have HG : Hid (w.grownBy w0 none) := hg
  have tr : (rate == rate) = true := by simp
  have tb : (bits == bits) = true := by simp
  clear HX1 HX2 hg
  go_wp2
  go_ret
  exact ⟨rfl, grown_drewN HG.out _⟩
end Go.Proofs.Ytncmgnmcggkhnaa

namespace Go.Proofs.Ytncmgnmcggkhnaa
open Go.RowKit

theorem Ls2.rds {w : World} {v : Value} {chs : List (List Int)} (h : Ls2 w v chs) : RdS w v chs := by
  rcases h with ⟨h1, rfl⟩ | ⟨g, cap, h1, h2⟩
  · exact ⟨none, 0, h1, fun k hk => by simp at hk⟩
  · exact ⟨_, cap, h1, fun k hk => by obtain ⟨u, h5, h6⟩ := h2 k hk; exact ⟨g, 0, u, rfl, by rw [Nat.zero_add]; exact h5, h6.lo.rdl⟩⟩
end Go.Proofs.Ytncmgnmcggkhnaa

namespace Go.Proofs.Ytncmgnmcggkhnaa
open Go.RowKit

theorem grown_some3 {w w' : World} {g : Nat} (h : w.grownBy w' none) : w.grownBy w' (some g) := ⟨h.os, h.tape, h.output, h.size, fun i hi _ => h.block i hi (by simp)⟩

/-- what a reader's frame leaves -/
def FrPost (w : World) (gB gM : Nat) (h : Head) (l : List Fr) (pv : Value) (pos nM : Nat) (KB : Nat → Prop) (i : Nat) (e : Ending) (w' : World) : Prop :=
  ∃ v M' KB', e = .returned v ∧ w.grownBy w' (some gM) ∧ Rdr w' gB gM h l pv pos (nM + 1) M' KB' ∧ (∀ b, KB' b → KB b ∨ w.heap.size ≤ b) ∧ Views w' KB' v (l.getD i ([], [])).2

/-- what the reading of a frame that is right leaves -/
def FrRead (w : World) (cs : List (List Int)) (e : Ending) (w' : World) : Prop :=
  ∃ (size cnt lg ln lcap : Nat), e = .returned (.tuple #[.agg #[.int .i64 size, .int .i64 cnt, .slice (some ⟨lg, 0, none⟩) ln lcap], .bool true]) ∧ w.grownBy w' none ∧ Views w' (fun q => w.heap.size ≤ q ∧ q < w'.heap.size) (.slice (some ⟨lg, 0, none⟩) ln lcap) cs

def RelF (w2 : World) (cs : List (List Int)) (s9 s10 : Value) (wx : World) : Prop :=
  ∃ (gF size cnt lg ln lcap : Nat), s9 = .pointer (some ⟨gF, 0, none⟩) ∧ s10 = .bool true ∧ Box wx gF #[.int .i64 size, .int .i64 cnt, .slice (some ⟨lg, 0, none⟩) ln lcap] 115 ∧ w2.heap.size ≤ gF ∧ w2.grownBy wx none ∧ Views wx (fun q => w2.heap.size ≤ q ∧ q < wx.heap.size) (.slice (some ⟨lg, 0, none⟩) ln lcap) cs

theorem rel_new {w2 w3 wx : World} {cs : List (List Int)} {size cnt lg ln lcap : Nat} (hg : w2.grownBy w3 none) (hb : w2.heap.size ≤ wx.heap.size) (hview : Views w3 (fun q => wx.heap.size ≤ q ∧ q < w3.heap.size) (.slice (some ⟨lg, 0, none⟩) ln lcap) cs) :
    RelF w2 cs (.pointer (some ⟨w3.heap.size, 0, none⟩)) (.bool true) (w3.alloc (.cells #[.int .i64 size, .int .i64 cnt, .slice (some ⟨lg, 0, none⟩) ln lcap] 115)) :=
  ⟨w3.heap.size, size, cnt, lg, ln, lcap, rfl, rfl, Box.new _ _ _, hg.size, grown_alloc hg _, (hview.kp (Kp.ofNone (S := fun _ => False) (grown_alloc (grown_refl w3 none) _)) (fun _ _ e => e)).more (fun b hb' => ⟨by omega, Nat.lt_of_lt_of_le hb'.2 (by simp)⟩)⟩

theorem rel_set {w2 w3 wx : World} {cs : List (List Int)} {size cnt lg ln lcap : Nat} {a b c : Value} (hbx : Box w3 w2.heap.size #[a, b, c] 115) (hg : w2.grownBy w3 none) (hb : w2.heap.size < wx.heap.size) (hview : Views w3 (fun q => wx.heap.size ≤ q ∧ q < w3.heap.size) (.slice (some ⟨lg, 0, none⟩) ln lcap) cs) :
    RelF w2 cs (.pointer (some ⟨w2.heap.size, 0, none⟩)) (.bool true) (((w3.setCell ⟨w2.heap.size, 0, none⟩ (.int .i64 size)).setCell ⟨w2.heap.size, 1, none⟩ (.int .i64 cnt)).setCell ⟨w2.heap.size, 2, none⟩ (.slice (some ⟨lg, 0, none⟩) ln lcap)) := by
  have hset : ∀ (w : World) (x y z : Value), Box w w2.heap.size #[x, y, z] 115 → ∀ p q r : Value, Box (((w.setCell ⟨w2.heap.size, 0, none⟩ p).setCell ⟨w2.heap.size, 1, none⟩ q).setCell ⟨w2.heap.size, 2, none⟩ r) w2.heap.size #[p, q, r] 115 := fun w x y z hw p q r => ((hw.set 0 p).set 1 q).set 2 r
  have hgs : w3.grownBy (((w3.setCell ⟨w2.heap.size, 0, none⟩ (.int .i64 size)).setCell ⟨w2.heap.size, 1, none⟩ (.int .i64 cnt)).setCell ⟨w2.heap.size, 2, none⟩ (.slice (some ⟨lg, 0, none⟩) ln lcap)) (some w2.heap.size) := grown_trans (grown_trans (grown_set _ _ _ _) (grown_set _ _ _ _)) (grown_set _ _ _ _)
  refine ⟨w2.heap.size, size, cnt, lg, ln, lcap, rfl, rfl, hset _ _ _ _ hbx _ _ _, Nat.le_refl _, grown_new hg hgs (fun q e => by injection e with e; omega), (hview.kp (Kp.of hgs) (fun q hq e => by injection e with e; omega)).more (fun b hb' => ⟨by omega, Nat.lt_of_lt_of_le hb'.2 hgs.size⟩)⟩

set_option maxHeartbeats 4000000 in
set_option maxRecDepth 20000 in
theorem qframeof (w : World) (gB gM : Nat) (h : Head) (chs : List (List Int)) (l : List Fr) (pv : Value) (pos nM : Nat) (M : Int → Option Value) (KB : Nat → Prop) (i : Nat) (hr : Rdr w gB gM h l pv pos nM M KB) (hf : FrOk h chs l) (hi : i < l.length) (hl : l.length ≤ 6000) (hn : nM + 1 ≤ 9223372036854775807) :
    Calls Try.prog 59 #[.pointer (some ⟨gB, 0, none⟩), .int .i64 i] w (FrPost w gB gM h l pv pos nM KB i) := by
  obtain ⟨b1, b2, b3, b4, b5, b6, b7, b8⟩ := headOk_parts hf.ok
  have c7 : w.cell? ⟨gB, 7, none⟩ = some (.map (some gM)) := hr.box.cell 7
  obtain ⟨v0, hk0, hv0⟩ := hr.map.look i (by omega)
  cases hMi : M i with
  | some u =>
    rw [hMi] at hk0
    obtain rfl : v0 = u := hv0 u hMi
    obtain ⟨i', q1, q2, q3⟩ := hr.kept i v0 hMi
    obtain rfl : i = i' := by omega
    have hpost : FrPost w gB gM h l pv pos nM KB i (.returned v0) w := by
      refine ⟨v0, M, KB, rfl, grown_refl _ _, ⟨hr.box, hr.row, hr.lt, hr.map.more (by omega), hr.kept, hr.kb⟩, fun b hb => .inl hb, q3⟩
    clear hv0 hMi q3 hr
    go_enter Try.func59, Try.ntmps59
    go_wp2
    exact bodyPost_ret (v := v0) (by simp [results, Try.results59, go_sem]) rfl hpost
  | none =>
    rw [hMi] at hk0
    obtain ⟨v1, hk1, _⟩ := hr.map.look ((i : Int) - 1) (by omega)
    obtain ⟨ok1, hok1⟩ : ∃ ok1, (M ((i : Int) - 1)).isSome = ok1 := ⟨_, rfl⟩
    rw [hok1] at hk1
    clear hok1
    obtain ⟨wc0, hcl, hmc, hgc⟩ := hr.map.clear
    have HMC : Hid (KMap wc0 gM 0 (fun _ => none)) := hmc
    have HGC : Hid (w.grownBy wc0 (some gM)) := hgc
    have HR : Hid (Rdr w gB gM h l pv pos nM M KB) := hr
    clear hmc hgc hv0 hMi hr
    have hiz : IntKind.i64.wrap ((i : Int) - 1) = (i : Int) - 1 := by rw [IntKind.wrap_i64]; omega
    go_enter Try.func59, Try.ntmps59
    go_upto_region 4 with fail
    go_upto_if 33 with fail
    go_cut [] (fun wx => ∃ n' M', n' ≤ nM ∧ w.grownBy wx (some gM) ∧ Rdr wx gB gM h l pv pos n' M' KB)
    case first =>
      cases ok1 with
      | true =>
        go_wp2
        go_meet
        case rel => exact ⟨nM, M, Nat.le_refl _, grown_refl _ _, HR.out⟩
      | false =>
        go_wp2
        go_meet
        case rel => exact ⟨0, _, Nat.zero_le _, HGC.out, HR.out.turn HGC.out HMC.out (fun a v e => by cases e)⟩
    case rest =>
    clear hk0 hk1 hcl HMC HGC c7 HR
    obtain ⟨n1, M1, hn1, hg1, hr1⟩ := hcut
    have c7 : wc.cell? ⟨gB, 7, none⟩ = some (.map (some gM)) := hr1.box.cell 7
    obtain ⟨w2, hdr, hm2, hg2⟩ := hr1.map.drop ((i : Int) - 4) (by omega)
    have hr2 := hr1.turn hg2 hm2 (fun a v e => by by_cases ha : a = (i : Int) - 4; simp only [if_pos ha] at e; cases e; simp only [if_neg ha] at e; exact e)
    have hgg2 := grown_trans hg1 hg2
    obtain ⟨M2, hM2⟩ : ∃ M2, (fun x => if x = (i : Int) - 4 then none else M1 x) = M2 := ⟨_, rfl⟩
    rw [hM2] at hr2
    have HG2 : Hid (w.grownBy w2 (some gM)) := hgg2
    have HR2 : Hid (Rdr w2 gB gM h l pv pos n1 M2 KB) := hr2
    clear hr1 hm2 hg1 hg2 hM2 hr2 hgg2 hiz
    go_upto_region 8 with fail
    have hrow := HR2.out.row
    obtain ⟨gp, cp, hpv, hgp, _⟩ := World.ownsRow.form hrow (by omega)
    subst hpv
    have hcp := World.ownsRow.cellAt hrow i (by omega)
    obtain ⟨part, hpart⟩ : ∃ part : ByteArray, (⟨(l.getD i ([], [])).1.toArray⟩ : ByteArray) = part := ⟨_, rfl⟩
    have hcp2 : w2.cell? ⟨gp, i, none⟩ = some (.string part) := by
      rw [← hpart]
      rw [hcp, List.getElem?_map, getD_of_get l i ([], []) hi]
      rfl
    have hpd : part.data.toList = (l.getD i ([], [])).1 := by rw [← hpart]
    have hps : part.size ≤ 6000 := by rw [← dlen, hpd]; exact hf.small i hi
    have hfr : pFrame h i part.data.toList = some ((l.getD i ([], [])).2, []) := by rw [hpd]; exact hf.frame i hi
    have HRD : ∀ wx, Calls Try.prog 62 #[.string part, .agg (headC h), .int .i64 i] wx (FrRead wx (l.getD i ([], [])).2) := by
      intro wx
      refine (qreadframe wx part h i hps hf.ch1 b5 b6 b7 b2).mono ?_
      rintro e w3 ⟨hg3, size, cnt, v, ok, rfl, hcase⟩
      rcases hcase with ⟨rfl, cs, cvs, hp, _, hsubs, hcn⟩ | ⟨_, _, _, hp⟩
      · rw [hfr] at hp
        injection hp with hp
        injection hp with hp _
        subst hp
        obtain ⟨h1, n, k, h2, _, h3, _⟩ := pFrame_spec hfr
        have hview := hsubs.views (by rw [h1]; exact hf.ch1) (fun j hj => by rw [h3 j (by rw [← h1]; exact hj)]; exact h2)
        obtain ⟨lg, lcap, hv, _⟩ := id hview
        subst hv
        exact ⟨size, cnt, lg, _, lcap, rfl, hg3, hview⟩
      · rw [hfr] at hp; cases hp
    unfold headC at HRD
    have hbox := HR2.out.box
    have d0 : w2.cell? ⟨gB, 0, none⟩ = some (.int .i64 h.block) := hbox.cell 0
    have d1 : w2.cell? ⟨gB, 1, none⟩ = some (.int .i64 h.rate) := hbox.cell 1
    have d2 : w2.cell? ⟨gB, 2, none⟩ = some (.int .i64 h.channels) := hbox.cell 2
    have d3 : w2.cell? ⟨gB, 3, none⟩ = some (.int .i64 h.bits) := hbox.cell 3
    have d4 : w2.cell? ⟨gB, 4, none⟩ = some (.int .i64 h.total) := hbox.cell 4
    have d5 : w2.cell? ⟨gB, 5, none⟩ = some (.slice (some ⟨gp, 0, none⟩) l.length cp) := hbox.cell 5
    have hil : (i : Int) < (l.length : Int) := by omega
    obtain ⟨ZF, hZF⟩ : ∃ ZF, (Obj.cells #[.int .i64 0, .int .i64 0, .slice none 0 0] 115) = ZF := ⟨_, rfl⟩
    have hgz : w2.grownBy (w2.alloc ZF) none := grown_alloc (grown_refl _ _) _
    have g0 := hgz.cell d0 (by simp)
    have g1 := hgz.cell d1 (by simp)
    have g2 := hgz.cell d2 (by simp)
    have g3 := hgz.cell d3 (by simp)
    have g4 := hgz.cell d4 (by simp)
    have g5 := hgz.cell d5 (by simp)
    have g6 := hgz.cell hcp2 (by simp)
    rw [← hZF] at g0 g1 g2 g3 g4 g5 g6
    have HBZ : Hid (∀ w3, (w2.alloc (Obj.cells #[.int .i64 0, .int .i64 0, .slice none 0 0] 115)).drew.grownBy w3 none → Box w3 w2.heap.size #[.int .i64 0, .int .i64 0, .slice none 0 0] 115) := by
      intro w3 hg3
      exact (show Box (w2.alloc (Obj.cells #[.int .i64 0, .int .i64 0, .slice none 0 0] 115)).drew w2.heap.size _ _ from Box.new w2 _ _).kept hg3 (by simp)
    clear hgz hZF
    clear hrow hcp hpart hpd hbox hdr c7 hfr hps
    go_cut [9, 10] (fun s9 s10 wx => RelF w2 (l.getD i ([], [])).2 s9 s10 wx)
    case first =>
      go_region_with (first
        | (go_at_call 62; refine (HRD (w2.alloc (Obj.cells #[.int .i64 0, .int .i64 0, .slice none 0 0] 115)).drew).mono ?_; rintro e w3 ⟨size, cnt, lg, ln, lcap, rfl, hg3, hview⟩; have HB3 : Hid (Box w3 w2.heap.size #[.int .i64 0, .int .i64 0, .slice none 0 0] 115) := HBZ.out w3 hg3; have z0 : w3.cell? ⟨w2.heap.size, 0, none⟩ = some (.int .i64 0) := HB3.out.cell 0; have z1 : w3.cell? ⟨w2.heap.size, 1, none⟩ = some (.int .i64 0) := HB3.out.cell 1; have z2 : w3.cell? ⟨w2.heap.size, 2, none⟩ = some (.slice none 0 0) := HB3.out.cell 2; have y0 := HB3.out.fz 0; have y1 := HB3.out.fz 1; have y2 := HB3.out.fz 2; have hgg3 : w2.grownBy w3 none := grown_trans (grown_drew (grown_alloc (grown_refl w2 none) _)) hg3)
        | (go_at_call 62; refine (HRD w2.drew).mono ?_; rintro e w3 ⟨size, cnt, lg, ln, lcap, rfl, hg3, hview⟩; have hgg3 : w2.grownBy w3 none := grown_trans (grown_drew (grown_refl w2 none)) hg3))
      all_goals
        go_wp2
        go_meet
        case rel => first | exact rel_set HB3.out hgg3 (by simp) hview | exact rel_new hgg3 (by first | exact Nat.le_refl _ | simp) hview
    case rest =>
      obtain ⟨gF, size, cnt, lg, ln, lcap, rfl, rfl, hbF, hgF, hg3, hview⟩ := hcut
      have hr3 : Rdr wc gB gM h l (.slice (some ⟨gp, 0, none⟩) l.length cp) pos n1 M2 KB := HR2.out.kp (Kp.ofNone (S := fun _ => False) hg3) (fun _ _ e => e)
      obtain ⟨w4, hput, hm4, hg4⟩ := (show KMap wc.drew gM n1 M2 from hr3.map).put (by unfold maxLen; omega) i (by omega) (.slice (some ⟨lg, 0, none⟩) ln lcap)
      have hg4' : wc.grownBy w4 (some gM) := ⟨hg4.os, hg4.tape, hg4.output, hg4.size, hg4.block⟩
      obtain ⟨hr4, hv4⟩ := HR2.out.keep hg3 hg4' hm4 hi hview
      have c7 : wc.cell? ⟨gB, 7, none⟩ = some (.map (some gM)) := hr3.box.cell 7
      have f2 : wc.cell? ⟨gF, 2, none⟩ = some (.slice (some ⟨lg, 0, none⟩) ln lcap) := hbF.cell 2
      have f4 : w4.cell? ⟨gF, 2, none⟩ = some (.slice (some ⟨lg, 0, none⟩) ln lcap) := hg4'.cell f2 (by have h1 := HR2.out.lt; have h2 := HR2.out.box.lt; intro e; injection e with e; have e' : gF = gM := e; omega)
      have hpost : FrPost w gB gM h l (.slice (some ⟨gp, 0, none⟩) l.length cp) pos nM KB i (.returned (.slice (some ⟨lg, 0, none⟩) ln lcap)) w4 := by
        refine ⟨_, _, _, rfl, ?_, ⟨hr4.box, hr4.row, hr4.lt, hr4.map.more (by omega), hr4.kept, hr4.kb⟩, fun b hb => ?_, hv4⟩
        · exact grown_trans (grown_trans HG2.out (grown_some3 hg3)) hg4'
        · rcases hb with hb | hb
          · exact .inl hb
          · exact .inr (Nat.le_trans HG2.out.size hb.1)
      clear hr4 hv4 hm4 hg4 hg4' hr3 hview hbF hg3
      go_upto_region 9 with fail
      go_region
      all_goals
        go_wp2
        exact bodyPost_ret (v := .slice (some ⟨lg, 0, none⟩) ln lcap) (by simp [results, Try.results59, go_sem]) rfl hpost
end Go.Proofs.Ytncmgnmcggkhnaa
