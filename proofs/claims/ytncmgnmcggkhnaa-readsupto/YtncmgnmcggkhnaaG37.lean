import Derived.Test.YtncmgnmcggkhnaaG09
import Derived.Test.YtncmgnmcggkhnaaG36
import Derived.Test.YtncmgnmcggkhnaaG22
namespace Go.Proofs.Ytncmgnmcggkhnaa
set_option maxRecDepth 100000 in
theorem empty_dec : decode [102, 76, 97, 67, 128, 0, 0, 34, 0, 16, 0, 16, 0, 0, 0, 0, 0, 0, 0, 0, 16, 112, 0, 0, 0, 0, 0, 0, 0, 0, 0, 0, 0, 0, 0, 0, 0, 0, 0, 0, 0, 0] = .sound 1 8 [[]] := by
  kernel_rfl
end Go.Proofs.Ytncmgnmcggkhnaa

namespace Go.Proofs.Ytncmgnmcggkhnaa
open Go.RowKit

theorem frames_lens (h : Head) (hc : 1 ≤ h.channels) : ∀ (fuel number total : Nat) (ended : Bool) (acc chs : List (List Int)) (L : List UInt8), acc.length = h.channels → total ≤ 1200 → (∀ j, j < h.channels → (acc.getD j []).length = total) →
    frames h fuel number total ended acc L = .ok chs → ∀ j, j < h.channels → (chs.getD j []).length ≤ 1200
  | 0, _, _, _, _, _, _, _, _, _, e => by cases e
  | fuel + 1, number, total, ended, acc, chs, L, ha, ht, hl, e => by
    unfold frames at e
    split at e
    · injection e with e
      subst e
      intro j hj
      rw [hl j hj]
      exact ht
    · cases hp : pFrame h number L with
      | none => rw [hp] at e; cases e
      | some x =>
        obtain ⟨cs, rest⟩ := x
        rw [hp] at e
        obtain ⟨hcl, n, k, _, _, hcn, _⟩ := pFrame_spec hp
        simp only at e
        split at e
        · cases e
        · rename_i hno
          rw [headD_getD, hcn 0 (by omega)] at hno
          have hn : ¬ 1200 < total + n := fun h => hno (.inr h)
          refine frames_lens h hc fuel _ _ _ _ chs rest (by rw [List.length_zipWith, ha, hcl]; omega) ?_ ?_ e
          · rw [headD_getD, hcn 0 (by omega)]; omega
          · intro j hj
            rw [zip_append_get acc cs h.channels ha hcl j hj, List.length_append, hl j hj, hcn j hj, headD_getD, hcn 0 (by omega)]

theorem decode_bounds {s : ByteArray} {r bt : Nat} {chs : List (List Int)} (hd : decode s.data.toList = .sound r bt chs) : chs.length ≤ 2 ∧ ∀ j, j < chs.length → (chs.getD j []).length ≤ 1200 := by
  by_cases hlong : 6000 < s.size
  · rw [decode_long s hlong] at hd; cases hd
  · have hs : s.size ≤ 6000 := by omega
    cases hpb : pBlocks (bitsOf s.data.toList) with
    | none => rw [decode_meta s hs hpb] at hd; cases hd
    | some x =>
      obtain ⟨h, rb⟩ := x
      have hspec := pBlocks_spec hpb (by rw [total_bits]; omega)
      have hhok := hspec.2.2.1
      have hc2 : h.channels ≤ 2 := by unfold headOk at hhok; simp at hhok; omega
      rw [decode_frames s hs hpb] at hd
      cases hf : frames h (s.size + 1) 0 0 false (List.replicate h.channels []) (s.data.toList.drop (s.size - rb.length / 8)) with
      | error k => rw [hf] at hd; cases hd
      | ok cs =>
        rw [hf] at hd
        have hd' : (if (cs.headD []).length = h.total then Answer.sound h.rate h.bits cs else .err 5 0) = .sound r bt chs := hd
        split at hd'
        · injection hd' with e
          injection e with _ e
          injection e with _ e
          subst e
          have hl := frames_len h _ _ _ _ _ cs _ (by simp) hf
          refine ⟨by omega, fun j hj => frames_lens h hspec.2.2.2 _ _ _ _ _ cs _ (by simp) (by omega) (fun j hj => by simp [List.getD, hj]) hf j (by omega)⟩
        · cases hd'

def ansRate : Answer → Nat | .inl _ => 0 | .inr (r, _, _) => r
def ansBits : Answer → Nat | .inl _ => 0 | .inr (_, b, _) => b
def ansChs : Answer → List (List Int) | .inl _ => [] | .inr (_, _, c) => c
def ansErr : Answer → Nat | .inl (e, _) => e | .inr _ => 0
def ansAt : Answer → Nat | .inl (_, p) => p | .inr _ => 0

theorem ans_bounds (s : ByteArray) : (ansChs (decode s.data.toList)).length ≤ 2 ∧ ∀ j, j < (ansChs (decode s.data.toList)).length → ((ansChs (decode s.data.toList)).getD j []).length ≤ 1200 := by
  cases hd : decode s.data.toList using Answer.each with
  | err e p => exact ⟨by simp [ansChs], fun j hj => by simp [ansChs] at hj⟩
  | sound r b c => exact decode_bounds hd

theorem dec_parts {w w' : World} {s : ByteArray} {e : Ending} {A : Answer} (hA : decode s.data.toList = A) (h : DecPost w s e w') :
    w.grownBy w' none ∧ ∃ lv vs, e = .returned (.tuple #[.agg #[.int .i64 (ansRate A), .int .i64 (ansBits A), lv], .int .i64 (ansErr A), .int .i64 (ansAt A)]) ∧ Subs w' w.heap.size lv vs (ansChs A) := by
  obtain ⟨hg, h⟩ := h
  rw [hA] at h
  refine ⟨hg, ?_⟩
  cases A using Answer.each with
  | err er place => exact ⟨.slice none 0 0, [], h, Subs.nil _ _⟩
  | sound r b c => exact h

theorem Subs.ls2 {w : World} {base : Nat} {lv : Value} {vs : List Value} {xss : List (List Int)} (h : Subs w base lv vs xss) : Ls2 w lv xss := by
  have hl := h.len
  rcases Nat.eq_zero_or_pos vs.length with h0 | hpos
  · have hx : xss = [] := List.eq_nil_of_length_eq_zero (by omega)
    subst hx
    rcases h.row.2 with ⟨hv, _⟩ | ⟨g, cap, cur, hv, _⟩
    · exact .inl ⟨hv, rfl⟩
    · exact .inr ⟨g, cap, by rw [hv, h0]; rfl, fun i hi => by simp at hi⟩
  · obtain ⟨lg, lcap, hv, _, _, hc⟩ := h.cell hpos
    exact .inr ⟨lg, lcap, by rw [hv, hl], fun i hi => ⟨_, hc i (by omega), (h.own i (by omega)).ls⟩⟩

/-- the book through new memory -/
theorem BookOk.new {w w' : World} {b N M : Nat} (h : BookOk w b N M) (hg : w.grownBy w' none) : BookOk w' b N M := by
  obtain ⟨iv, ov, us, os, E, hbk, hN, hM, hi, ho⟩ := h
  refine ⟨iv, ov, us, os, E, hbk.data hg (fun g e => by cases e), hN, hM, fun k hk => (hi k hk).step fun g n hS => ⟨hS, fun _ _ hc => cell_kept hc hg⟩, fun k hk => (ho k hk).step (fun g hgE => ⟨hgE, ?_⟩) fun g n hS => ⟨hS, fun _ _ _ _ hc => cell_kept hc hg⟩⟩
  exact World.cell?_of_block (w := w) (a := ⟨g, 0, none⟩) (hg.block g (hbk.dat g (.inl hgE)).2.1 (by simp))

/-- the book, empty -/
theorem BookOk.start {w : World} {b : Nat} (h : Box w b #[.slice none 0 0, .slice none 0 0] 34) : BookOk w b 0 0 :=
  ⟨_, _, [], [], fun _ => False, ⟨h, World.ownsRow_nil _ _ _ _, World.ownsRow_nil _ _ _ _, (fun g e => by cases e), (fun g hg => by rcases hg with hg | hg <;> exact hg.elim), fun g hg => hg.elim⟩, rfl, rfl, (fun k hk => by simp at hk), fun k hk => by simp at hk⟩

/-- lists that came out of a call, and the book that was there before -/
theorem KS.begin {wB w : World} {b B N M : Nat} {lv : Value} {vs : List Value} {xss : List (List Int)} (h : BookOk wB b N M) (hg : wB.grownBy w none) (hs : Subs w B lv vs xss) (hB : wB.heap.size ≤ B) :
    ∃ iv ov us os E, us.length = N ∧ os.length = M ∧ KS w w b lv vs xss 0 iv ov us os E (.slice none 0 0) 0 0 := by
  have hnew := h.new hg
  obtain ⟨iv, ov, us, os, E, hbk, hN, hM, hi, ho⟩ := h
  have hbk2 := hbk.data hg (fun g e => by cases e)
  have hri := World.ownsRow.lt hbk.ri
  have hro := World.ownsRow.lt hbk.ro
  have hbl := hbk.box.lt
  have hlv := World.ownsRow.lt hs.row
  have hK : ∀ g, Kl lv vs 0 g → B ≤ g ∧ g < w.heap.size := by
    rintro g (hg | ⟨j, _, hj, hg⟩)
    · exact hlv g hg
    · exact (hs.own j hj).lt g hg
  refine ⟨iv, ov, us, os, E, hN, hM, ⟨hbk2.sets (fun g hgE => ?_) (fun g hgE hk => ?_), Below.refl _ _, ownsRow_mono hs.row (by omega), fun j _ hj => Own.mono (hs.own j hj) (by omega), fun j g _ hj hv => hs.apartL j g hj hv, hs.apartV, Own.nil _ _, (fun g e => by cases e), fun k hk => (hi k hk).step fun g n hS => ⟨.inl hS, fun _ _ hc => cell_kept hc hg⟩, fun k hk => (ho k hk).step (fun g hgE => ⟨hgE, ?_⟩) fun g n hS => ⟨hS, fun _ _ _ _ hc => cell_kept hc hg⟩⟩⟩
  · rcases hgE with hgE | hk | hk
    · exact hbk2.dat g (.inl hgE)
    · have := hK g hk
      exact ⟨by omega, this.2, fun e => by have := (hri g e).2; omega, fun e => by have := (hro g e).2; omega⟩
    · cases hk
  · have h1 := (hbk.dat g (.inl hgE)).2.1
    rcases hk with hk | hk
    · have := hK g hk; omega
    · cases hk
  · exact World.cell?_of_block (w := w) (a := ⟨g, 0, none⟩) rfl |>.trans (World.cell?_of_block (w := wB) (a := ⟨g, 0, none⟩) (hg.block g (hbk.dat g (.inl hgE)).2.1 (by simp)))

theorem BookOk.looks {w : World} {b N M : Nat} (h : BookOk w b N M) (hN : N ≤ 1000) (hM : M ≤ 1000) :
    Calls Try.prog 20 #[.pointer (some ⟨b, 0, none⟩)] w fun e w' => e = .returned (.bool true) ∧ w' = w := by
  obtain ⟨iv, ov, us, os, E, hbk, hNe, hMe, hi, ho⟩ := h
  subst hNe hMe
  refine looks_true w b us.length os.length iv ov (by omega) (by omega) (hbk.box.cell 0) (hbk.box.cell 1) ?_ ?_
  · obtain ⟨a, c, hv⟩ := row_sliceK hbk.ri
    refine ⟨a, c, hv, fun i hlt => ?_⟩
    have hri := hbk.ri
    rw [hv] at hri
    obtain ⟨g, ha, _, hc, _⟩ := row_cell1 hri hlt
    exact ⟨g, _, ha, hc, (hi i hlt).mk⟩
  · obtain ⟨a, c, hv⟩ := row_sliceK hbk.ro
    refine ⟨a, c, hv, fun i hlt => ?_⟩
    have hro := hbk.ro
    rw [hv] at hro
    obtain ⟨g, ha, _, hc, _⟩ := row_cell1 hro hlt
    exact ⟨g, _, ha, hc, (ho i hlt).mk⟩

/-- keep, on a book and lists that came out of a call -/
theorem BookOk.keep {wB w : World} {b B N M : Nat} {lv : Value} {vs : List Value} {xss : List (List Int)} (h : BookOk wB b N M) (hg : wB.grownBy w none) (hs : Subs w B lv vs xss) (hB : wB.heap.size ≤ B) (hN : N % 4 = 0) (hNb : N ≤ 100) (hM : M % 4 = 0) (hMb : M ≤ 100)
    (hx2 : xss.length ≤ 2) (hxl : ∀ j, j < xss.length → (xss.getD j []).length ≤ 1200) :
    Calls Try.prog 19 #[.pointer (some ⟨b, 0, none⟩), lv] w fun e w' => e = .returned (.tuple #[]) ∧ Below b w w' ∧ BookOk w' b (N + 4 * xss.length) (M + 4) := by
  obtain ⟨iv, ov, us, os, E, hNe, hMe, hks⟩ := KS.begin h hg hs hB
  subst hNe hMe
  have hl := hs.len
  have := keep_book w b lv vs xss iv ov us os E hks hN hNb hM hMb hl (by omega) hxl
  rw [hl] at this
  exact this
end Go.Proofs.Ytncmgnmcggkhnaa

namespace Go.Proofs.Ytncmgnmcggkhnaa
open Go.RowKit

theorem Ls.below {w w' : World} {B : Nat} {v : Value} {xs : List Int} (h : Ls w v xs) (hb : Below B w w') (hB : w.heap.size ≤ B) : Ls w' v xs := by
  rcases h with h | ⟨g, cap, hv, hc⟩
  · exact .inl h
  · exact .inr ⟨g, cap, hv, fun i hi => by rw [hb.cell (p := ⟨g, i, none⟩) (by have := World.block_lt_of_cell? w _ (hc i hi); show g < B; exact Nat.lt_of_lt_of_le this hB)]; exact hc i hi⟩

theorem Ls2.below {w w' : World} {B : Nat} {v : Value} {xs : List (List Int)} (h : Ls2 w v xs) (hb : Below B w w') (hB : w.heap.size ≤ B) : Ls2 w' v xs := by
  rcases h with h | ⟨g, cap, hv, hc⟩
  · exact .inl h
  · exact .inr ⟨g, cap, hv, fun i hi => by
      obtain ⟨u, hu, hl⟩ := hc i hi
      exact ⟨u, by rw [hb.cell (p := ⟨g, i, none⟩) (by have := World.block_lt_of_cell? w _ hu; show g < B; exact Nat.lt_of_lt_of_le this hB)]; exact hu, hl.below hb hB⟩⟩

theorem below_box {w w' : World} {B g : Nat} {cs : Array Value} {t : TypeId} (hb : Below B w w') (h : Box w g cs t) (hg : g < B) : Box w' g cs t := by
  unfold Box at *
  rw [hb.block g hg, h]

theorem Subs.new {w w' : World} {base : Nat} {lv : Value} {vs : List Value} {xss : List (List Int)} (h : Subs w base lv vs xss) (hg : w.grownBy w' none) : Subs w' base lv vs xss :=
  ⟨World.ownsRow.kept h.row hg (own_side fun g _ => by simp), h.len, fun i hi => World.ownsRow.kept (h.own i hi) hg (own_side fun g _ => by simp), h.apartL, h.apartV⟩

set_option maxHeartbeats 4000000 in
set_option maxRecDepth 20000 in
theorem decodes_walk (s : ByteArray) (hz : s.size ≤ 140737488351232) (w : World) :
    Calls Try.prog 4 #[.string s] w fun e w' => e = .returned (.bool true) ∧ Below w.heap.size w w' := by
  have hsz : s.size ≤ maxLen := by unfold maxLen; omega
  have hab := ans_bounds s
  have HSZ : Hid (s.size ≤ maxLen) := hsz
  clear hsz
  go_enter Try.func4, Try.ntmps4
  go_wp2_with fail
  refine (qdecode w _ (by unfold maxLen; decide)).mono ?_
  rintro e w1 hdp
  obtain ⟨hg1, lv, vs, he, hsubs⟩ := dec_parts (A := .sound 1 8 [[]]) empty_dec hdp
  have he' : e = .returned (.tuple #[.agg #[.int .i64 1, .int .i64 8, lv], .int .i64 0, .int .i64 0]) := he
  subst he'
  have hsubs' : Subs w1 w.heap.size lv vs [[]] := hsubs
  have hvl : vs.length = 1 := hsubs'.len
  obtain ⟨lg, lcap, hlv, _, _, hc⟩ := hsubs'.cell (by omega)
  rw [hvl] at hlv
  subst hlv
  obtain ⟨a0, c0, hv0⟩ := own_slice (hsubs'.own 0 (by omega))
  have hl0 := hc 0 (by omega)
  rw [hv0] at hl0
  clear hdp he hsubs hsubs' hc hv0 hvl
  obtain ⟨w2, hw2⟩ : ∃ w2, w1.alloc (.cells #[.int .i64 1, .int .i64 8, .slice (some ⟨lg, 0, none⟩) 1 lcap] 26) = w2 := ⟨_, rfl⟩
  obtain ⟨gX, hgX⟩ : ∃ gX, w1.heap.size = gX := ⟨_, rfl⟩
  have hg2 : w1.grownBy w2 none := by rw [← hw2]; exact grown_alloc (grown_refl _ _) _
  have hbX : Box w2 gX #[.int .i64 1, .int .i64 8, .slice (some ⟨lg, 0, none⟩) 1 lcap] 26 := by rw [← hgX, ← hw2]; exact Box.new _ _ _
  have hgg2 := grown_trans hg1 hg2
  have hl2 : w2.cell? ⟨lg, 0, none⟩ = some (.slice a0 0 c0) := cell_kept hl0 hg2
  have HW2 : Hid (w1.alloc (.cells #[.int .i64 1, .int .i64 8, .slice (some ⟨lg, 0, none⟩) 1 lcap] 26) = w2) := hw2
  have HGX : Hid (w1.heap.size = gX) := hgX
  clear hw2 hgX hg1 hg2 hl0
  go_upto_region 2 with fail
  rw [HW2.out, HGX.out]
  clear HW2 HGX
  have x0 : w2.cell? ⟨gX, 0, none⟩ = some (.int .i64 1) := hbX.cell 0
  have x1 : w2.cell? ⟨gX, 1, none⟩ = some (.int .i64 8) := hbX.cell 1
  have x2 : w2.cell? ⟨gX, 2, none⟩ = some (.slice (some ⟨lg, 0, none⟩) 1 lcap) := hbX.cell 2
  go_wp2_with fail
  clear x0 x1 x2 hl2 hbX
  refine (rdecode w2 s HSZ.out).mono ?_
  rintro e w3 hdp
  obtain ⟨A, hA⟩ : ∃ A, decode s.data.toList = A := ⟨_, rfl⟩
  obtain ⟨hg3, lvr, vsr, rfl, hsr⟩ := dec_parts hA hdp
  rw [hA] at hab
  have HA : Hid (decode s.data.toList = A) := hA
  obtain ⟨R, hR⟩ : ∃ R, ansRate A = R := ⟨_, rfl⟩
  obtain ⟨Bt, hBt⟩ : ∃ Bt, ansBits A = Bt := ⟨_, rfl⟩
  obtain ⟨Er, hEr⟩ : ∃ Er, ansErr A = Er := ⟨_, rfl⟩
  obtain ⟨At, hAt⟩ : ∃ At, ansAt A = At := ⟨_, rfl⟩
  obtain ⟨C, hC⟩ : ∃ C, ansChs A = C := ⟨_, rfl⟩
  have HP : Hid (∀ w, Calls Try.prog 16 #[.string s] w fun e w' => w.grownBy w' none ∧ ∃ lv vs, e = .returned (.tuple #[.agg #[.int .i64 R, .int .i64 Bt, lv], .int .i64 Er, .int .i64 At]) ∧ Subs w' w.heap.size lv vs C) := by
    intro w
    refine (qdecode w s HSZ.out).mono ?_
    intro e w' hd
    rw [← hR, ← hBt, ← hEr, ← hAt, ← hC]
    exact dec_parts HA.out hd
  rw [hR, hBt, hEr, hAt]
  rw [hC] at hab hsr
  obtain ⟨ar, cr, hlr⟩ := row_sliceK hsr.row
  have hls := hsr.ls2
  have hgg3 := grown_trans hgg2 hg3
  subst hlr
  obtain ⟨nr, hnr⟩ : ∃ nr, vsr.length = nr := ⟨_, rfl⟩
  rw [hnr] at hls ⊢
  clear hA hR hBt hEr hAt hC hdp hsr hnr hg3 hgg2
  have h2 := two_new w3 _ rfl #[Value.int .i64 R, .int .i64 Bt, .slice ar nr cr] #[Value.slice none 0 0, .slice none 0 0] 26 34
  obtain ⟨gW, hgW⟩ : ∃ gW, w3.heap.size = gW := ⟨_, rfl⟩
  obtain ⟨w5, hw5⟩ : ∃ w5, (w3.alloc (.cells #[Value.int .i64 R, .int .i64 Bt, .slice ar nr cr] 26)).alloc (.cells #[Value.slice none 0 0, .slice none 0 0] 34) = w5 := ⟨_, rfl⟩
  rw [hw5] at h2
  have HW5 : Hid ((w3.alloc (.cells #[Value.int .i64 R, .int .i64 Bt, .slice ar nr cr] 26)).alloc (.cells #[Value.slice none 0 0, .slice none 0 0] 34) = w5) := hw5
  have HGW : Hid (w3.heap.size = gW) := hgW
  clear hw5 hgW
  obtain ⟨hg5, hbW, hbB⟩ := h2
  have hbook := BookOk.start hbB
  rw [HGW.out] at hbW hbook
  go_upto_region 6 with fail
  rw [HW5.out, HGW.out]
  clear HW5
  go_wp2_with fail
  go_loopg [10] 2 (fun gq t10 wq => ∃ (i N M : Nat), gq + i = 2 ∧ t10 = .int .i64 i ∧ N % 4 = 0 ∧ N ≤ 8 * i ∧ M = 4 * i ∧ BookOk wq (gW + 1) N M ∧ Below (gW + 1) w5 wq)
  case atStart => exact ⟨0, 0, 0, rfl, rfl, rfl, by omega, rfl, hbook, Below.refl _ _⟩
  case round =>
    obtain ⟨i, N, M, hgq, rfl, hN4, hNb, hM, hbk, hbel⟩ := hrel
    by_cases hi : i < 2
    · have hbW1 := below_box hbel hbW (by omega)
      have hlsq : Ls2 wr (.slice ar nr cr) C := by
        refine hls.below (B := w3.heap.size) ?_ (Nat.le_refl _)
        exact ((Below.refl w3.heap.size w3).grown hg5 (Nat.le_refl _) (fun k e => by cases e)).trans (hbel.mono (by rw [HGW.out]; omega))
      have hbB1 : gW + 1 ≤ wr.heap.size := by have h1 := hbB.lt; have h2 := hbel.size; rw [HGW.out] at h1; omega
      go_wp2_with fail
      refine (HP.out wr).mono ?_
      rintro e w6 ⟨hg6, lv, vs, rfl, hsubs⟩
      obtain ⟨sa, cs, hlv⟩ := row_sliceK hsubs.row
      subst hlv
      obtain ⟨ns, hns⟩ : ∃ ns, vs.length = ns := ⟨_, rfl⟩
      rw [hns] at hsubs ⊢
      clear hns
      obtain ⟨w7, hw7⟩ : ∃ w7, w6.alloc (.cells #[.int .i64 R, .int .i64 Bt, .slice sa ns cs] 26) = w7 := ⟨_, rfl⟩
      obtain ⟨gS, hgS⟩ : ∃ gS, w6.heap.size = gS := ⟨_, rfl⟩
      have hg7 : w6.grownBy w7 none := by rw [← hw7]; exact grown_alloc (grown_refl _ _) _
      have hbS : Box w7 gS #[.int .i64 R, .int .i64 Bt, .slice sa ns cs] 26 := by rw [← hgS, ← hw7]; exact Box.new _ _ _
      have hgr7 := grown_trans hg6 hg7
      have hsubs7 := hsubs.new hg7
      have hbW7 := hbW1.kept hgr7 (by simp)
      have hls7 := hlsq.kept hgr7
      have HW7 : Hid (w6.alloc (.cells #[.int .i64 R, .int .i64 Bt, .slice sa ns cs] 26) = w7) := hw7
      have HGS : Hid (w6.heap.size = gS) := hgS
      clear hw7 hgS hg6 hg7 hsubs
      go_upto_region 10 with fail
      rw [HW7.out, HGS.out]
      clear HW7 HGS
      have s0 : w7.cell? ⟨gS, 0, none⟩ = some (.int .i64 R) := hbS.cell 0
      have s1 : w7.cell? ⟨gS, 1, none⟩ = some (.int .i64 Bt) := hbS.cell 1
      have s2 : w7.cell? ⟨gS, 2, none⟩ = some (.slice sa ns cs) := hbS.cell 2
      have v0 : w7.cell? ⟨gW, 0, none⟩ = some (.int .i64 R) := hbW7.cell 0
      have v1 : w7.cell? ⟨gW, 1, none⟩ = some (.int .i64 Bt) := hbW7.cell 1
      have v2 : w7.cell? ⟨gW, 2, none⟩ = some (.slice ar nr cr) := hbW7.cell 2
      have hsame := same_sound w7 (.slice sa ns cs) (.slice ar nr cr) R Bt R Bt C C hsubs7.ls2 hls7 (by omega) (by omega) (fun j hj => by have := hab.2 j hj; omega) (fun j hj => by have := hab.2 j hj; omega)
      have hok : (decide (C = C) && ((R : Int) == (R : Int)) && ((Bt : Int) == (Bt : Int))) = true := by simp
      rw [hok] at hsame
      unfold soundV at hsame
      clear hok
      go_wp2_with fail
      refine hsame.mono ?_
      rintro e w8 ⟨rfl, hg8⟩
      have hgr8 := grown_trans hgr7 hg8
      have hsubs8 := hsubs7.new hg8
      have t2 : w8.cell? ⟨gS, 2, none⟩ = some (.slice sa ns cs) := cell_kept s2 hg8
      have hkeep := hbk.keep hgr8 hsubs8 (Nat.le_refl _) hN4 (by omega) (by omega) (by omega) hab.1 hab.2
      clear hsame s0 s1 s2 v0 v1 v2 hsubs7 hsubs8 hls7 hbW7 hbS
      go_wp2_with fail
      refine hkeep.mono ?_
      rintro e w9 ⟨rfl, hbel9, hbk9⟩
      have hlooks := hbk9.looks (by omega) (by omega)
      clear hkeep t2
      go_wp2_with fail
      refine hlooks.mono ?_
      rintro e w10 ⟨rfl, rfl⟩
      have hbelf : Below (gW + 1) w5 w10 := (hbel.grown hgr8 hbB1 (fun k e => by cases e)).trans hbel9
      have HBK : Hid _ := hbk9
      have HBF : Hid _ := hbelf
      have hC2 := hab.1
      obtain ⟨cl, hcl⟩ : ∃ cl, C.length = cl := ⟨_, rfl⟩
      rw [hcl] at hC2 HBK
      have n1 : ((Er : Int) != (Er : Int)) = false := by simp
      have n2 : ((At : Int) != (At : Int)) = false := by simp
      clear hlooks hbk9 hbelf hbk hbel hbel9 hgr8 hgr7 hg8 hcl
      go_wp2
      go_roundg (gk - 1)
      case measure => omega
      case rel => exact ⟨i + 1, N + 4 * cl, M + 4, by omega, by go_num, by omega, by omega, by omega, HBK.out, HBF.out⟩
    · have hfin : Below w.heap.size w wr := by
        have h1 := (Below.refl w.heap.size w).grown hgg3 (Nat.le_refl _) (fun k e => by cases e)
        have h2 := h1.grown hg5 hgg3.size (fun k e => by cases e)
        have hws := hgg3.size
        rw [HGW.out] at hws
        exact h2.trans (hbel.mono (by omega))
      clear hbk hbel
      go_wp2
      go_ret
      exact ⟨rfl, hfin⟩
end Go.Proofs.Ytncmgnmcggkhnaa
