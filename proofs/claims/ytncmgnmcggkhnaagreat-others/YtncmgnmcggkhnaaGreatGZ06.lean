import Derived.Test.YtncmgnmcggkhnaaGreatGZ05
import Derived.Test.YtncmgnmcggkhnaaGreatGZ04
import Derived.Test.YtncmgnmcggkhnaaGreatGZ01
namespace Go.Proofs.YtncmgnmcggkhnaaGreat
open Go.RowKit

/-- a list of lists of ints that can be read -/
def Ls2 (w : World) (v : Value) (xss : List (List Int)) : Prop :=
  (v = .slice none 0 0 ∧ xss = []) ∨ ∃ g cap, v = .slice (some ⟨g, 0, none⟩) xss.length cap ∧ ∀ i, i < xss.length → ∃ u, w.cell? ⟨g, i, none⟩ = some u ∧ Ls w u (xss.getD i [])

theorem Ls2.slice {w : World} {v : Value} {xs : List (List Int)} (h : Ls2 w v xs) : ∃ a c, v = .slice a xs.length c := by
  rcases h with ⟨rfl, rfl⟩ | ⟨g, cap, rfl, _⟩
  · exact ⟨none, 0, rfl⟩
  · exact ⟨_, cap, rfl⟩

theorem Ls.drew {w : World} {v : Value} {xs : List Int} (h : Ls w v xs) (d : Nat) : Ls (w.drewN d) v xs := by
  rcases h with h | ⟨g, cap, hv, hc⟩
  · exact .inl h
  · exact .inr ⟨g, cap, hv, fun i hi => by rw [World.cell?_drewN]; exact hc i hi⟩

theorem take_eq_succ2 (xs ys : List (List Int)) (k : Nat) (h1 : k < xs.length) (h2 : k < ys.length) (h : xs.take k = ys.take k) (he : xs.getD k [] = ys.getD k []) : xs.take (k + 1) = ys.take (k + 1) := by
  rw [List.take_succ_eq_append_getElem h1, List.take_succ_eq_append_getElem h2, h]
  simp only [List.getD, List.getElem?_eq_getElem h1, List.getElem?_eq_getElem h2, Option.getD_some] at he
  rw [he]

end Go.Proofs.YtncmgnmcggkhnaaGreat

namespace Go.Proofs.YtncmgnmcggkhnaaGreat
open Go.RowKit

/-- a sound as a value -/
def soundV (rate bits : Int) (v : Value) : Value := .agg #[.int .i64 rate, .int .i64 bits, v]

theorem cell_kept {w w' : World} {a : Addr} {u : Value} (h : w.cell? a = some u) (hg : w.grownBy w' none) : w'.cell? a = some u := by
  rw [← h]
  unfold World.cell?
  rw [hg.block a.block (World.block_lt_of_cell? w a h) (by simp)]

theorem Ls.kept {w w' : World} {v : Value} {xs : List Int} (h : Ls w v xs) (hg : w.grownBy w' none) : Ls w' v xs := by
  rcases h with h | ⟨g, cap, hv, hc⟩
  · exact .inl h
  · exact .inr ⟨g, cap, hv, fun i hi => cell_kept (hc i hi) hg⟩

theorem Ls2.kept {w w' : World} {v : Value} {xs : List (List Int)} (h : Ls2 w v xs) (hg : w.grownBy w' none) : Ls2 w' v xs := by
  rcases h with h | ⟨g, cap, hv, hc⟩
  · exact .inl h
  · exact .inr ⟨g, cap, hv, fun i hi => by obtain ⟨u, hu, hl⟩ := hc i hi; exact ⟨u, cell_kept hu hg, hl.kept hg⟩⟩

end Go.Proofs.YtncmgnmcggkhnaaGreat

namespace Go.Proofs.YtncmgnmcggkhnaaGreat
open Go.RowKit

/-- a sound of zeros -/
def noSound : Value := .agg #[.int .i64 0, .int .i64 0, .slice none 0 0]

/-- what Decode leaves -/
def DecPost (w : World) (s : ByteArray) (e : Ending) (w' : World) : Prop :=
  w.grownBy w' none ∧
    match decode s.data.toList with
    | .inl (er, place) => e = .returned (.tuple #[noSound, .int .i64 er, .int .i64 place])
    | .inr (rate, bits, chs) => ∃ lv vs, e = .returned (.tuple #[.agg #[.int .i64 rate, .int .i64 bits, lv], .int .i64 0, .int .i64 0]) ∧ Subs w' w.heap.size lv vs chs

/-- how the blocks lie -/
structure DLie (w : World) (r b gH gO gC base : Nat) : Prop where
  r0 : w.heap.size ≤ r
  b0 : w.heap.size ≤ b
  c0 : w.heap.size ≤ gC
  rb : r < base
  bb : b < base
  hb : gH < base
  ob : gO < base
  cb : gC < base
  h0 : w.heap.size ≤ gH
  o0 : w.heap.size ≤ gO
  br : b ≠ r
  bh : b ≠ gH
  bo : b ≠ gO
  bc : b ≠ gC
  cr : gC ≠ r
  ch : gC ≠ gH
  co : gC ≠ gO
  ro : r ≠ gO
  rh : r ≠ gH

theorem grown_new {w wr w1 : World} {row : Option Nat} (h : w.grownBy wr none) (hg : wr.grownBy w1 row) (hr : ∀ g, row = some g → w.heap.size ≤ g) : w.grownBy w1 none :=
  ⟨hg.os.trans h.os, hg.tape.trans h.tape, hg.output.trans h.output, Nat.le_trans h.size hg.size,
    fun i hi _ => (hg.block i (Nat.lt_of_lt_of_le hi h.size) (fun e => by have := hr i e.symm; omega)).trans (h.block i hi (by simp))⟩

section
variable {w wr w1 : World} {r b gH gO gC base : Nat} {h : Head} {vs : List Value} {acc : List (List Int)}

theorem getD_set_ne {α : Type} (l : List α) (i j : Nat) (x d : α) (h : i ≠ j) : (l.set i x).getD j d = l.getD j d := by
  simp [List.getD, h]
theorem getD_set_eq {α : Type} (l : List α) (i : Nat) (x d : α) (h : i < l.length) : (l.set i x).getD i d = x := by
  simp [List.getD, h]

end

theorem Chs.kept {w w' : World} {base : Nat} {v : Value} {chs : List (List Int)} {row : Option Nat} (h : Chs w base v chs) (hg : w.grownBy w' row) (hr : ∀ q, row = some q → q < base) : Chs w' base v chs := by
  obtain ⟨lg, lcap, rfl, hb, hc⟩ := h
  refine ⟨lg, lcap, rfl, hb, fun i hi => ?_⟩
  obtain ⟨g, cap, h1, h2⟩ := hc i hi
  have hlt := h2.lt
  refine ⟨g, cap, hg.cell h1 (fun e => ?_), World.ownsRow.kept h2 hg (.inr (fun e => ?_))⟩
  · have := hr lg e.symm
    omega
  · have := hr g e.symm
    omega

/-- up to channel `k` the lists have grown -/
def GrownUpto (acc chs acc' : List (List Int)) (c k : Nat) : Prop := acc'.length = c ∧ ∀ j, j < c → acc'.getD j [] = if j < k then acc.getD j [] ++ chs.getD j [] else acc.getD j []

theorem GrownUpto.start (acc chs : List (List Int)) (c : Nat) (h : acc.length = c) : GrownUpto acc chs acc c 0 := ⟨h, fun j _ => by rw [if_neg (by omega)]⟩

theorem GrownUpto.step {acc chs acc' : List (List Int)} {c k : Nat} (h : GrownUpto acc chs acc' c k) (hk : k < c) : GrownUpto acc chs (acc'.set k (acc.getD k [] ++ chs.getD k [])) c (k + 1) := by
  refine ⟨by rw [List.length_set]; exact h.1, fun j hj => ?_⟩
  by_cases e : k = j
  · subst e
    rw [getD_set_eq _ _ _ _ (by rw [h.1]; exact hk), if_pos (by omega)]
  · rw [getD_set_ne _ _ _ _ _ e, h.2 j hj]
    by_cases hjk : j < k
    · rw [if_pos hjk, if_pos (by omega)]
    · rw [if_neg hjk, if_neg (by omega)]

theorem GrownUpto.all {acc chs acc' : List (List Int)} {c : Nat} (h : GrownUpto acc chs acc' c c) (h1 : acc.length = c) (h2 : chs.length = c) : acc' = List.zipWith (· ++ ·) acc chs := by
  apply List.ext_getElem?
  intro j
  rcases Nat.lt_or_ge j c with hj | hj
  · have e1 := h.2 j hj
    rw [if_pos hj, ← zip_append_get acc chs c h1 h2 j hj] at e1
    have l1 : acc'[j]? = some (acc'[j]'(by rw [h.1]; exact hj)) := List.getElem?_eq_getElem (by rw [h.1]; exact hj)
    have l2 : (List.zipWith (· ++ ·) acc chs)[j]? = some ((List.zipWith (· ++ ·) acc chs)[j]'(by rw [List.length_zipWith]; omega)) := List.getElem?_eq_getElem (by rw [List.length_zipWith]; omega)
    simp only [List.getD, l1, l2, Option.getD_some] at e1
    rw [l1, l2, e1]
  · rw [List.getElem?_eq_none (by rw [h.1]; exact hj), List.getElem?_eq_none (by rw [List.length_zipWith]; omega)]

/-- the cells of a row, as an append reads them -/
theorem row_news {w : World} {base g n cap : Nat} {ys : List Int} (h : Row w base g n cap ys) : ∀ j u, (ys.map (Value.int .i64))[j]? = some u → w.cell? ((⟨g, 0, none⟩ : Addr).add j) = some u := by
  intro j u hj
  have hl := h.len
  have hjn : j < ys.length := by
    rcases Nat.lt_or_ge j ys.length with h1 | h1
    · exact h1
    · rw [List.getElem?_eq_none (by simpa using h1)] at hj; cases hj
  have ea : (⟨g, 0, none⟩ : Addr).add j = ⟨g, j, none⟩ := by
    unfold Addr.add
    split
    · rename_i e; rw [e]
    · simp
  have e9 : ys[j]? = some (ys[j]'hjn) := List.getElem?_eq_getElem hjn
  rw [ea, h.cell j (by omega), ← hj, List.getElem?_map, List.getD, e9]
  rfl

theorem grown_undrew {w w' : World} {row : Option Nat} {d : Nat} (h : (w.drewN d).grownBy w' row) : w.grownBy w' row := ⟨h.os, h.tape, h.output, h.size, h.block⟩

theorem three_cells (w : World) (g : Nat) (z0 z1 z2 : Value) (t : TypeId) (v0 v1 v2 : Value) (h : Box w g #[z0, z1, z2] t) :
    Box (((w.setCell ⟨g, 0, none⟩ v0).setCell ⟨g, 1, none⟩ v1).setCell ⟨g, 2, none⟩ v2) g #[v0, v1, v2] t ∧
    w.grownBy (((w.setCell ⟨g, 0, none⟩ v0).setCell ⟨g, 1, none⟩ v1).setCell ⟨g, 2, none⟩ v2) (some g) :=
  ⟨((h.set 0 v0).set 1 v1).set 2 v2, grown_trans (grown_trans (grown_set _ _ _ _) (grown_set _ _ _ _)) (grown_set _ _ _ _)⟩

/-- an error is answered -/
theorem dec_err {w X : World} {r er place : Nat} {s : ByteArray} (hg : w.grownBy X none) (hr : w.heap.size ≤ r) (hb : Box X r #[.int .i64 0, .int .i64 0, .slice none 0 0] 25) (hd : decode s.data.toList = .err er place) :
    Box (((X.setCell ⟨r, 0, none⟩ (.int .i64 0)).setCell ⟨r, 1, none⟩ (.int .i64 0)).setCell ⟨r, 2, none⟩ (.slice none 0 0)) r #[.int .i64 0, .int .i64 0, .slice none 0 0] 25 ∧
    DecPost w s (.returned (.tuple #[noSound, .int .i64 er, .int .i64 place])) (((X.setCell ⟨r, 0, none⟩ (.int .i64 0)).setCell ⟨r, 1, none⟩ (.int .i64 0)).setCell ⟨r, 2, none⟩ (.slice none 0 0)) := by
  have h3 := three_cells X r _ _ _ _ (.int .i64 0) (.int .i64 0) (.slice none 0 0) hb
  refine ⟨h3.1, grown_new hg h3.2 (fun g e => by injection e with e; omega), ?_⟩
  rw [hd]

theorem pMore_left : ∀ (fuel : Nat) (l r : List Bool) (u : Unit), pMore fuel l = some (u, r) → l.length % 8 = 0 → r.length % 8 = 0 ∧ r.length ≤ l.length
  | 0, l, r, u, e, _ => by cases e
  | fuel + 1, l, r, u, e, h8 => by
    obtain ⟨⟨⟨last, kind, size⟩, r1⟩, e1, e⟩ := Option.bind_eq_some_iff.mp (show (pBlock l).bind _ = _ from e)
    have h1 := block_left e1
    simp only at e
    split at e
    · cases e
    · split at e
      · injection e with e
        injection e with _ e
        subst e
        rw [List.length_drop]
        omega
      · have := pMore_left fuel _ r u e (by rw [List.length_drop]; omega)
        rw [List.length_drop] at this
        omega

theorem info_ok {l r : List Bool} {h : Head} (e : pInfo l = some (h, r)) : headOk h = true ∧ 1 ≤ h.channels := by
  unfold pInfo at e
  obtain ⟨⟨a1, r1⟩, e1, e⟩ := Option.bind_eq_some_iff.mp e
  obtain ⟨⟨a2, r2⟩, e2, e⟩ := Option.bind_eq_some_iff.mp e
  obtain ⟨⟨a3, r3⟩, e3, e⟩ := Option.bind_eq_some_iff.mp e
  obtain ⟨⟨a4, r4⟩, e4, e⟩ := Option.bind_eq_some_iff.mp e
  obtain ⟨⟨a5, r5⟩, e5, e⟩ := Option.bind_eq_some_iff.mp e
  obtain ⟨⟨a6, r6⟩, e6, e⟩ := Option.bind_eq_some_iff.mp e
  obtain ⟨⟨a7, r7⟩, e7, e⟩ := Option.bind_eq_some_iff.mp e
  obtain ⟨⟨a8, r8⟩, e8, e⟩ := Option.bind_eq_some_iff.mp e
  simp only at e
  split at e
  · rename_i hc
    injection e with e
    injection e with e _
    subst e
    exact ⟨hc, by show 1 ≤ a5 + 1; omega⟩
  · cases e

theorem pBlocks_spec {l r : List Bool} {h : Head} (e : pBlocks l = some (h, r)) (h8 : l.length % 8 = 0) : r.length % 8 = 0 ∧ r.length ≤ l.length ∧ headOk h = true ∧ 1 ≤ h.channels := by
  unfold pBlocks at e
  obtain ⟨⟨a1, r1⟩, e1, e⟩ := Option.bind_eq_some_iff.mp e
  obtain ⟨⟨a2, r2⟩, e2, e⟩ := Option.bind_eq_some_iff.mp e
  obtain ⟨⟨a3, r3⟩, e3, e⟩ := Option.bind_eq_some_iff.mp e
  obtain ⟨⟨a4, r4⟩, e4, e⟩ := Option.bind_eq_some_iff.mp e
  obtain ⟨⟨⟨last, kind, size⟩, r5⟩, e5, e⟩ := Option.bind_eq_some_iff.mp e
  have n1 := pmust_left e1
  have n2 := pmust_left e2
  have n3 := pmust_left e3
  have n4 := pmust_left e4
  have n5 := block_left e5
  simp only at e n1 n2 n3 n4 n5
  split at e
  · obtain ⟨⟨h', r6⟩, e6, e⟩ := Option.bind_eq_some_iff.mp e
    have n6 := info_left e6
    have hok := info_ok e6
    simp only at e n6
    split at e
    · injection e with e
      injection e with e7 e8
      subst e7
      subst e8
      exact ⟨by omega, by omega, hok.1, hok.2⟩
    · cases hm : pMore l.length r6 with
      | none => rw [hm] at e; cases e
      | some x =>
        obtain ⟨u, r7⟩ := x
        rw [hm] at e
        injection e with e
        injection e with e7 e8
        subst e7
        subst e8
        have := pMore_left _ _ _ _ hm (by omega)
        exact ⟨this.1, by show r7.length ≤ _; omega, hok.1, hok.2⟩
  · cases e
end Go.Proofs.YtncmgnmcggkhnaaGreat

namespace Go.Proofs.YtncmgnmcggkhnaaGreat
open Go.RowKit

theorem div_one_iff (n v : Nat) (hn : 0 < n) (hv : v < 2 ^ n) : ((v : Int) / 2 ^ (n - 1) == 1) = decide (2 ^ (n - 1) ≤ v) := by
  obtain ⟨m, rfl⟩ : ∃ m, n = m + 1 := ⟨n - 1, by omega⟩
  have hp := Nat.two_pow_pos m
  rw [Nat.pow_succ] at hv
  have e : ((v : Int) / 2 ^ (m + 1 - 1)) = ((v / 2 ^ m : Nat) : Int) := by simp
  rw [e, Bool.eq_iff_iff]
  simp only [beq_iff_eq, decide_eq_true_eq, Nat.add_sub_cancel]
  have h1 : v / 2 ^ m < 2 := by rw [Nat.div_lt_iff_lt_mul hp]; omega
  constructor
  · intro h
    have h2 : v / 2 ^ m = 1 := by omega
    rcases Nat.lt_or_ge v (2 ^ m) with h3 | h3
    · rw [Nat.div_eq_of_lt h3] at h2; omega
    · exact h3
  · intro h
    have : 1 ≤ v / 2 ^ m := (Nat.le_div_iff_mul_le hp).2 (by omega)
    omega

def SgnPost (w : World) (b : Nat) (s : ByteArray) (n : Nat) (σ : Option (List Bool)) (e : Ending) (w' : World) : Prop :=
  ∃ (v : Nat) (σ' : Option (List Bool)), e = .returned (.int .i64 (sign n v)) ∧ v < 2 ^ n ∧ (σ' = none → v = 0) ∧ w.grownBy w' (some b) ∧ Sp w' b s σ' ∧ Ends (pSigned n) σ (sign n v) σ'

set_option maxHeartbeats 400000 in
theorem qsigned (w : World) (b : Nat) (s : ByteArray) (n : Nat) (σ : Option (List Bool)) (hs : s.size ≤ 6000) (hn : n ≤ 32) (h : Sp w b s σ) :
    Calls Tryz.prog 85 #[.pointer (some ⟨b, 0, none⟩), .int .i64 n] w (SgnPost w b s n σ) := by
  go_enter Tryz.func85, Tryz.ntmps85
  go_wp2_with fail
  refine (qnum _ _ _ _ _ hs (by omega) h).mono ?_
  rintro e w' ⟨v, σ', rfl, hv, hz, hg, hsp, hends⟩
  have HZ : Hid (σ' = none → v = 0) := hz
  clear hz
  rcases Nat.eq_zero_or_pos n with rfl | h0
  · go_wp2
    go_ret
    exact ⟨v, σ', ret_int (by rw [sign_zero v hv]; exact congrArg Int.ofNat (show v = 0 by simpa using hv)), hv, HZ.out, hg, hsp, signed_ends hends⟩
  · have q1 := ipow (n - 1) (by omega)
    have q2 := ipow n (by omega)
    have q3 : (v : Int) < 2 ^ n := by rw [show (2 : Int) ^ n = ((2 ^ n : Nat) : Int) by simp]; omega
    have hdiv := div_one_iff n v h0 hv
    have hq : IntKind.i64.wrap ((v : Int) - 2 ^ n) = (v : Int) - 2 ^ n := by rw [IntKind.wrap_i64]; omega
    by_cases hge : 2 ^ (n - 1) ≤ v
    · rw [decide_eq_true hge] at hdiv
      have HGE : Hid (2 ^ (n - 1) ≤ v) := hge
      clear hge
      go_wp2
      go_ret
      exact ⟨v, σ', ret_int (by rw [sign_neg n v h0 HGE.out]), hv, HZ.out, hg, hsp, signed_ends hends⟩
    · rw [decide_eq_false hge] at hdiv
      have HGE : Hid (v < 2 ^ (n - 1)) := by show _ < _; omega
      clear hge
      go_wp2
      go_ret
      exact ⟨v, σ', ret_int (by rw [sign_pos n v HGE.out]), hv, HZ.out, hg, hsp, signed_ends hends⟩

def ZerPost (w : World) (b : Nat) (s : ByteArray) (σ : Option (List Bool)) (e : Ending) (w' : World) : Prop :=
  ∃ (q : Nat) (σ' : Option (List Bool)), e = .returned (.int .i64 q) ∧ q ≤ 48000 ∧ (σ' = none → q = 0) ∧ w.grownBy w' (some b) ∧ Sp w' b s σ' ∧ Ends pNoughts σ q σ'

theorem noughts_nil (l : List Bool) (k : Nat) (h : pNoughts l = (pNoughts []).map fun (q, r) => (q + k, r)) : pNoughts l = none := h

set_option maxHeartbeats 400000 in
theorem qzeros (w : World) (b : Nat) (s : ByteArray) (σ : Option (List Bool)) (hs : s.size ≤ 6000) (h : Sp w b s σ) :
    Calls Tryz.prog 79 #[.pointer (some ⟨b, 0, none⟩)] w (ZerPost w b s σ) := by
  obtain ⟨a, ha, hrd, hnone, hsome⟩ := h.rd
  go_enter Tryz.func79, Tryz.ntmps79
  go_wp2_with fail
  refine (qleft _ _ _ _ _ hs ha hrd).mono ?_
  rintro e w1 ⟨rfl, d, rfl⟩
  have hrd1 := hrd.drewN d
  have hsp1 := h.drewN d
  have hg1 : w.grownBy (w.drewN d) (some b) := grown_drewN (grown_refl _ _) d
  obtain ⟨L, hL⟩ : ∃ L, 8 * s.size - a = L := ⟨_, rfl⟩
  have hL2 : L ≤ 48000 := by omega
  have HS0 : Hid (∃ l', (match σ with | some l => l' = l | none => l' = []) ∧ l'.length = L) := by
    cases σ with
    | none => exact ⟨[], rfl, by have := hnone rfl; simp; omega⟩
    | some l => exact ⟨l, rfl, by have := (hsome l rfl).2; omega⟩
  rw [hL]
  clear hrd hrd1 hnone hsome h hL
  go_wp2_with fail
  go_loopw [6] (fun i wr => ∃ k : Nat, i = .int .i64 k ∧ k ≤ L ∧ w.grownBy wr (some b) ∧
      ((∃ l l' : List Bool, σ = some l ∧ Sp wr b s (some l') ∧ l'.length + k = L ∧ pNoughts l = (pNoughts l').map fun (q, r) => (q + k, r)) ∨ (σ = none ∧ L = 0 ∧ Sp wr b s none)))
    (fun i _ => L - (intOf i).toNat)
  case atStart =>
    refine ⟨0, rfl, by omega, hg1, ?_⟩
    obtain ⟨l', h1, h2⟩ := HS0.out
    cases σ with
    | none => exact .inr ⟨rfl, by rw [← h2, h1]; rfl, hsp1⟩
    | some l => exact .inl ⟨l, l, rfl, hsp1, by rw [← h2, h1]; rfl, by cases pNoughts l <;> rfl⟩
  case round =>
    obtain ⟨k, rfl, hk, hg, ⟨l, l', rfl, hsp, hkl, hno⟩ | ⟨rfl, rfl, hsp⟩⟩ := hrel
    · have HNO : Hid (pNoughts l = (pNoughts l').map fun (q, r) => (q + k, r)) := hno
      clear hno
      rcases l' with _ | ⟨c, m⟩
      · obtain ⟨a2, ha2, hrd2, _, _⟩ := hsp.rd
        simp at hkl
        have hkL : decide ((k : Int) < (L : Int)) = false := decide_eq_false (by omega)
        go_wp2_with (go_at_call 69; refine (qend _ _ _ _ _ hs hrd2).mono ?_; rintro e w' ⟨rfl, hsp', hg'⟩)
        go_ret
        exact ⟨0, none, rfl, by omega, fun _ => rfl, grown_trans hg hg', hsp', Ends.fail (fun l0 e => by cases e; exact noughts_nil _ _ HNO.out)⟩
      · simp only [List.length_cons] at hkl
        rcases c with _ | _
        · go_wp2_with (go_at_call 70; refine (qbit _ _ _ _ _ hs hsp).mono ?_; rintro e w' ⟨rfl, hsp', hg'⟩)
          go_roundw
          case rel => exact ⟨k + 1, by go_num, by omega, grown_trans hg hg', .inl ⟨l, m, rfl, hsp', by omega, noughts_step l _ k HNO.out false m rfl⟩⟩
          case measure => simp [intOf]; omega
        · go_wp2_with (go_at_call 70; refine (qbit _ _ _ _ _ hs hsp).mono ?_; rintro e w' ⟨rfl, hsp', hg'⟩)
          go_ret
          refine ⟨k, some m, rfl, by omega, fun e => (by cases e), grown_trans hg hg', hsp', ?_⟩
          have := noughts_step l _ k HNO.out true m rfl
          simp [Ends, this]
    · obtain ⟨a2, ha2, hrd2, _, _⟩ := hsp.rd
      have hkL : decide ((k : Int) < 0) = false := decide_eq_false (by omega)
      go_wp2_with (go_at_call 69; refine (qend _ _ _ _ _ hs hrd2).mono ?_; rintro e w' ⟨rfl, hsp', hg'⟩)
      go_ret
      exact ⟨0, none, rfl, by omega, fun _ => rfl, grown_trans hg hg', hsp', Ends.dead⟩

set_option maxHeartbeats 400000 in
theorem qover (w : World) (b : Nat) (s : ByteArray) (σ : Option (List Bool)) (h : Sp w b s σ) :
    Calls Tryz.prog 53 #[.pointer (some ⟨b, 0, none⟩)] w fun e w' => e = .returned (.bool σ.isNone) ∧ w' = w := by
  obtain ⟨a, ha, hrd, _, _⟩ := h.rd
  have c2 := hrd.c2
  go_enter Tryz.func53, Tryz.ntmps53
  go_wp2
  go_ret
  exact ⟨rfl, rfl⟩

set_option maxHeartbeats 400000 in
theorem qbytes (w : World) (b : Nat) (s : ByteArray) (a : Nat) (m : Bool) (hs : s.size ≤ 6000) (ha : a ≤ 8 * s.size) (h : Rd 130 w b s a m) :
    Calls Tryz.prog 51 #[.pointer (some ⟨b, 0, none⟩)] w fun e w' => e = .returned (.int .i64 (((a + 7) / 8 : Nat) : Int)) ∧ w' = w := by
  have c1 := h.c1
  go_enter Tryz.func51, Tryz.ntmps51
  go_wp2
  go_ret
  exact ⟨ret_int (by omega), rfl⟩

theorem Box_new (w : World) (cs : Array Value) (t : TypeId) : (w.alloc (.cells cs t)).heap[w.heap.size]? = some (.cells cs t (0, 0)) := by
  show (w.heap.push _)[w.heap.size]? = _
  simp

set_option maxHeartbeats 400000 in
theorem qnew (w : World) (s : ByteArray) :
    Calls Tryz.prog 48 #[.string s] w fun e w' => e = .returned (.pointer (some ⟨w.heap.size, 0, none⟩)) ∧ Sp w' w.heap.size s (some (bitsOf s.data.toList)) ∧ w.grownBy w' none ∧ w'.heap.size = w.heap.size + 1 := by
  go_enter Tryz.func48, Tryz.ntmps48
  go_wp2
  go_ret
  refine ⟨rfl, ⟨0, Nat.zero_le _, rfl, ?_⟩, grown_alloc (grown_refl _ _) _, by simp⟩
  exact Box_new _ _ _

/-- bits up to a byte's end -/
def AlnPost (w : World) (b : Nat) (s : ByteArray) (l : List Bool) (e : Ending) (w' : World) : Prop :=
  ∃ ok : Bool, e = .returned (.bool ok) ∧ w.grownBy w' (some b) ∧ Sp w' b s (some (l.drop (l.length % 8))) ∧ pMust (l.length % 8) 0 l = if ok = true then some ((), l.drop (l.length % 8)) else none

theorem aln_fin {m v : Nat} {l : List Bool} {σ' : Option (List Bool)} (h : Ends (pNum m) (some l) v σ') (hm : m ≤ l.length) :
    σ' = some (l.drop m) ∧ pMust m 0 l = if ((v : Int) == 0) = true then some ((), l.drop m) else none := by
  have e : pNum m l = some (val (l.take m), l.drop m) := by unfold pNum; rw [if_pos hm]
  rcases h.cases with ⟨r, e1, rfl⟩ | ⟨e1, _⟩
  · rw [e] at e1
    injection e1 with e1
    injection e1 with e1 e2
    subst e1
    subst e2
    refine ⟨rfl, ?_⟩
    unfold pMust
    rw [e]
    show (if _ then _ else _) = _
    by_cases h0 : val (l.take m) = 0
    · rw [if_pos h0, if_pos (by simpa using h0)]
    · rw [if_neg h0, if_neg (by simpa using h0)]
  · rw [e] at e1; cases e1

set_option maxHeartbeats 1000000 in
theorem qalign (w : World) (b : Nat) (s : ByteArray) (l : List Bool) (hs : s.size ≤ 6000) (h : Sp w b s (some l)) :
    Calls Tryz.prog 50 #[.pointer (some ⟨b, 0, none⟩)] w (AlnPost w b s l) := by
  obtain ⟨a, ha, hrd, _, hsome⟩ := h.rd
  have hl := (hsome l rfl).2
  have c1 := hrd.c1
  have hr0 : IntKind.i64.wrap (IntKind.i64.wrap (8 * (((a : Int) + 7) / 8)) - (a : Int)) = ((l.length % 8 : Nat) : Int) := by
    rw [show IntKind.i64.wrap (8 * (((a : Int) + 7) / 8)) = 8 * (((a : Int) + 7) / 8) by rw [IntKind.wrap_i64]; omega, IntKind.wrap_i64]
    omega
  have HR : Hid (IntKind.i64.wrap (IntKind.i64.wrap (8 * (((a : Int) + 7) / 8)) - (a : Int)) = ((l.length % 8 : Nat) : Int)) := hr0
  clear hr0
  have hspd : Sp w.drew b s (some l) := h.drewN 1
  have hrdd : Rd 130 w.drew b s a false := hrd.drew
  have hcall := qnum w.drew b s (l.length % 8) (some l) hs (by omega) hspd
  have hmod : l.length % 8 ≤ l.length := Nat.mod_le _ _
  clear hsome h
  go_enter Tryz.func50, Tryz.ntmps50
  go_wp2
  go_region_with (first
    | (go_at_call 51; refine (qbytes _ _ _ _ _ hs ha hrdd).mono ?_; rintro e w1 ⟨rfl, rfl⟩)
    | (go_at_call 52; rw [HR.out]; refine hcall.mono ?_; rintro e w1 ⟨v, σ', rfl, hv, hz, hg, hsp, hends⟩))
  all_goals
    go_wp2
    go_ret
    obtain ⟨h1, h2⟩ := aln_fin hends hmod
    subst h1
    exact ⟨_, rfl, grown_trans (grown_drew (grown_refl _ _)) hg, hsp, h2⟩
end Go.Proofs.YtncmgnmcggkhnaaGreat

namespace Go.Proofs.YtncmgnmcggkhnaaGreat
open Go.RowKit

/-- so many of a list have been read; what is read next goes behind them -/
def Goes (f : P Int) (n k : Nat) (xs : List Int) (σ σ' : Option (List Bool)) : Prop :=
  ∀ ys σ'', Ends (pList f (n - k)) σ' ys σ'' → Ends (pList f n) σ (xs ++ ys) σ''

theorem list_cons_ends {f : P Int} {m : Nat} {x : Int} {ys : List Int} {σ σ1 σ2 : Option (List Bool)} (h1 : Ends f σ x σ1) (h2 : Ends (pList f m) σ1 ys σ2) : Ends (pList f (m + 1)) σ (x :: ys) σ2 := by
  have h3 : Ends (fun r => (pList f m r).map fun (xs, r') => (x :: xs, r')) σ1 (x :: ys) σ2 := Ends.map (f := fun xs => x :: xs) h2
  exact Ends.bind (p := f) (q := fun (x : Int) r => (pList f m r).map fun (xs, r') => (x :: xs, r')) h1 h3

theorem Goes.start (f : P Int) (n : Nat) (σ : Option (List Bool)) : Goes f n 0 [] σ σ := fun _ _ h => h

theorem Goes.next {f : P Int} {n k : Nat} {xs : List Int} {x : Int} {σ σ' σ1 : Option (List Bool)} (h : Goes f n k xs σ σ') (hk : k < n) (hx : Ends f σ' x σ1) : Goes f n (k + 1) (xs ++ [x]) σ σ1 := by
  intro ys σ'' hy
  rw [List.append_assoc]
  refine h _ _ ?_
  rw [show n - k = (n - (k + 1)) + 1 by omega]
  exact list_cons_ends hx hy

theorem list_zero_ends (f : P Int) (σ : Option (List Bool)) : Ends (pList f 0) σ [] σ := by
  cases σ with
  | none => rfl
  | some l => exact ⟨rfl, rfl⟩

theorem Goes.ends {f : P Int} {n : Nat} {xs : List Int} {σ σ' : Option (List Bool)} (h : Goes f n n xs σ σ') : Ends (pList f n) σ xs σ' := by
  have := h [] σ' (by rw [Nat.sub_self]; exact list_zero_ends f σ')
  rwa [List.append_nil] at this

/-- the list, as far as it has been filled -/
def fill (n : Nat) (xs : List Int) : List Int := xs ++ List.replicate (n - xs.length) 0

theorem fill_set (n : Nat) (xs : List Int) (x : Int) (h : xs.length < n) : (fill n xs).set xs.length x = fill n (xs ++ [x]) := by
  unfold fill
  obtain ⟨m, hm⟩ : ∃ m, n - xs.length = m + 1 := ⟨n - xs.length - 1, by omega⟩
  rw [List.set_append_right _ _ (Nat.le_refl _), Nat.sub_self, hm, List.replicate_succ, List.set_cons_zero, List.length_append, List.length_singleton, List.append_assoc, show n - (xs.length + 1) = m by omega]
  rfl

theorem fill_full (n : Nat) (xs : List Int) (h : xs.length = n) : fill n xs = xs := by
  unfold fill
  rw [h, Nat.sub_self]
  simp

/-- a row that make made -/
theorem made_row {w' : World} {base g n : Nat} (h : w'.ownsRow base 3 1 (.slice (some ⟨g, 0, none⟩) n n) n (madeCells #[Value.int .i64 0] n).toList) : Row w' base g n n (fill n []) := by
  unfold Row fill
  have e : (madeCells #[Value.int .i64 0] n).toList = List.replicate n (Value.int .i64 0) := toList_madeCells_one _ _
  rw [e] at h
  simpa using h

def QList (w : World) (b : Nat) (s : ByteArray) (σ : Option (List Bool)) (n : Nat) (p : P (List Int)) (lim : List Int → Prop) (e : Ending) (w' : World) : Prop :=
  ∃ (g : Nat) (xs : List Int) (σ' : Option (List Bool)), e = .returned (.slice (some ⟨g, 0, none⟩) n n) ∧ Row w' w.heap.size g n n xs ∧ lim xs ∧ w.grownBy w' (some b) ∧ Sp w' b s σ' ∧ Ends p σ xs σ'

set_option maxHeartbeats 1000000 in
set_option maxRecDepth 20000 in
theorem qlist (w : World) (b : Nat) (s : ByteArray) (n wide : Nat) (σ : Option (List Bool)) (hs : s.size ≤ 6000) (hn : n ≤ 256) (hw : wide ≤ 32) (h : Sp w b s σ) :
    Calls Tryz.prog 86 #[.pointer (some ⟨b, 0, none⟩), .int .i64 n, .int .i64 wide] w (QList w b s σ n (pList (pSigned wide) n) (Signs wide)) := by
  obtain ⟨i0, hi, hz0, hz1, hz2⟩ := info_parts Tryz.info3
  have hblt := h.lt
  go_enter Tryz.func86, Tryz.ntmps86
  go_wp2_with (first
    | (at_make; refine wpList_make_full _ rfl _ _ 22 rfl w.heap.size 3 i0 (.int .i64 0) 1 Tryz.underlying22 hi hz0 hz1 _ _ _ _ n rfl rfl rfl rfl ?m1 ?m2 ?m3 ?_))
  case m1 => rw [hz2]; omega
  case m2 => unfold maxLen; omega
  case m3 => exact Nat.le_refl _
  intro w1 hmade hg1
  have hrow1 := made_row hmade
  have hsp1 := h.kept hg1 (by simp)
  obtain ⟨g, hg⟩ : ∃ g, w.heap.size = g := ⟨_, rfl⟩
  rw [hg] at hrow1
  rw [hg]
  have hgg1 : w.grownBy w1 (some b) := grown_own (grown_refl _ _) hg1 (fun q e => by cases e)
  have hbg : b < g := by omega
  clear hmade hi hz0 hz1 hz2 hg1 h
  go_wp2_with fail
  go_loopw [13] (fun i wr => ∃ (k : Nat) (xs : List Int) (σ' : Option (List Bool)), k ≤ n ∧ i = .int .i64 k ∧ xs.length = k ∧ Row wr g g n n (fill n xs) ∧ Signs wide xs ∧ w.grownBy wr (some b) ∧ Sp wr b s σ' ∧ Goes (pSigned wide) n k xs σ σ')
    (fun i _ => n - (intOf i).toNat)
  case atStart => exact ⟨0, [], σ, Nat.zero_le _, rfl, rfl, hrow1, Signs.nil _, hgg1, hsp1, Goes.start _ _ _⟩
  case round =>
    obtain ⟨k, xs, σ', hk, rfl, hxl, hrow, hsm, hgr, hsp, hgo⟩ := hrel
    have HXL : Hid (xs.length = k) := hxl
    clear hxl hrow1 hsp1 hgg1
    by_cases hlt : k < n
    · go_wp2_with fail
      refine (qsigned _ _ _ _ _ hs hw hsp).mono ?_
      rintro e w2 ⟨v, σ1, rfl, hv, -, hg2, hsp2, hends⟩
      have hrow2 := hrow.kept hg2 (fun e => by injection e with e; omega)
      have hsb := sign_bounds wide v hw hv
      have c1 := hrow2.cell k hlt
      have f1 := hrow2.fz k
      have hst := grown_set w2 g k (.int .i64 (sign wide v))
      have hrow3 := hrow2.stored k (sign wide v)
      rw [show (fill n xs).set k (sign wide v) = fill n (xs ++ [sign wide v]) by rw [← HXL.out]; exact fill_set n xs _ (by rw [HXL.out]; exact hlt)] at hrow3
      have hgg3 : w.grownBy (w2.setCell ⟨g, k, none⟩ (.int .i64 (sign wide v))) (some b) := grown_own (grown_trans hgr hg2) hst (fun q e => by injection e with e; omega)
      have hsp3 := hsp2.kept hst (fun e => by injection e with e; omega)
      have hgo3 := hgo.next hlt hends
      clear hst hrow2 hrow hsp hsp2 hgo hends hg2 hgr
      go_wp2
      go_roundw
      case rel => exact ⟨k + 1, xs ++ [sign wide v], σ1, by omega, by go_num, by rw [List.length_append, List.length_singleton, HXL.out], hrow3, hsm.snoc hv, hgg3, hsp3, hgo3⟩
      case measure => simp [intOf]; omega
    · obtain rfl : k = n := by omega
      rw [fill_full _ _ HXL.out] at hrow
      go_wp2
      go_ret
      exact ⟨g, xs, σ', rfl, by rw [hg]; exact hrow, hsm, hgr, hsp, hgo.ends⟩

set_option maxHeartbeats 400000 in
theorem qunfold (w : World) (u : Nat) (hu : u < 9223372036854775807) :
    Calls Tryz.prog 91 #[.int .i64 u] w fun e w' => e = .returned (.int .i64 (unfold1 u)) ∧ w' = w := by
  by_cases h : u % 2 = 0
  · have t : (((u : Int) % 2) == 0) = true := by simp; omega
    have hu1 : unfold1 u = (u : Int) / 2 := by unfold unfold1; rw [if_pos h]
    rw [hu1]
    clear h hu1
    go_enter Tryz.func91, Tryz.ntmps91
    go_wp2
    go_ret
    exact ⟨rfl, rfl⟩
  · have t : (((u : Int) % 2) == 0) = false := by simp; omega
    have hu1 : unfold1 u = -(((u : Int) + 1) / 2) := by unfold unfold1; rw [if_neg h]
    rw [hu1]
    have hdiv : (-((u : Int) + 1)).tdiv 2 = -(((u : Int) + 1) / 2) := by
      rw [Int.neg_tdiv, Int.tdiv_eq_ediv_of_nonneg (by omega)]
    clear hu1
    go_enter Tryz.func91, Tryz.ntmps91
    go_wp2
    go_ret
    exact ⟨by first | rfl | exact ret_int (by omega), rfl⟩

set_option maxHeartbeats 400000 in
theorem qkbits (w : World) (m : Nat) (hm : m < 4) :
    Calls Tryz.prog 72 #[.int .i64 m] w fun e w' => e = .returned (.int .i64 ((4 + m : Nat) : Int)) ∧ w' = w := by
  go_enter Tryz.func72, Tryz.ntmps72
  go_wp2
  go_ret
  exact ⟨by first | rfl | exact ret_int (by omega), rfl⟩
end Go.Proofs.YtncmgnmcggkhnaaGreat
