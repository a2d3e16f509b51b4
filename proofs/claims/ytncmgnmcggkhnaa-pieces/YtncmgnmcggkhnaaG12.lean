import Derived.Test.YtncmgnmcggkhnaaG11
import Derived.Lib.AppendZerosOnto
import Derived.Lib.AppendZeros
import Derived.Test.YtncmgnmcggkhnaaG07
import Derived.Laws.CopyOwn
namespace Go.Proofs.Ytncmgnmcggkhnaa
open Go.RowKit

/-- the cells of a list, as an append reads them -/
def Srcs (w : World) (g : Nat) (xs : List Int) : Prop := ∀ i, i < xs.length → w.cell? ⟨g, i, none⟩ = some (.int .i64 (xs.getD i 0))

theorem Row.srcs {w : World} {base g n cap : Nat} {xs : List Int} (h : Row w base g n cap xs) : Srcs w g xs := fun i hi => h.cell i (by rw [← h.len]; exact hi)

theorem addr_add (g j : Nat) : (⟨g, 0, none⟩ : Addr).add j = ⟨g, j, none⟩ := by
  unfold Addr.add
  split
  · rename_i e; rw [e]
  · simp

theorem Srcs.news {w : World} {g : Nat} {ys : List Int} (h : Srcs w g ys) : ∀ j u, (ys.map (Value.int .i64))[j]? = some u → w.cell? ((⟨g, 0, none⟩ : Addr).add j) = some u := by
  intro j u hj
  have hjn : j < ys.length := by
    rcases Nat.lt_or_ge j ys.length with h1 | h1
    · exact h1
    · rw [List.getElem?_eq_none (by simpa using h1)] at hj; cases hj
  have e9 : ys[j]? = some (ys[j]'hjn) := List.getElem?_eq_getElem hjn
  rw [addr_add, h j hjn, ← hj, List.getElem?_map, List.getD, e9]
  rfl

theorem Srcs.kept {w w' : World} {g : Nat} {xs : List Int} {row : Option Nat} (h : Srcs w g xs) (hg : w.grownBy w' row) (hne : some g ≠ row) : Srcs w' g xs := fun i hi => hg.cell (h i hi) hne

theorem ints_one (ys : List Int) : ∀ u ∈ ys.map (Value.int .i64), u.oneCell' = true := by
  intro u hu
  obtain ⟨x, _, rfl⟩ := List.mem_map.1 hu
  rfl

theorem own_empty (w : World) (base : Nat) (hb : base ≤ w.heap.size) : Own (w.alloc (.cells #[] 3)) base (.slice (some ⟨w.heap.size, 0, none⟩) 0 0) [] := by
  refine ⟨rfl, .inr ⟨w.heap.size, 0, #[], rfl, hb, ?_, Nat.le_refl _, Nat.zero_le _, rfl, rfl⟩⟩
  show (w.heap.push _)[w.heap.size]? = _
  simp

theorem not_nil (a : Addr) (n c : Nat) (w : World) : (binOp .eql 30 (.slice (some a) n c) (.slice none 0 0)).run Try.prog w = .ok (.bool false) w := by kernel_rfl

set_option maxHeartbeats 1000000 in
set_option maxRecDepth 20000 in
theorem qclone (w : World) (g n cap : Nat) (xs : List Int) (hl : xs.length = n) (hn : n ≤ 4096) (h : Srcs w g xs) :
    Calls Try.prog 160 #[.slice (some ⟨g, 0, none⟩) n cap] w fun e w' => ∃ g' cap', e = .returned (.slice (some ⟨g', 0, none⟩) n cap') ∧ Row w' w.heap.size g' n cap' xs ∧ w.grownBy w' none := by
  obtain ⟨i0, hi, hz0, hz1, hz2⟩ := info_parts Try.info3
  have hga : w.grownBy (w.alloc (.cells #[] 3)) none := grown_alloc (grown_refl _ _) _
  have hs1 := h.kept hga (by simp)
  have HOWN : Hid (Own (w.alloc (.cells #[] 3)) w.heap.size (.slice (some ⟨w.heap.size, 0, none⟩) 0 0) []) := own_empty w _ (Nat.le_refl _)
  have HNEWS : Hid (∀ j u, (xs.map (Value.int .i64))[j]? = some u → (w.alloc (.cells #[] 3)).cell? ((⟨g, 0, none⟩ : Addr).add j) = some u) := hs1.news
  have HLN : Hid ((xs.map (Value.int .i64)).length = n * 1) := by show _ = _; rw [List.length_map, hl]; omega
  have hnn := not_nil ⟨g, 0, none⟩ n cap
  go_enter Try.func160, Try.ntmps160
  go_wp2_with (first
    | (at_builtin; refine wpList_append_own _ rfl _ _ 30 rfl w.heap.size 3 i0 (.int .i64 0) 1 8 Try.underlying30 hi hz0 hz1 hz2 rfl (by decide) (.slice (some ⟨w.heap.size, 0, none⟩) 0 0) 0 [] rfl HOWN.out ⟨g, 0, none⟩ n cap (xs.map (Value.int .i64)) rfl HLN.out HNEWS.out (ints_one xs) ?c3 ?c4 ?c5 ?_))
  case c3 => unfold maxLen; omega
  case c4 => omega
  case c5 => simp
  intro v' w2 hown' hgrow hnl
  have hown2 : Own w2 w.heap.size v' xs := by
    unfold Own
    rw [hl]
    simpa using hown'
  have hgg : w.grownBy w2 none := grown_new hga hgrow (fun q e => Nat.le_of_eq (by simpa [Value.ownBlock] using e))
  rcases hown2.row with ⟨e1, _⟩ | ⟨g', cap', rfl, hrow⟩
  · exact absurd e1 hnl
  rw [hl] at hrow ⊢
  clear hown' hgrow hnl hown2
  go_wp2
  go_ret
  exact ⟨g', cap', rfl, hrow, hgg⟩

theorem Row.block {w : World} {base g n cap : Nat} {xs : List Int} (h : Row w base g n cap xs) : ∃ cur : Array Value, base ≤ g ∧ w.heap[g]? = some (.cells cur 3 (0, 0)) ∧ n ≤ cap ∧ cap ≤ maxLen ∧ cur.size = cap ∧ cur.toList.take n = xs.map (Value.int .i64) := by
  rcases h.2 with ⟨h', _⟩ | ⟨g', cap', cur, h', hb, hg, hnc, hcm, hcs, htake⟩
  · simp at h'
  · simp only [Value.slice.injEq, Option.some.injEq, Addr.mk.injEq, and_true, true_and] at h'
    obtain ⟨rfl, rfl⟩ := h'
    exact ⟨cur, hb, hg, hnc, hcm, by simpa using hcs, by simpa using htake⟩

set_option maxHeartbeats 1000000 in
set_option maxRecDepth 20000 in
theorem qgrow (w : World) (base g l c k : Nat) (xs : List Int) (hb : base ≤ w.heap.size) (hk : l + k ≤ 4096) (h : Row w base g l c xs) :
    Calls Try.prog 163 #[.slice (some ⟨g, 0, none⟩) l c, .int .i64 k] w fun e w' => ∃ g' c', e = .returned (.slice (some ⟨g', 0, none⟩) l c') ∧ Row w' base g' l c' xs ∧ w.grownBy w' none := by
  obtain ⟨i0, hi, hz0, hz1, hz2⟩ := info_parts Try.info3
  obtain ⟨cur, hbg, hblk, hlc, hcm, hcs, htake⟩ := h.block
  have hc63 : c ≤ 9223372036854775807 := hcm
  by_cases hroom : l + k ≤ c
  · have t0 : decide ((0 : Int) < (k : Int) - ((c : Int) - (l : Int))) = false := decide_eq_false (by omega)
    clear hi hz0 hz1 hz2 hblk htake hcs
    go_enter Try.func163, Try.ntmps163
    go_wp2
    go_ret
    exact ⟨g, c, rfl, h, grown_refl _ _⟩
  · have t0 : decide ((0 : Int) < (k : Int) - ((c : Int) - (l : Int))) = true := decide_eq_true (by omega)
    have hold : (Builtin.firstCells i0.size c (.slice (some ⟨g, 0, none⟩) c c)).run Try.prog w.drew = .ok cur.toList.toArray w.drew :=
      run_firstCells_some w.drew i0.size c ⟨g, 0, none⟩ c c cur.toList (by rw [hz1]; simp [hcs]) (fun j v hj => by
        rw [addr_add]
        show w.cell? _ = _
        simp only [World.cell?, hblk]
        simpa using hj)
    have hk0 : (k : Int) - ((c : Int) - (l : Int)) = ((l + k - c : Nat) : Int) := by omega
    obtain ⟨G, z2, HRZ, hGn, hG63, hz2s⟩ : ∃ (G : Nat) (zs : Array Value), Hid (∀ ty, (Builtin.append_ #[30, 3] ty #[.slice (some ⟨g, 0, none⟩) c c, .int .i64 ((k : Int) - ((c : Int) - (l : Int)))]).run Try.prog w = .ok (.slice (some ⟨w.heap.size, 0, none⟩) (l + k) G) (w.drew.alloc (.cells (cur ++ zs) 3))) ∧ l + k ≤ G ∧ G ≤ maxLen ∧ (cur ++ zs).size = G := by
      have hlk : c + (l + k - c) = l + k := by omega
      have hGn := grownCap_ge w (l + k) c 3
      have hG63 := grownCap_le_maxLen w (l + k) c 3 (by unfold maxLen; omega)
      refine ⟨grownCap w (l + k) c 3, Builtin.zeroCells (Value.int .i64 0).cells (l + k - c) ++ Builtin.zeroCells (Value.int .i64 0).cells (grownCap w (l + k) c 3 - (l + k)), ?_, hGn, hG63, ?_⟩
      · intro ty
        have hrz := Lib.run_append_grow_zeros (P := Try.prog) w 30 3 ty 3 i0 (.int .i64 0) .i64 .i64 Try.underlying30 Try.underlying3 hi hz0 (some ⟨g, 0, none⟩) c c cur.toList hold (l + k - c) (by omega) (by omega) (by omega) (by omega) (by rw [hz2]; omega)
          (by rw [hz2]; exact growslice_fits (by omega) (by omega))
        rw [hlk] at hrz
        rw [hk0, hrz]
        simp [Array.append_assoc]
      · have e1 : ∀ m, (Builtin.zeroCells (Value.int .i64 0).cells m).size = m := fun m => by simp [Builtin.zeroCells, Value.cells]
        rw [Array.size_append, Array.size_append, e1, e1, hcs]
        omega
    clear hold hi hz0 hz1 hz2 hk0
    have hlen : (l : Int) ≤ (G : Int) := by omega
    go_enter Try.func163, Try.ntmps163
    go_wp2_with (at_builtin; refine Lib.wpList_append_run _ rfl _ _ _ _ rfl _ _ rfl rfl _ _ (HRZ.out _) ?_)
    all_goals go_ret
    refine ⟨w.heap.size, G, rfl, ⟨by rw [List.length_map, h.len]; omega, .inr ⟨w.heap.size, G, cur ++ z2, rfl, hb, ?_, by omega, hG63, by omega, ?_⟩⟩, grown_alloc (grown_drew (grown_refl _ _)) _⟩
    · show (w.heap.push _)[w.heap.size]? = _
      simp
    · rw [Array.toList_append, List.take_append_of_le_length (by simp; omega), Nat.mul_one, htake]
end Go.Proofs.Ytncmgnmcggkhnaa

namespace Go.Proofs.Ytncmgnmcggkhnaa
open Go.RowKit

/-- a list of ints that can be read, wherever in its block it begins -/
def Lo (w : World) (v : Value) (xs : List Int) : Prop :=
  (v = .slice none 0 0 ∧ xs = []) ∨ ∃ b off cap, v = .slice (some ⟨b, off, none⟩) xs.length cap ∧ ∀ i, i < xs.length → w.cell? ⟨b, off + i, none⟩ = some (.int .i64 (xs.getD i 0))

theorem Ls.lo {w : World} {v : Value} {xs : List Int} (h : Ls w v xs) : Lo w v xs := by
  rcases h with h | ⟨g, cap, hv, hc⟩
  · exact .inl h
  · exact .inr ⟨g, 0, cap, hv, fun i hi => by rw [Nat.zero_add]; exact hc i hi⟩

theorem Row.lo {w : World} {base g n cap : Nat} {xs : List Int} (h : Row w base g n cap xs) : Lo w (.slice (some ⟨g, 0, none⟩) n cap) xs := by
  have hl := h.len
  exact .inr ⟨g, 0, cap, by rw [hl], fun i hi => by rw [Nat.zero_add]; exact h.cell i (by omega)⟩

theorem Own.lo {w : World} {base : Nat} {v : Value} {xs : List Int} (h : Own w base v xs) : Lo w v xs := h.ls.lo

theorem fits_int (wide : Nat) (x : Int) : fitsB wide x = (decide (x ≤ 2 ^ (wide - 1) - 1) && decide (-(2 ^ (wide - 1) - 1) - 1 ≤ x)) := by
  unfold fitsB
  have e : ((2 ^ (wide - 1) : Nat) : Int) = (2 : Int) ^ (wide - 1) := by simp
  rw [e, Bool.eq_iff_iff]
  simp
  omega

set_option maxHeartbeats 1000000 in
set_option maxRecDepth 20000 in
theorem qfit (w : World) (v : Value) (xs : List Int) (wide : Nat) (hw : 1 ≤ wide) (hw2 : wide ≤ 20) (hx : xs.length ≤ 17592186044416) (h : Lo w v xs) :
    Calls Try.prog 70 #[v, .int .i64 wide] w fun e w' => e = .returned (.bool (xs.all (fitsB wide))) ∧ w' = w := by
  have hp := ipow (wide - 1) (by omega)
  have hp2 : (2 : Int) ^ (wide - 1) ≤ 524288 := by
    have : 2 ^ (wide - 1) ≤ 2 ^ 19 := Nat.pow_le_pow_right (by omega) (by omega)
    rw [show (2 : Int) ^ (wide - 1) = ((2 ^ (wide - 1) : Nat) : Int) by simp]
    omega
  have hfit := fits_int wide
  obtain ⟨M, hM⟩ : ∃ M : Int, (2 : Int) ^ (wide - 1) = M := ⟨_, rfl⟩
  rw [hM] at hp hp2 hfit
  have hwn : ((wide : Int) - 1).toNat = wide - 1 := by omega
  have HFIT : Hid (∀ x, fitsB wide x = (decide (x ≤ M - 1) && decide (-(M - 1) - 1 ≤ x))) := hfit
  clear hfit
  have hlen : ∃ a c, v = .slice a xs.length c := by
    rcases h with ⟨rfl, rfl⟩ | ⟨b, off, cap, rfl, _⟩
    · exact ⟨none, 0, rfl⟩
    · exact ⟨_, cap, rfl⟩
  obtain ⟨a, c, rfl⟩ := hlen
  obtain ⟨res, hres⟩ : ∃ res, xs.all (fitsB wide) = res := ⟨_, rfl⟩
  have HRES : Hid (xs.all (fitsB wide) = res) := hres
  rw [hres]
  clear hres
  go_enter Try.func70, Try.ntmps70
  go_wp2_with fail
  go_loop [14] (fun i => ∃ k : Nat, k ≤ xs.length ∧ i = .int .i64 k ∧ (xs.take k).all (fitsB wide) = true) (fun i => xs.length - (intOf i).toNat)
  case atStart => exact ⟨0, Nat.zero_le _, rfl, rfl⟩
  case round =>
    obtain ⟨k, hk, rfl, hall⟩ := hrel
    have HALL : Hid ((xs.take k).all (fitsB wide) = true) := hall
    clear hall
    by_cases hlt : k < xs.length
    · have hcell : ∃ b off, a = some ⟨b, off, none⟩ ∧ w.cell? ⟨b, off + k, none⟩ = some (.int .i64 (xs.getD k 0)) := by
        rcases h with ⟨_, e⟩ | ⟨b, off, cap, e, hc⟩
        · rw [e] at hlt; simp at hlt
        · injection e with e1 _ _
          exact ⟨b, off, e1, hc k hlt⟩
      obtain ⟨b, off, rfl, hc⟩ := hcell
      obtain ⟨x, hxk⟩ : ∃ x, xs.getD k 0 = x := ⟨_, rfl⟩
      rw [hxk] at hc
      have hstep : (xs.take (k + 1)).all (fitsB wide) = ((xs.take k).all (fitsB wide) && fitsB wide x) := by
        rw [List.take_succ_eq_append_getElem hlt, List.all_append]
        have : xs[k] = x := by rw [← hxk]; simp [List.getD, hlt]
        rw [this]
        simp
      have HSTEP : Hid ((xs.take (k + 1)).all (fitsB wide) = ((xs.take k).all (fitsB wide) && fitsB wide x)) := hstep
      clear hstep hxk h
      by_cases h1 : x ≤ M - 1
      · by_cases h2 : -(M - 1) - 1 ≤ x
        · have d1 : decide (M - 1 < x) = false := decide_eq_false (by omega)
          have d2 : decide (x < -(M - 1) - 1) = false := decide_eq_false (by omega)
          have hf : fitsB wide x = true := by rw [HFIT.out]; simp; omega
          go_wp2
          go_round
          case rel => exact ⟨k + 1, by omega, by go_num, by rw [HSTEP.out, HALL.out, hf]; rfl⟩
          case measure => simp [intOf]; omega
        · have d1 : decide (M - 1 < x) = false := decide_eq_false (by omega)
          have d2 : decide (x < -(M - 1) - 1) = true := decide_eq_true (by omega)
          have hf : fitsB wide x = false := by rw [HFIT.out]; simp; omega
          have hno : xs.all (fitsB wide) = false := by
            rw [← List.take_append_drop (k + 1) xs, List.all_append, HSTEP.out, hf]; simp
          rw [HRES.out] at hno
          subst hno
          go_wp2
          go_ret
          exact ⟨rfl, rfl⟩
      · have d1 : decide (M - 1 < x) = true := decide_eq_true (by omega)
        have hf : fitsB wide x = false := by rw [HFIT.out]; simp; omega
        have hno : xs.all (fitsB wide) = false := by
          rw [← List.take_append_drop (k + 1) xs, List.all_append, HSTEP.out, hf]; simp
        rw [HRES.out] at hno
        subst hno
        go_wp2
        go_ret
        exact ⟨rfl, rfl⟩
    · have hke : k = xs.length := by omega
      have hall : xs.all (fitsB wide) = true := by
        have := HALL.out
        rw [hke, List.take_length] at this
        exact this
      rw [HRES.out] at hall
      subst hall
      have tk : decide ((k : Int) < (xs.length : Int)) = false := decide_eq_false (by omega)
      clear hke
      go_wp2
      go_ret
      exact ⟨rfl, rfl⟩
end Go.Proofs.Ytncmgnmcggkhnaa

namespace Go.Proofs.Ytncmgnmcggkhnaa
open Go.RowKit

theorem Lo.slice {w : World} {v : Value} {xs : List Int} (h : Lo w v xs) : ∃ a c, v = .slice a xs.length c := by
  rcases h with ⟨rfl, rfl⟩ | ⟨b, off, cap, rfl, _⟩
  · exact ⟨none, 0, rfl⟩
  · exact ⟨_, cap, rfl⟩

theorem Lo.at {w : World} {a : Option Addr} {n c : Nat} {xs : List Int} (h : Lo w (.slice a n c) xs) (k : Nat) (hk : k < xs.length) : ∃ b off, a = some ⟨b, off, none⟩ ∧ w.cell? ⟨b, off + k, none⟩ = some (.int .i64 (xs.getD k 0)) := by
  rcases h with ⟨_, e⟩ | ⟨b, off, cap, e, hc⟩
  · rw [e] at hk; simp at hk
  · injection e with e1 _ _
    exact ⟨b, off, e1, hc k hk⟩

def TellPost (w : World) (ys fs : List Int) (shift : Nat) (e : Ending) (w' : World) : Prop :=
  ∃ x, e = .returned (.int .i64 x) ∧ w' = w ∧ (Abs 65536 ys → Abs 32768 fs → fs.length ≤ 8 → x = dot fs ys.reverse / 2 ^ shift)

set_option maxHeartbeats 1000000 in
set_option maxRecDepth 20000 in
theorem qtell (w : World) (va vf : Value) (ys fs : List Int) (shift : Nat) (hs : shift ≤ 31) (hle : fs.length ≤ ys.length) (hal : ys.length ≤ 1099511627776) (ha : Lo w va ys) (hf : Lo w vf fs) :
    Calls Try.prog 129 #[va, vf, .int .i64 shift] w (TellPost w ys fs shift) := by
  obtain ⟨aa, ca, rfl⟩ := ha.slice
  obtain ⟨af, cf, rfl⟩ := hf.slice
  go_enter Try.func129, Try.ntmps129
  go_wp2_with fail
  go_loop [7, 12] (fun z i => ∃ (k : Nat) (x : Int), k ≤ fs.length ∧ i = .int .i64 k ∧ z = .int .i64 x ∧ Hid (Abs 65536 ys → Abs 32768 fs → fs.length ≤ 8 → x = dot (fs.take k) ys.reverse ∧ -(2147483648 * (k : Int)) ≤ x ∧ x ≤ 2147483648 * (k : Int))) (fun _ i => fs.length - (intOf i).toNat)
  case atStart => exact ⟨0, 0, Nat.zero_le _, rfl, rfl, fun _ _ _ => ⟨by rw [dot_take_zero], by omega, by omega⟩⟩
  case round =>
    obtain ⟨k, x, hk, rfl, rfl, HX⟩ := hrel
    by_cases hlt : k < fs.length
    · obtain ⟨bf, of, rfl, hcf⟩ := hf.at k hlt
      obtain ⟨ba, oa, rfl, hca⟩ := ha.at (ys.length - 1 - k) (by omega)
      obtain ⟨f, hfk⟩ : ∃ f, fs.getD k 0 = f := ⟨_, rfl⟩
      obtain ⟨y, hyk⟩ : ∃ y, ys.getD (ys.length - 1 - k) 0 = y := ⟨_, rfl⟩
      have HFK : Hid (fs.getD k 0 = f) := hfk
      have HYK : Hid (ys.getD (ys.length - 1 - k) 0 = y) := hyk
      rw [hfk] at hcf
      rw [hyk] at hca
      have hidx : ((ys.length : Int) - 1 - (k : Int)) = ((ys.length - 1 - k : Nat) : Int) := by omega
      obtain ⟨j, hj⟩ : ∃ j, ys.length - 1 - k = j := ⟨_, rfl⟩
      rw [hj] at hca hidx
      have hjl : j < ys.length := by omega
      clear hfk hyk hj
      have hnext : Abs 65536 ys → Abs 32768 fs → fs.length ≤ 8 → wrap64 (x + wrap64 (f * y)) = dot (fs.take (k + 1)) ys.reverse ∧ -(2147483648 * ((k + 1 : Nat) : Int)) ≤ wrap64 (x + wrap64 (f * y)) ∧ wrap64 (x + wrap64 (f * y)) ≤ 2147483648 * ((k + 1 : Nat) : Int) := by
        intro h1 h2 h3
        obtain ⟨e1, e2, e3⟩ := HX.out h1 h2 h3
        have b1 := h2.get (by omega) k
        have b2 := h1.get (by omega) (ys.length - 1 - k)
        rw [HFK.out] at b1
        rw [HYK.out] at b2
        have b3 := mul_bound f y b1 b2
        have w1 : wrap64 (f * y) = f * y := IntWalk.wrap64_in _ ⟨by omega, by omega⟩
        have w2 : wrap64 (x + f * y) = x + f * y := IntWalk.wrap64_in _ ⟨by omega, by omega⟩
        rw [w1, w2]
        refine ⟨?_, by omega, by omega⟩
        rw [dot_take_succ fs ys.reverse k hlt (by rw [List.length_reverse]; omega), ← e1, rev_get ys k (by omega), HYK.out]
        congr 2
        rw [← HFK.out]
        simp [List.getD, hlt]
      have HNEXT : Hid _ := hnext
      clear hnext HX
      go_wp2
      exact ⟨⟨k + 1, _, by omega, by go_num, rfl, HNEXT.out⟩, by simp [intOf]; omega⟩
    · have tk : decide ((k : Int) < (fs.length : Int)) = false := decide_eq_false (by omega)
      have hke : k = fs.length := by omega
      have hx : Hid (Abs 65536 ys → Abs 32768 fs → fs.length ≤ 8 → x / 2 ^ shift = dot fs ys.reverse / 2 ^ shift) := by
        intro h1 h2 h3
        rw [(HX.out h1 h2 h3).1, hke, List.take_length]
      clear hke HX
      go_wp2
      go_ret
      exact ⟨_, rfl, rfl, hx.out⟩
end Go.Proofs.Ytncmgnmcggkhnaa

namespace Go.Proofs.Ytncmgnmcggkhnaa
open Go.RowKit

theorem Lo.kept {w w' : World} {v : Value} {xs : List Int} (h : Lo w v xs) (hg : w.grownBy w' none) : Lo w' v xs := by
  rcases h with h | ⟨b, off, cap, hv, hc⟩
  · exact .inl h
  · exact .inr ⟨b, off, cap, hv, fun i hi => hg.cell (hc i hi) (by simp)⟩

/-- as far as it has been worked out -/
def Told (first res fs : List Int) (shift k : Nat) (xs : List Int) : Prop :=
  ∀ wide, wide ≤ 17 → (∀ x ∈ first, fitsB wide x = true) → Abs 32768 fs → fs.length ≤ 8 →
    ((∀ x ∈ xs, fitsB wide x = true) ∧ predict wide fs shift first.reverse res = predict wide fs shift xs.reverse (res.drop k)) ∨
    ((∃ x ∈ xs, fitsB wide x = false) ∧ predict wide fs shift first.reverse res = none)

theorem Told.start (first res fs : List Int) (shift : Nat) : Told first res fs shift 0 first := fun _ _ h _ _ => .inl ⟨h, rfl⟩

theorem Told.next {first res fs xs : List Int} {shift k : Nat} {x v : Int} (h : Told first res fs shift k xs) (hk : k < res.length) (hv : res.getD k 0 = v) (hb : -2147483648 ≤ v ∧ v ≤ 2147483648)
    (hx : Abs 65536 xs → Abs 32768 fs → fs.length ≤ 8 → x = dot fs xs.reverse / 2 ^ shift) (hd : Abs 65536 xs → Abs 32768 fs → fs.length ≤ 8 → -34359738368 ≤ dot fs xs.reverse / 2 ^ shift ∧ dot fs xs.reverse / 2 ^ shift ≤ 34359738368) :
    Told first res fs shift (k + 1) (xs ++ [wrap64 (x + v)]) := by
  intro wide hw hf ha hl
  rcases h wide hw hf ha hl with ⟨hall, hp⟩ | ⟨⟨y, hy, hno⟩, hp⟩
  · have habs : Abs 65536 xs := fun y hy => fits_abs wide hw y (hall y hy)
    have e1 := hx habs ha hl
    have b1 := hd habs ha hl
    have e2 : wrap64 (x + v) = dot fs xs.reverse / 2 ^ shift + res.getD k 0 := by
      rw [e1, hv]
      exact IntWalk.wrap64_in _ ⟨by omega, by omega⟩
    have hstep := predict_step wide fs shift xs res k hk (wrap64 (x + v)) e2
    rw [hp, hstep]
    cases hfit : fitsB wide (wrap64 (x + v)) with
    | true =>
      refine .inl ⟨fun y hy => ?_, by simp⟩
      rcases List.mem_append.1 hy with hy | hy
      · exact hall y hy
      · rw [List.mem_singleton.1 hy]; exact hfit
    | false => exact .inr ⟨⟨_, List.mem_append_right _ (List.mem_singleton.2 rfl), hfit⟩, by simp⟩
  · exact .inr ⟨⟨y, List.mem_append_left _ hy, hno⟩, hp⟩

theorem Told.all {first res fs xs : List Int} {shift : Nat} (h : Told first res fs shift res.length xs) (wide : Nat) (hw : wide ≤ 17) (hf : ∀ x ∈ first, fitsB wide x = true) (ha : Abs 32768 fs) (hl : fs.length ≤ 8) :
    predict wide fs shift first.reverse res = if xs.all (fitsB wide) = true then some xs else none := by
  rcases h wide hw hf ha hl with ⟨hall, hp⟩ | ⟨⟨y, hy, hno⟩, hp⟩
  · rw [if_pos (List.all_eq_true.2 hall), hp, List.drop_length, predict_end]
  · rw [if_neg (fun e => by have := List.all_eq_true.1 e y hy; rw [hno] at this; cases this), hp]

theorem dot_bound (fs : List Int) (hf : Abs 32768 fs) : ∀ (bs : List Int), Abs 65536 bs → -(2147483648 * (fs.length : Int)) ≤ dot fs bs ∧ dot fs bs ≤ 2147483648 * (fs.length : Int) := by
  induction fs with
  | nil => intro bs _; simp [dot]
  | cons f fs ih =>
    intro bs hb
    cases bs with
    | nil => simp [dot]; omega
    | cons b bs =>
      have h1 := ih (fun x hx => hf x (List.mem_cons_of_mem _ hx)) bs (fun x hx => hb x (List.mem_cons_of_mem _ hx))
      have h2 := mul_bound f b (hf f (List.mem_cons_self ..)) (hb b (List.mem_cons_self ..))
      show _ ≤ f * b + dot fs bs ∧ f * b + dot fs bs ≤ _
      rw [List.length_cons]
      omega

theorem dot_div_bound (fs xs : List Int) (shift : Nat) (h1 : Abs 65536 xs) (h2 : Abs 32768 fs) (h3 : fs.length ≤ 8) : -34359738368 ≤ dot fs xs.reverse / 2 ^ shift ∧ dot fs xs.reverse / 2 ^ shift ≤ 34359738368 := by
  have hb := dot_bound fs h2 xs.reverse (fun x hx => h1 x (List.mem_reverse.1 hx))
  exact div_bound _ shift (by omega) (by omega)

def ForePost (w : World) (first res fs : List Int) (shift : Nat) (e : Ending) (w' : World) : Prop :=
  ∃ (v : Value) (xs : List Int), e = .returned v ∧ Own w' w.heap.size v xs ∧ w.grownBy w' none ∧ xs.length = first.length + res.length ∧ Told first res fs shift res.length xs

set_option maxHeartbeats 1000000 in
set_option maxRecDepth 20000 in
theorem qtold (w : World) (gf nf capf : Nat) (vr vf : Value) (first res fs : List Int) (shift : Nat) (hs : shift ≤ 31) (hnf : first.length = nf) (hle : fs.length ≤ first.length) (hfl : first.length ≤ 256) (hrl : res.length ≤ 256) (hab : Abs 2147483648 res)
    (hfirst : Srcs w gf first) (hres : Lo w vr res) (hfs : Lo w vf fs) :
    Calls Try.prog 162 #[.slice (some ⟨gf, 0, none⟩) nf capf, vr, vf, .int .i64 shift] w (ForePost w first res fs shift) := by
  obtain ⟨i0, hi, hz0, hz1, hz2⟩ := info_parts Try.info3
  obtain ⟨ar, cr, rfl⟩ := hres.slice
  go_enter Try.func162, Try.ntmps162
  go_wp2_with fail
  refine (qclone w gf nf capf first hnf (by omega) hfirst).mono ?_
  rintro e w1 ⟨g1, c1, rfl, hrow1, hg1⟩
  go_wp2_with fail
  refine (qgrow w1 w.heap.size g1 nf c1 res.length first hg1.size (by omega) hrow1).mono ?_
  rintro e w2 ⟨g2, c2, rfl, hrow2, hg2⟩
  have hgg2 := grown_trans hg1 hg2
  have hown2 : Own w2 w.heap.size (.slice (some ⟨g2, 0, none⟩) nf c2) first := hrow2.own
  clear hrow1 hg1 hg2 hrow2 hnf
  go_wp2_with fail
  go_loopw [9, 19] (fun v i wr => ∃ (k : Nat) (xs : List Int), k ≤ res.length ∧ i = .int .i64 k ∧ Own wr w.heap.size v xs ∧ xs.length = first.length + k ∧ w.grownBy wr none ∧ Told first res fs shift k xs)
    (fun _ i _ => res.length - (intOf i).toNat)
  case atStart => exact ⟨0, first, Nat.zero_le _, rfl, hown2, rfl, hgg2, Told.start _ _ _ _⟩
  case round =>
    obtain ⟨k, xs, hk, rfl, hown, hxl, hgr, htold⟩ := hrel
    have HXL : Hid (xs.length = first.length + k) := hxl
    have hxl2 : xs.length ≤ 512 := by omega
    have hxl3 : fs.length ≤ xs.length := by omega
    clear hxl hown2 hgg2
    by_cases hlt : k < res.length
    · have hres2 := hres.kept hgr
      have hfs2 := hfs.kept hgr
      obtain ⟨br, ofr, rfl, hcr⟩ := hres2.at k hlt
      obtain ⟨rv, hrv⟩ : ∃ rv, res.getD k 0 = rv := ⟨_, rfl⟩
      have HRV : Hid (res.getD k 0 = rv) := hrv
      have hrb := hab.get (by omega) k
      rw [hrv] at hcr hrb
      clear hrv
      obtain ⟨a9, c9, rfl⟩ := own_slice hown
      go_wp2_with fail
      refine (qtell wr _ vf xs fs shift hs hxl3 (by omega) hown.lo hfs2).mono ?_
      rintro e w3 ⟨x, rfl, rfl, hx⟩
      have htold3 := htold.next hlt HRV.out hrb hx (dot_div_bound fs xs shift)
      have HX : Hid _ := hx
      clear hx
      go_wp2_with (first
        | (at_builtin; refine wpList_append_own _ rfl _ _ 30 rfl w.heap.size 3 i0 (.int .i64 0) 1 8 Try.underlying30 hi hz0 hz1 hz2 rfl (by decide) _ _ _ rfl (hown.alloc _) ⟨w3.heap.size, 0, none⟩ 1 1 [.int .i64 (wrap64 (x + rv))] rfl rfl ?c1 ?c2 ?c3 ?c4 ?c5 ?_))
      case c1 => exact one_new _ _ _
      case c2 => exact one_cell _
      case c3 => unfold maxLen; omega
      case c4 => omega
      case c5 => have := hgr.size; simp; omega
      intro v' w4 hown' hgrow _
      have hown4 := hown.step hown'
      have hgrow2 := grown_from_alloc hgrow (fun g hg' => (hown.lt g hg').2)
      have hgr4 : w.grownBy w4 none := grown_new hgr hgrow2 (fun g hg' => (hown.lt g hg').1)
      clear hown' hgrow hgrow2 hown htold HX
      go_wp2
      go_roundw
      case rel => exact ⟨k + 1, xs ++ [wrap64 (x + rv)], by omega, by go_num, hown4, by rw [List.length_append, List.length_singleton, HXL.out]; omega, hgr4, htold3⟩
      case measure => simp [intOf]; omega
    · have hke : k = res.length := by omega
      have tk : decide ((k : Int) < (res.length : Int)) = false := decide_eq_false (by omega)
      have hfin : Told first res fs shift res.length xs := hke ▸ htold
      have hlen : xs.length = first.length + res.length := by rw [HXL.out, hke]
      have HLEN : Hid (xs.length = first.length + res.length) := hlen
      clear hke htold hlen
      go_wp2
      go_ret
      exact ⟨_, xs, rfl, hown, hgr, HLEN.out, hfin⟩
end Go.Proofs.Ytncmgnmcggkhnaa

namespace Go.Proofs.Ytncmgnmcggkhnaa
open Go.RowKit

theorem lo_new (w : World) (xs : List Int) (vs : Array Value) (hv : vs.toList = xs.map (Value.int .i64)) (cap : Nat) :
    Lo (w.alloc (.cells vs 3)) (.slice (some ⟨w.heap.size, 0, none⟩) xs.length cap) xs := by
  refine .inr ⟨w.heap.size, 0, cap, rfl, fun i hi => ?_⟩
  have hb := Box.new w vs 3
  rw [Nat.zero_add, hb.cell i, ← Array.getElem?_toList, hv, List.getElem?_map, List.getElem?_eq_getElem hi]
  simp [List.getD, hi]

def LoPost (w : World) (xs : List Int) (e : Ending) (w' : World) : Prop := ∃ v, e = .returned v ∧ Lo w' v xs ∧ w.grownBy w' none

set_option maxHeartbeats 1000000 in
theorem qfactors (w : World) (o : Nat) (ho : o ≤ 4) :
    Calls Try.prog 128 #[.int .i64 o] w (LoPost w (fixedFactors o)) := by
  have hg : ∀ vs, w.grownBy (w.alloc (.cells vs 3)) none := fun vs => grown_alloc (grown_refl _ _) _
  rcases (show o = 0 ∨ o = 1 ∨ o = 2 ∨ o = 3 ∨ o = 4 by omega) with rfl | rfl | rfl | rfl | rfl
  · go_enter Try.func128, Try.ntmps128
    go_wp2
    go_ret
    exact ⟨_, rfl, .inl ⟨rfl, rfl⟩, grown_refl _ _⟩
  · go_enter Try.func128, Try.ntmps128
    go_wp2
    go_ret
    exact ⟨_, rfl, lo_new w [1] _ rfl 1, hg _⟩
  · go_enter Try.func128, Try.ntmps128
    go_wp2
    go_ret
    exact ⟨_, rfl, lo_new w [2, -1] _ rfl 2, hg _⟩
  · go_enter Try.func128, Try.ntmps128
    go_wp2
    go_ret
    exact ⟨_, rfl, lo_new w [3, -3, 1] _ rfl 3, hg _⟩
  · go_enter Try.func128, Try.ntmps128
    go_wp2
    go_ret
    exact ⟨_, rfl, lo_new w [4, -6, 4, -1] _ rfl 4, hg _⟩

theorem fixed_abs2 (o : Nat) (ho : o ≤ 4) : Abs 32768 (fixedFactors o) ∧ (fixedFactors o).length = o := by
  rcases (show o = 0 ∨ o = 1 ∨ o = 2 ∨ o = 3 ∨ o = 4 by omega) with rfl | rfl | rfl | rfl | rfl
  · exact ⟨fun x hx => (by cases hx), rfl⟩
  · refine ⟨fun x hx => ?_, rfl⟩
    simp [fixedFactors] at hx; omega
  · refine ⟨fun x hx => ?_, rfl⟩
    simp [fixedFactors] at hx; omega
  · refine ⟨fun x hx => ?_, rfl⟩
    simp [fixedFactors] at hx; omega
  · refine ⟨fun x hx => ?_, rfl⟩
    simp [fixedFactors] at hx; omega

/-- the samples, and where they lie -/
def SampPost (w : World) (n : Nat) (P : List Int → Prop) (e : Ending) (w' : World) : Prop :=
  ∃ (v : Value) (xs : List Int), e = .returned v ∧ Own w' w.heap.size v xs ∧ w.grownBy w' none ∧ xs.length = n ∧ P xs

set_option maxHeartbeats 1000000 in
theorem qplain (w : World) (g n : Nat) (xs : List Int) (m : Int) (hl : xs.length = n) (hn : n ≤ 256) (h : Srcs w g xs) :
    Calls Try.prog 159 #[.agg #[.slice (some ⟨g, 0, none⟩) n n], .int .i64 m] w (SampPost w n fun ys => ys = xs) := by
  have hga : w.grownBy (w.alloc (.cells #[Value.slice (some ⟨g, 0, none⟩) n n] 161)) none := grown_alloc (grown_refl _ _) _
  have h1 := h.kept hga (by simp)
  have HL : Hid (xs.length = n) := hl
  clear hl
  go_enter Try.func159, Try.ntmps159
  go_wp2_with fail
  refine (qclone _ g n n xs HL.out (by omega) h1).mono ?_
  rintro e w1 ⟨g1, c1, rfl, hrow, hg1⟩
  have hown := hrow.own.mono (show w.heap.size ≤ (w.alloc (.cells #[Value.slice (some ⟨g, 0, none⟩) n n] 161)).heap.size by simp)
  have hgg := grown_trans hga hg1
  clear hrow hg1 hga h1
  go_wp2
  go_ret
  exact ⟨_, xs, rfl, hown, hgg, HL.out, rfl⟩

set_option maxHeartbeats 1000000 in
set_option maxRecDepth 20000 in
theorem qlinear (w : World) (g1 n1 c1 g2 n2 c2 shift : Nat) (vr : Value) (first fs res : List Int) (m : Int) (h1 : first.length = n1) (h2 : fs.length = n2) (hs : shift ≤ 31) (hle : fs.length ≤ first.length) (hfl : first.length ≤ 256) (hrl : res.length ≤ 256) (hab : Abs 2147483648 res)
    (hfirst : Srcs w g1 first) (hfs : Srcs w g2 fs) (hres : Lo w vr res) :
    Calls Try.prog 164 #[.agg #[.slice (some ⟨g1, 0, none⟩) n1 c1, .slice (some ⟨g2, 0, none⟩) n2 c2, .int .i64 shift, vr], .int .i64 m] w (SampPost w (first.length + res.length) fun xs => Told first res fs shift res.length xs) := by
  have hga : w.grownBy (w.alloc (.cells #[Value.slice (some ⟨g1, 0, none⟩) n1 c1, .slice (some ⟨g2, 0, none⟩) n2 c2, .int .i64 shift, vr] 185)) none := grown_alloc (grown_refl _ _) _
  have k1 := hfirst.kept hga (by simp)
  have k2 := hfs.kept hga (by simp)
  have k3 := hres.kept hga
  have k2' : Lo (w.alloc (.cells #[Value.slice (some ⟨g1, 0, none⟩) n1 c1, .slice (some ⟨g2, 0, none⟩) n2 c2, .int .i64 shift, vr] 185)) (.slice (some ⟨g2, 0, none⟩) n2 c2) fs := .inr ⟨g2, 0, c2, by rw [h2], fun i hi => by rw [Nat.zero_add]; exact k2 i hi⟩
  obtain ⟨ar, cr, rfl⟩ := hres.slice
  have H1 : Hid (first.length = n1) := h1
  clear h1 h2 k2
  go_enter Try.func164, Try.ntmps164
  go_wp2_with fail
  refine (qtold _ g1 n1 c1 _ _ first res fs shift hs H1.out hle hfl hrl hab k1 k3 k2').mono ?_
  rintro e w1 ⟨v, xs, rfl, hown, hg1, hlen, htold⟩
  have hown' := hown.mono (show w.heap.size ≤ (w.alloc (.cells #[Value.slice (some ⟨g1, 0, none⟩) n1 c1, .slice (some ⟨g2, 0, none⟩) n2 c2, .int .i64 shift, .slice ar res.length cr] 185)).heap.size by simp)
  have hgg := grown_trans hga hg1
  have HLEN : Hid _ := hlen
  clear hown hg1 hga k1 k3 k2' hlen
  go_wp2
  go_ret
  exact ⟨_, xs, rfl, hown', hgg, HLEN.out, htold⟩
end Go.Proofs.Ytncmgnmcggkhnaa
