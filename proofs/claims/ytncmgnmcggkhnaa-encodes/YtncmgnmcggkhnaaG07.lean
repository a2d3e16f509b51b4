import Derived.Test.YtncmgnmcggkhnaaG06
import Derived.Deep.DeepCutAuto
import Derived.Deep.CutBlock
import Derived.Deep.LoopGhost
namespace Go.Proofs.Ytncmgnmcggkhnaa
open Go.RowKit

/-- what a frame leaves: lists of the channels in memory of its own -/
def Chs (w : World) (base : Nat) (v : Value) (chs : List (List Int)) : Prop :=
  ∃ lg lcap : Nat, v = .slice (some ⟨lg, 0, none⟩) chs.length lcap ∧ base ≤ lg ∧ ∀ i, i < chs.length → ∃ g cap, w.cell? ⟨lg, i, none⟩ = some (.slice (some ⟨g, 0, none⟩) (chs.getD i []).length cap) ∧ Row w base g (chs.getD i []).length cap (chs.getD i [])

theorem chan_spec (n bits mode : Nat) : ∀ (c i : Nat) (l : List Bool) (xss : List (List Int)) (r : List Bool), pChannels n bits mode c i l = some (xss, r) →
    xss.length = c ∧ ∀ j, j < c → (xss.getD j []).length = n ∧ ∀ x ∈ xss.getD j [], fitsB (bits + extra mode (i + j)) x = true
  | 0, i, l, xss, r, h => by
    have h' : some (([] : List (List Int)), l) = some (xss, r) := h
    injection h' with h'
    injection h' with h1 h2
    subst h1
    exact ⟨rfl, fun j hj => by omega⟩
  | c + 1, i, l, xss, r, h => by
    have h' : ((pSubframe n (bits + extra mode i) l).bind fun (x, r) => (pChannels n bits mode c (i + 1) r).map fun (xs, r') => (x :: xs, r')) = some (xss, r) := h
    obtain ⟨⟨y, r1⟩, hy, h2⟩ := bind_some h'
    obtain ⟨⟨ys, r2⟩, hys, h3⟩ := map_some h2
    injection h3 with h4 h5
    subst h4
    have hs := pSubframe_spec hy
    have hr := chan_spec n bits mode c (i + 1) r1 ys r2 hys
    refine ⟨by rw [List.length_cons, hr.1], fun j hj => ?_⟩
    cases j with
    | zero => exact hs
    | succ j =>
      have := hr.2 j (by omega)
      rw [show i + 1 + j = i + (j + 1) by omega] at this
      simpa using this

theorem chan_live {n bits mode c : Nat} {xss : List (List Int)} {l r : List Bool} (h : Ends (pChannels n bits mode c 0) (some l) xss (some r)) :
    xss.length = c ∧ ∀ j, j < c → (xss.getD j []).length = n ∧ ∀ x ∈ xss.getD j [], fitsB (bits + extra mode j) x = true := by
  rcases h.cases with ⟨r', e, _⟩ | ⟨_, e⟩
  · have := chan_spec n bits mode c 0 l xss r' e
    refine ⟨this.1, fun j hj => ?_⟩
    have := this.2 j hj
    rw [Nat.zero_add] at this
    exact this
  · cases e

theorem pair_low {mode : Nat} (h : mode < 8) (a b : Int) : pair mode a b = (a, b) := by
  unfold pair
  rw [if_neg (by omega), if_neg (by omega), if_neg (by omega)]

theorem zip_low {mode : Nat} (h : mode < 8) : ∀ (xs ys : List Int), xs.length = ys.length → (List.zipWith (pair mode) xs ys).map (·.1) = xs ∧ (List.zipWith (pair mode) xs ys).map (·.2) = ys
  | [], [], _ => ⟨rfl, rfl⟩
  | x :: xs, y :: ys, hl => by
    have := zip_low h xs ys (by simpa using hl)
    rw [List.zipWith_cons_cons, List.map_cons, List.map_cons, this.1, this.2, pair_low h]
    exact ⟨rfl, rfl⟩
  | [], y :: ys, hl => by simp at hl
  | x :: xs, [], hl => by simp at hl

theorem apart_one {mode : Nat} (xss : List (List Int)) (h : xss.length = 1) : apart mode xss = xss := by
  match xss, h with
  | [a], _ => rfl

theorem apart_low {mode : Nat} (hm : mode < 8) (xss : List (List Int)) (n : Nat) (h : xss.length ≤ 2) (hl : ∀ j, j < xss.length → (xss.getD j []).length = n) : apart mode xss = xss := by
  match xss, h, hl with
  | [], _, _ => rfl
  | [a], _, _ => rfl
  | [a, b], _, hl =>
    have h0 : a.length = n := hl 0 (by simp)
    have h1 : b.length = n := hl 1 (by simp)
    have := zip_low hm a b (by omega)
    show [_, _] = _
    rw [this.1, this.2]

theorem extra_low {mode i : Nat} (hm : mode < 8) : extra mode i = 0 := by
  unfold extra
  rw [if_neg (by omega)]

theorem Subs.cell {w : World} {base : Nat} {lv : Value} {vs : List Value} {xss : List (List Int)} (h : Subs w base lv vs xss) (hne : 0 < vs.length) :
    ∃ lg lcap, lv = .slice (some ⟨lg, 0, none⟩) vs.length lcap ∧ base ≤ lg ∧ lg < w.heap.size ∧ ∀ i, i < vs.length → w.cell? ⟨lg, i, none⟩ = some (vs.getD i undef) := by
  obtain ⟨g, cap, hv, hb, hlt⟩ := World.ownsRow.form h.row hne
  refine ⟨g, cap, hv, hb, hlt, fun i hi => ?_⟩
  have hr := h.row
  rw [hv] at hr
  have e := World.ownsRow.cellAt hr i (by omega)
  rw [e, List.getElem?_eq_getElem hi]
  simp [List.getD, List.getElem?_eq_getElem hi]

theorem Own.full {w : World} {base : Nat} {v : Value} {xs : List Int} (h : Own w base v xs) (hn : 1 ≤ xs.length) : ∃ g cap, v = .slice (some ⟨g, 0, none⟩) xs.length cap ∧ Row w base g xs.length cap xs := by
  rcases h.row with ⟨_, rfl⟩ | h
  · simp at hn
  · exact h

theorem Subs.chs {w : World} {base base' : Nat} {lv : Value} {vs : List Value} {xss : List (List Int)} (h : Subs w base lv vs xss) (hb : base' ≤ base) (hne : 0 < xss.length) (hl : ∀ j, j < xss.length → 1 ≤ (xss.getD j []).length) : Chs w base' lv xss := by
  have hlen := h.len
  obtain ⟨lg, lcap, hv, hlb, _, hc⟩ := h.cell (by omega)
  refine ⟨lg, lcap, by rw [hv, hlen], by omega, fun i hi => ?_⟩
  obtain ⟨g, cap, hvi, hrow⟩ := (h.own i (by omega)).full (hl i hi)
  exact ⟨g, cap, by rw [hc i (by omega), hvi], hrow.mono hb⟩

set_option maxHeartbeats 400000 in
theorem rapart_low (w : World) (b : Nat) (lv : Value) (n bits mode : Nat) (hn1 : 1 ≤ n) (_hn : n ≤ 256) (hm : mode < 8) :
    Calls Try.prog 67 #[.pointer (some ⟨b, 0, none⟩), lv, .int .i64 mode, .int .i64 bits, .int .i64 n] w fun e w' => e = .returned lv ∧ w' = w := by
  go_enter Try.func67, Try.ntmps67
  go_wp2
  go_loop [11] (fun i => i = .int .i64 0) (fun _ => 0)
  case atStart => exact rfl
  case round =>
    subst hrel
    go_wp2
    go_ret
    exact ⟨rfl, rfl⟩

set_option maxHeartbeats 400000 in
theorem rapart_dead (w : World) (b : Nat) (s : ByteArray) (lv : Value) (n bits mode : Nat) (hn1 : 1 ≤ n) (_hn : n ≤ 256) (hm : 8 ≤ mode) (hm2 : mode ≤ 10) (h : St 86 w b s none) :
    Calls Try.prog 67 #[.pointer (some ⟨b, 0, none⟩), lv, .int .i64 mode, .int .i64 bits, .int .i64 n] w fun e w' => e = .returned lv ∧ w' = w := by
  have hm' : w.cell? ⟨b, 2, none⟩ = some (.bool true) := h.mark
  go_enter Try.func67, Try.ntmps67
  go_wp2
  go_loop [11] (fun i => i = .int .i64 0) (fun _ => 0)
  case atStart => exact rfl
  case round =>
    subst hrel
    go_wp2
    go_ret
    exact ⟨rfl, rfl⟩

/-- all channels, of what apart leaves -/
theorem fits_iff (bits n : Nat) (A B : List Int) (hA : A.length = n) (hB : B.length = n) : ([A, B].all (fun c => c.all (fitsB bits)) = true) ↔ fitUpto bits A B n := by
  simp only [List.all_cons, List.all_nil, Bool.and_true, Bool.and_eq_true, List.all_eq_true]
  constructor
  · intro h j hj
    constructor
    · exact h.1 _ (by simp only [List.getD, List.getElem?_eq_getElem (show j < A.length by omega), Option.getD_some]; exact List.getElem_mem _)
    · exact h.2 _ (by simp only [List.getD, List.getElem?_eq_getElem (show j < B.length by omega), Option.getD_some]; exact List.getElem_mem _)
  · intro h
    constructor
    · intro x hx
      obtain ⟨j, hj, rfl⟩ := List.getElem_of_mem hx
      have := (h j (by omega)).1
      simpa [List.getD, List.getElem?_eq_getElem hj] using this
    · intro x hx
      obtain ⟨j, hj, rfl⟩ := List.getElem_of_mem hx
      have := (h j (by omega)).2
      simpa [List.getD, List.getElem?_eq_getElem hj] using this

/-- bits that are left at a byte's end are the bytes that are left -/
theorem bits_suffix (s : ByteArray) (f : Nat) (hf : f ≤ s.size) (bytes : List UInt8) (hb : s.data.toList.drop f = bytes) (l : List Bool) {t : TypeId} {w : World} {b : Nat} (h : St t w b s (some l)) (h8 : l.length % 8 = 0) (hle : l.length ≤ 8 * bytes.length) :
    l = bitsOf (bytes.drop (bytes.length - l.length / 8)) := by
  obtain ⟨a, ha, hl, _⟩ := h
  have hlen : l.length = 8 * s.size - a := by rw [hl, List.length_drop, total_bits]
  have hbl : bytes.length = s.size - f := by rw [← hb, List.length_drop]; simp
  rw [← hb, List.drop_drop]
  have e : a = 8 * (f + (List.length (s.data.toList.drop f) - l.length / 8)) := by
    rw [hb, hbl]
    omega
  conv => lhs; rw [hl, e]
  rw [bitsOf_drop]

end Go.Proofs.Ytncmgnmcggkhnaa

namespace Go.Proofs.Ytncmgnmcggkhnaa
open Go.RowKit

/-- a list of ints that can be read -/
def Ls (w : World) (v : Value) (xs : List Int) : Prop :=
  (v = .slice none 0 0 ∧ xs = []) ∨ ∃ g cap, v = .slice (some ⟨g, 0, none⟩) xs.length cap ∧ ∀ i, i < xs.length → w.cell? ⟨g, i, none⟩ = some (.int .i64 (xs.getD i 0))

theorem Own.ls {w : World} {base : Nat} {v : Value} {xs : List Int} (h : Own w base v xs) : Ls w v xs := by
  rcases h.row with ⟨h1, h2⟩ | ⟨g, cap, hv, hr⟩
  · exact .inl ⟨h1, h2⟩
  · exact .inr ⟨g, cap, hv, fun i hi => hr.cell i hi⟩

theorem Ls.slice {w : World} {v : Value} {xs : List Int} (h : Ls w v xs) : ∃ a c, v = .slice a xs.length c := by
  rcases h with ⟨rfl, rfl⟩ | ⟨g, cap, rfl, _⟩
  · exact ⟨none, 0, rfl⟩
  · exact ⟨_, cap, rfl⟩

theorem take_eq_succ (xs ys : List Int) (k : Nat) (h1 : k < xs.length) (h2 : k < ys.length) (h : xs.take k = ys.take k) (he : xs.getD k 0 = ys.getD k 0) : xs.take (k + 1) = ys.take (k + 1) := by
  rw [List.take_succ_eq_append_getElem h1, List.take_succ_eq_append_getElem h2, h]
  simp only [List.getD, List.getElem?_eq_getElem h1, List.getElem?_eq_getElem h2, Option.getD_some] at he
  rw [he]

set_option maxHeartbeats 1000000 in
set_option maxRecDepth 20000 in
theorem same_ints (w : World) (v1 v2 : Value) (xs ys : List Int) (h1 : Ls w v1 xs) (h2 : Ls w v2 ys) (hx : xs.length ≤ 1099511627776) (hy : ys.length ≤ 1099511627776) :
    Calls Try.prog 68 #[v1, v2] w fun e w' => e = .returned (.bool (decide (xs = ys))) ∧ ∃ d, w' = w.drewN d := by
  obtain ⟨a1, c1, rfl⟩ := h1.slice
  obtain ⟨a2, c2, rfl⟩ := h2.slice
  obtain ⟨n, hn⟩ : ∃ n, xs.length = n := ⟨_, rfl⟩
  obtain ⟨m, hm⟩ : ∃ m, ys.length = m := ⟨_, rfl⟩
  rw [hn] at hx
  rw [hm] at hy
  by_cases hnm : n = m
  · subst hnm
    rw [hn, hm]
    rcases Nat.eq_zero_or_pos n with rfl | hpos
    · have hx0 : xs = [] := List.eq_nil_of_length_eq_zero hn
      have hy0 : ys = [] := List.eq_nil_of_length_eq_zero hm
      have e : decide (xs = ys) = true := decide_eq_true (by rw [hx0, hy0])
      rw [e]
      clear e hx0 hy0 hn hm h1 h2
      go_enter Try.func68, Try.ntmps68
      go_wp2
      go_loop [5] (fun i => i = .int .i64 0) (fun _ => 0)
      case atStart => exact rfl
      case round =>
        subst hrel
        go_wp2
        go_ret
        exact ⟨rfl, 0, rfl⟩
    · rcases h1 with ⟨_, hx0⟩ | ⟨g1, cap1, he1, hc1⟩
      · rw [hx0] at hn; simp at hn; omega
      rcases h2 with ⟨_, hy0⟩ | ⟨g2, cap2, he2, hc2⟩
      · rw [hy0] at hm; simp at hm; omega
      injection he1 with ha1 _ hcp1
      injection he2 with ha2 _ hcp2
      subst ha1 hcp1 ha2 hcp2
      rw [hn] at hc1
      rw [hm] at hc2
      have HL : Hid (xs.length = n ∧ ys.length = n) := ⟨hn, hm⟩
      have HC : Hid ((∀ i, i < n → w.cell? ⟨g1, i, none⟩ = some (.int .i64 (xs.getD i 0))) ∧ (∀ i, i < n → w.cell? ⟨g2, i, none⟩ = some (.int .i64 (ys.getD i 0)))) := ⟨hc1, hc2⟩
      clear hc1 hc2 hn hm
      go_enter Try.func68, Try.ntmps68
      go_wp2
      go_loopw [5] (fun i wr => ∃ k : Nat, k ≤ n ∧ i = .int .i64 k ∧ (∃ d, wr = w.drewN d) ∧ Hid (xs.take k = ys.take k)) (fun i _ => n - (intOf i).toNat)
      case atStart => exact ⟨0, Nat.zero_le _, rfl, ⟨0, rfl⟩, (rfl : _ = _)⟩
      case round =>
        obtain ⟨k, hk, rfl, ⟨d, rfl⟩, HT⟩ := hrel
        by_cases hlt : k < n
        · obtain ⟨x, hxv⟩ : ∃ x, xs.getD k 0 = x := ⟨_, rfl⟩
          obtain ⟨y, hyv⟩ : ∃ y, ys.getD k 0 = y := ⟨_, rfl⟩
          have hcx : w.cell? ⟨g1, k, none⟩ = some (.int .i64 x) := by rw [HC.out.1 k hlt, hxv]
          have hcy : w.cell? ⟨g2, k, none⟩ = some (.int .i64 y) := by rw [HC.out.2 k hlt, hyv]
          have HX : Hid (xs.getD k 0 = x ∧ ys.getD k 0 = y) := ⟨hxv, hyv⟩
          clear hxv hyv
          have hlt' : (k : Int) < (n : Int) := by omega
          by_cases hxy : x = y
          · subst hxy
            go_wp2
            go_quiet (fail)
            go_wp2
            go_roundw
            case rel => exact ⟨k + 1, by omega, by go_num, ⟨d + nq, rfl⟩, (take_eq_succ xs ys k (by have := HL.out.1; omega) (by have := HL.out.2; omega) HT.out (by rw [HX.out.1, HX.out.2]) : _ = _)⟩
            case measure => simp [intOf]; omega
          · have hb : (x != y) = true := by simpa using hxy
            have e : Hid (decide (xs = ys) = false) := (decide_eq_false (fun h => hxy (by rw [← HX.out.1, ← HX.out.2, h])) : _ = _)
            clear hxy
            go_wp2
            go_quiet (fail)
            go_wp2
            go_ret
            exact ⟨by rw [e.out]; rfl, d + nq, by rw [World.drewN_drewN]⟩
        · obtain rfl : k = n := by omega
          have e : Hid (decide (xs = ys) = true) := (decide_eq_true (by
            have := HT.out
            rw [List.take_of_length_le (by have := HL.out.1; omega), List.take_of_length_le (by have := HL.out.2; omega)] at this
            exact this) : _ = _)
          go_wp2
          go_ret
          exact ⟨by rw [e.out]; rfl, d, rfl⟩
  · have e : decide (xs = ys) = false := decide_eq_false (fun h => hnm (by rw [← hn, ← hm, h]))
    rw [e, hn, hm]
    clear e hn hm
    have hb : ((n : Int) != (m : Int)) = true := by rw [ne_cast]; simpa using hnm
    clear hnm
    go_enter Try.func68, Try.ntmps68
    go_wp2
    go_ret
    exact ⟨rfl, 0, rfl⟩
end Go.Proofs.Ytncmgnmcggkhnaa

namespace Go.Proofs.Ytncmgnmcggkhnaa
open Go.RowKit

/-- a list of lists of ints that can be read -/
def Ls2 (w : World) (v : Value) (xss : List (List Int)) : Prop :=
  (v = .slice none 0 0 ∧ xss = []) ∨ ∃ g cap, v = .slice (some ⟨g, 0, none⟩) xss.length cap ∧ ∀ i, i < xss.length → ∃ u, w.cell? ⟨g, i, none⟩ = some u ∧ Ls w u (xss.getD i [])

theorem Ls2.slice {w : World} {v : Value} {xs : List (List Int)} (h : Ls2 w v xs) : ∃ a c, v = .slice a xs.length c := by
  rcases h with ⟨rfl, rfl⟩ | ⟨g, cap, rfl, _⟩
  · exact ⟨none, 0, rfl⟩
  · exact ⟨_, cap, rfl⟩

theorem Ls.drew {w : World} {v : Value} {xs : List Int} (h : Ls w v xs) (d : Nat) : Ls (w.drewN d) v xs := by
  rcases h with h | ⟨g, cap, hv, hc⟩
  · exact .inl h
  · exact .inr ⟨g, cap, hv, fun i hi => by rw [World.cell?_drewN]; exact hc i hi⟩

theorem take_eq_succ2 (xs ys : List (List Int)) (k : Nat) (h1 : k < xs.length) (h2 : k < ys.length) (h : xs.take k = ys.take k) (he : xs.getD k [] = ys.getD k []) : xs.take (k + 1) = ys.take (k + 1) := by
  rw [List.take_succ_eq_append_getElem h1, List.take_succ_eq_append_getElem h2, h]
  simp only [List.getD, List.getElem?_eq_getElem h1, List.getElem?_eq_getElem h2, Option.getD_some] at he
  rw [he]

set_option maxHeartbeats 1000000 in
set_option maxRecDepth 20000 in
theorem same_lists (w : World) (v1 v2 : Value) (xs ys : List (List Int)) (h1 : Ls2 w v1 xs) (h2 : Ls2 w v2 ys) (hx : xs.length ≤ 1099511627776) (hy : ys.length ≤ 1099511627776)
    (hxl : ∀ i, i < xs.length → (xs.getD i []).length ≤ 1099511627776) (hyl : ∀ i, i < ys.length → (ys.getD i []).length ≤ 1099511627776) :
    Calls Try.prog 46 #[v1, v2] w fun e w' => e = .returned (.bool (decide (xs = ys))) ∧ ∃ d, w' = w.drewN d := by
  obtain ⟨a1, c1, rfl⟩ := h1.slice
  obtain ⟨a2, c2, rfl⟩ := h2.slice
  obtain ⟨n, hn⟩ : ∃ n, xs.length = n := ⟨_, rfl⟩
  obtain ⟨m, hm⟩ : ∃ m, ys.length = m := ⟨_, rfl⟩
  rw [hn] at hx hxl
  rw [hm] at hy hyl
  by_cases hnm : n = m
  · subst hnm
    rw [hn, hm]
    rcases Nat.eq_zero_or_pos n with rfl | hpos
    · have hx0 : xs = [] := List.eq_nil_of_length_eq_zero hn
      have hy0 : ys = [] := List.eq_nil_of_length_eq_zero hm
      have e : decide (xs = ys) = true := decide_eq_true (by rw [hx0, hy0])
      rw [e]
      clear e hx0 hy0 hn hm h1 h2 hxl hyl
      go_enter Try.func46, Try.ntmps46
      go_wp2
      go_loop [5] (fun i => i = .int .i64 0) (fun _ => 0)
      case atStart => exact rfl
      case round =>
        subst hrel
        go_wp2
        go_ret
        exact ⟨rfl, 0, rfl⟩
    · rcases h1 with ⟨_, hx0⟩ | ⟨g1, cap1, he1, hc1⟩
      · rw [hx0] at hn; simp at hn; omega
      rcases h2 with ⟨_, hy0⟩ | ⟨g2, cap2, he2, hc2⟩
      · rw [hy0] at hm; simp at hm; omega
      injection he1 with ha1 _ hcp1
      injection he2 with ha2 _ hcp2
      subst ha1 hcp1 ha2 hcp2
      rw [hn] at hc1
      rw [hm] at hc2
      have HL : Hid (xs.length = n ∧ ys.length = n) := ⟨hn, hm⟩
      have HC : Hid ((∀ i, i < n → ∃ u, w.cell? ⟨g1, i, none⟩ = some u ∧ Ls w u (xs.getD i [])) ∧ (∀ i, i < n → ∃ u, w.cell? ⟨g2, i, none⟩ = some u ∧ Ls w u (ys.getD i []))) := ⟨hc1, hc2⟩
      have HB : Hid ((∀ i, i < n → (xs.getD i []).length ≤ 1099511627776) ∧ (∀ i, i < n → (ys.getD i []).length ≤ 1099511627776)) := ⟨hxl, hyl⟩
      clear hc1 hc2 hn hm hxl hyl
      go_enter Try.func46, Try.ntmps46
      go_wp2
      go_loopw [5] (fun i wr => ∃ k : Nat, k ≤ n ∧ i = .int .i64 k ∧ (∃ d, wr = w.drewN d) ∧ Hid (xs.take k = ys.take k)) (fun i _ => n - (intOf i).toNat)
      case atStart => exact ⟨0, Nat.zero_le _, rfl, ⟨0, rfl⟩, (rfl : _ = _)⟩
      case round =>
        obtain ⟨k, hk, rfl, ⟨d, rfl⟩, HT⟩ := hrel
        generalize hwz : w.drewN d = wz
        replace hwz := hwz.symm
        have HW : Hid (wz = w.drewN d) := hwz
        by_cases hlt : k < n
        · obtain ⟨u1, hcx, hu1⟩ := HC.out.1 k hlt
          obtain ⟨u2, hcy, hu2⟩ := HC.out.2 k hlt
          rw [← World.cell?_drewN (n := d), ← hwz] at hcx hcy
          replace hu1 := hu1.drew d
          replace hu2 := hu2.drew d
          rw [← hwz] at hu1 hu2
          clear hwz
          have hlt' : (k : Int) < (n : Int) := by omega
          have HS : ∀ d', Calls Try.prog 68 #[u1, u2] (wz.drewN d') fun e w' => e = .returned (.bool (decide (xs.getD k [] = ys.getD k []))) ∧ ∃ m, w' = (wz.drewN d').drewN m :=
            fun d' => same_ints _ _ _ _ _ (hu1.drew d') (hu2.drew d') (HB.out.1 k hlt) (HB.out.2 k hlt)
          clear hu1 hu2
          by_cases hxy : xs.getD k [] = ys.getD k []
          · have HX : Hid (xs.getD k [] = ys.getD k []) := hxy
            rw [decide_eq_true hxy] at HS
            clear hxy
            go_wp2_with fail
            go_quiet ((go_at_call 68; exact Calls.quiet_of (HS _)))
            go_wp2
            go_roundw
            case rel => exact ⟨k + 1, by omega, by go_num, ⟨d + nq, by rw [HW.out, World.drewN_drewN]⟩, (take_eq_succ2 xs ys k (by have := HL.out.1; omega) (by have := HL.out.2; omega) HT.out HX.out : _ = _)⟩
            case measure => simp [intOf]; omega
          · have e : Hid (decide (xs = ys) = false) := (decide_eq_false (fun h => hxy (by rw [h])) : _ = _)
            rw [decide_eq_false hxy] at HS
            clear hxy
            go_wp2_with fail
            go_quiet ((go_at_call 68; exact Calls.quiet_of (HS _)))
            go_wp2
            go_ret
            exact ⟨by rw [e.out]; rfl, d + nq, by rw [HW.out, World.drewN_drewN]⟩
        · clear hwz
          obtain rfl : k = n := by omega
          have e : Hid (decide (xs = ys) = true) := (decide_eq_true (by
            have := HT.out
            rw [List.take_of_length_le (by have := HL.out.1; omega), List.take_of_length_le (by have := HL.out.2; omega)] at this
            exact this) : _ = _)
          go_wp2
          go_ret
          exact ⟨by rw [e.out]; rfl, d, HW.out⟩
  · have e : decide (xs = ys) = false := decide_eq_false (fun h => hnm (by rw [← hn, ← hm, h]))
    rw [e, hn, hm]
    clear e hn hm
    have hb : ((n : Int) != (m : Int)) = true := by rw [ne_cast]; simpa using hnm
    clear hnm
    go_enter Try.func46, Try.ntmps46
    go_wp2
    go_ret
    exact ⟨rfl, 0, rfl⟩
end Go.Proofs.Ytncmgnmcggkhnaa

namespace Go.Proofs.Ytncmgnmcggkhnaa
open Go.RowKit

/-- a block that is known whole -/
def Box (w : World) (g : Nat) (cs : Array Value) (t : TypeId) : Prop := w.heap[g]? = some (.cells cs t (0, 0))

theorem Box.lt {w : World} {g : Nat} {cs : Array Value} {t : TypeId} (h : Box w g cs t) : g < w.heap.size := by
  rcases Nat.lt_or_ge g w.heap.size with h1 | h1
  · exact h1
  · unfold Box at h
    rw [Array.getElem?_eq_none h1] at h
    cases h
theorem Box.kept {w w' : World} {g : Nat} {cs : Array Value} {t : TypeId} {row : Option Nat} (h : Box w g cs t) (hg : w.grownBy w' row) (hne : some g ≠ row) : Box w' g cs t := by
  unfold Box at *
  rw [hg.block g (Box.lt h) hne, h]
theorem Box.cell {w : World} {g : Nat} {cs : Array Value} {t : TypeId} (h : Box w g cs t) (i : Nat) : w.cell? ⟨g, i, none⟩ = cs[i]? := by
  unfold Box at h
  simp [World.cell?, h]
theorem Box.new (w : World) (cs : Array Value) (t : TypeId) : Box (w.alloc (.cells cs t)) w.heap.size cs t := by
  show (w.heap.push _)[w.heap.size]? = _
  simp

theorem Box.set {w : World} {g : Nat} {cs : Array Value} {t : TypeId} (h : Box w g cs t) (i : Nat) (v : Value) : Box (w.setCell ⟨g, i, none⟩ v) g (cs.setIfInBounds i v) t :=
  heap_setCell_own w g i v cs t (0, 0) h
theorem Box.fz {w : World} {g : Nat} {cs : Array Value} {t : TypeId} (h : Box w g cs t) (i : Nat) : w.frozen? ⟨g, i, none⟩ = false := by
  unfold Box at h
  simp [World.frozen?, h]

end Go.Proofs.Ytncmgnmcggkhnaa

namespace Go.Proofs.Ytncmgnmcggkhnaa
open Go.RowKit

/-- a sound as a value -/
def soundV (rate bits : Int) (v : Value) : Value := .agg #[.int .i64 rate, .int .i64 bits, v]

theorem cell_kept {w w' : World} {a : Addr} {u : Value} (h : w.cell? a = some u) (hg : w.grownBy w' none) : w'.cell? a = some u := by
  rw [← h]
  unfold World.cell?
  rw [hg.block a.block (World.block_lt_of_cell? w a h) (by simp)]

theorem Ls.kept {w w' : World} {v : Value} {xs : List Int} (h : Ls w v xs) (hg : w.grownBy w' none) : Ls w' v xs := by
  rcases h with h | ⟨g, cap, hv, hc⟩
  · exact .inl h
  · exact .inr ⟨g, cap, hv, fun i hi => cell_kept (hc i hi) hg⟩

theorem Ls2.kept {w w' : World} {v : Value} {xs : List (List Int)} (h : Ls2 w v xs) (hg : w.grownBy w' none) : Ls2 w' v xs := by
  rcases h with h | ⟨g, cap, hv, hc⟩
  · exact .inl h
  · exact .inr ⟨g, cap, hv, fun i hi => by obtain ⟨u, hu, hl⟩ := hc i hi; exact ⟨u, cell_kept hu hg, hl.kept hg⟩⟩

set_option maxHeartbeats 1000000 in
set_option maxRecDepth 20000 in
theorem same_sound (w : World) (v1 v2 : Value) (r1 b1 r2 b2 : Int) (xs ys : List (List Int)) (h1 : Ls2 w v1 xs) (h2 : Ls2 w v2 ys) (hx : xs.length ≤ 1099511627776) (hy : ys.length ≤ 1099511627776)
    (hxl : ∀ i, i < xs.length → (xs.getD i []).length ≤ 1099511627776) (hyl : ∀ i, i < ys.length → (ys.getD i []).length ≤ 1099511627776) :
    Calls Try.prog 18 #[soundV r1 b1 v1, soundV r2 b2 v2] w fun e w' => e = .returned (.bool (decide (xs = ys) && (r1 == r2) && (b1 == b2))) ∧ w.grownBy w' none := by
  have hg : w.grownBy ((w.alloc (Obj.cells #[Value.int .i64 r1, Value.int .i64 b1, v1] 26)).alloc (Obj.cells #[Value.int .i64 r2, Value.int .i64 b2, v2] 26)) none := grown_alloc (grown_alloc (grown_refl w none) _) _
  have HS := same_lists _ v1 v2 xs ys (h1.kept hg) (h2.kept hg) hx hy hxl hyl
  have HX1 := Box.new w #[Value.int .i64 r1, Value.int .i64 b1, v1] 26
  have HX2 := Box.new (w.alloc (Obj.cells #[Value.int .i64 r1, Value.int .i64 b1, v1] 26)) #[Value.int .i64 r2, Value.int .i64 b2, v2] 26
  replace HX1 := HX1.kept (grown_alloc (grown_refl _ none) (Obj.cells #[Value.int .i64 r2, Value.int .i64 b2, v2] 26)) (by simp)
  have hsz : (w.alloc (Obj.cells #[Value.int .i64 r1, Value.int .i64 b1, v1] 26)).heap.size = w.heap.size + 1 := by simp
  rw [hsz] at HX2
  clear h1 h2 hx hy hxl hyl hsz
  unfold soundV
  go_enter Try.func18, Try.ntmps18
  go_wp2_with fail
  refine HS.mono ?_
  rintro e w1 ⟨rfl, d, rfl⟩
  clear HS
  revert HX1 HX2 hg
  generalize (w.alloc (Obj.cells #[Value.int .i64 r1, Value.int .i64 b1, v1] 26)).alloc (Obj.cells #[Value.int .i64 r2, Value.int .i64 b2, v2] 26) = w0
  intro hg HX2 HX1
  have hc10 : w0.cell? ⟨w.heap.size, 0, none⟩ = some (.int .i64 r1) := HX1.cell 0
  have hc11 : w0.cell? ⟨w.heap.size, 1, none⟩ = some (.int .i64 b1) := HX1.cell 1
  have hc20 : w0.cell? ⟨w.heap.size + 1, 0, none⟩ = some (.int .i64 r2) := HX2.cell 0
  have hc21 : w0.cell? ⟨w.heap.size + 1, 1, none⟩ = some (.int .i64 b2) := HX2.cell 1
  have HG : Hid (w.grownBy w0 none) := hg
  clear HX1 HX2 hg
  obtain ⟨q1, he⟩ : ∃ q, decide (xs = ys) = q := ⟨_, rfl⟩
  obtain ⟨q2, hr⟩ : ∃ q, (r1 == r2) = q := ⟨_, rfl⟩
  rw [he]
  have HE : Hid (decide (xs = ys) = q1 ∧ (r1 == r2) = q2) := ⟨he, hr⟩
  clear he
  cases q1
  · go_wp2
    go_ret
    exact ⟨by rw [HE.out.1, HE.out.2]; simp, grown_drewN HG.out _⟩
  · cases q2
    · go_wp2
      go_ret
      exact ⟨by rw [HE.out.1, HE.out.2]; simp, grown_drewN HG.out _⟩
    · go_wp2
      go_ret
      exact ⟨by rw [HE.out.1, HE.out.2]; simp, grown_drewN HG.out _⟩
end Go.Proofs.Ytncmgnmcggkhnaa

namespace Go.Proofs.Ytncmgnmcggkhnaa
open Go.RowKit

def FramePost (w : World) (b : Nat) (s : ByteArray) (h : Head) (number : Nat) (bytes : List UInt8) (e : Ending) (w' : World) : Prop :=
  ∃ (v : Value) (σ' : Option (List Bool)), e = .returned v ∧ w.grownBy w' (some b) ∧ St 86 w' b s σ' ∧
    ((pFrame h number bytes = none ∧ σ' = none) ∨ ∃ chs rest, pFrame h number bytes = some (chs, rest) ∧ σ' = some (bitsOf rest) ∧ Chs w' w.heap.size v chs)

theorem modeOk_high {c mode : Nat} (hm : 8 ≤ mode) (h : modeOk c mode = true) : c = 2 ∧ mode ≤ 10 := by
  unfold modeOk at h
  simp at h
  omega

theorem two_of_length {α : Type} {l : List α} (h : l.length = 2) : ∃ a b, l = [a, b] := by
  match l, h with
  | [a, b], _ => exact ⟨a, b, rfl⟩

/-- the end of a frame whose channels are parted -/
theorem frame_high {w wc w' : World} {b : Nat} {s : ByteArray} {h : Head} {number f mode n lg lcap g0 g1 cap0 cap1 : Nat} {bytes : List UInt8} {xs0 xs1 : List Int} {l7 lc l8 l3 : List Bool} {e : Ending}
    (hf : f ≤ s.size) (HB : s.data.toList.drop f = bytes) (hblt : b < w.heap.size) (hgr : w.grownBy wc (some b)) (hlgw : lg < wc.heap.size)
    (hhead : Ends (pHead h number bytes) (some (bitsOf bytes)) (mode, n) (some l7)) (hends8 : Ends (pChannels n h.bits mode h.channels 0) (some l7) [xs0, xs1] (some lc))
    (hpad : Ends (pMust (lc.length % 8) 0) (some lc) () (some l8)) (hq : l8.length % 8 = 0) (hends12 : Ends (pMust 16 (crc 16 32773 (bytes.take (bytes.length - l8.length / 8)))) (some l8) () (some l3))
    (hl8 : l8.length ≤ lc.length) (hlg : w.heap.size + 1 ≤ lg) (hl0 : lg ≠ g0) (hl1 : lg ≠ g1) (hx0 : xs0.length = n) (hx1 : xs1.length = n) (hg0 : w.heap.size ≤ g0) (hg1 : w.heap.size ≤ g1)
    (hc0 : wc.cell? ⟨lg, 0, none⟩ = some (.slice (some ⟨g0, 0, none⟩) n cap0)) (hc1 : wc.cell? ⟨lg, 1, none⟩ = some (.slice (some ⟨g1, 0, none⟩) n cap1))
    (hp : ApartPost wc (w.heap.size + 1) b s l3 (.slice (some ⟨lg, 0, none⟩) 2 lcap) g0 g1 n cap0 cap1 h.bits ((List.zipWith (pair mode) xs0 xs1).map (·.1)) ((List.zipWith (pair mode) xs0 xs1).map (·.2)) e w') :
    FramePost w b s h number bytes e w' := by
  obtain ⟨σ', rfl, hst', ho, ht, hout, hsz, hblk, hcase⟩ := hp
  have hA : ((List.zipWith (pair mode) xs0 xs1).map (·.1)).length = n := by rw [List.length_map, List.length_zipWith]; omega
  have hB : ((List.zipWith (pair mode) xs0 xs1).map (·.2)).length = n := by rw [List.length_map, List.length_zipWith]; omega
  have hg : w.grownBy w' (some b) := ⟨ho.trans hgr.os, ht.trans hgr.tape, hout.trans hgr.output, Nat.le_trans hgr.size hsz, fun i hi hib =>
    (hblk i (Nat.lt_of_lt_of_le hi hgr.size) (fun e => hib (by rw [e])) (by omega) (by omega)).trans (hgr.block i hi hib)⟩
  have hfits := fits_iff h.bits n _ _ hA hB
  have hlast := pFrame_last hhead hends8 hpad hends12
  have hap : apart mode [xs0, xs1] = [(List.zipWith (pair mode) xs0 xs1).map (·.1), (List.zipWith (pair mode) xs0 xs1).map (·.2)] := rfl
  rw [hap] at hlast
  refine ⟨_, σ', rfl, hg, hst', ?_⟩
  rcases hcase with ⟨rfl, hup, hr0, hr1⟩ | ⟨rfl, hno⟩
  · have hl3 := (must_left hends12).1
    have h1 := (Shr.head h number bytes).ends hhead
    have h2 := (Shr.channels n h.bits mode h.channels 0).ends hends8
    rw [bitsOf_length] at h1
    refine .inr ⟨_, _, by rw [hlast, if_pos (hfits.2 hup)], ?_, ?_⟩
    · rw [← bits_suffix s f hf bytes HB l3 hst' (by omega) (by omega)]
    · have hcell : ∀ i, w'.cell? ⟨lg, i, none⟩ = wc.cell? ⟨lg, i, none⟩ := fun i => World.cell?_of_block (hblk lg hlgw (by omega) hl0 hl1)
      refine ⟨lg, lcap, rfl, by omega, fun i hi => ?_⟩
      rcases (show i = 0 ∨ i = 1 by simp at hi; omega) with rfl | rfl
      · refine ⟨g0, cap0, ?_, ?_⟩
        · rw [hcell, hc0]
          show _ = some (Value.slice _ ((List.zipWith (pair mode) xs0 xs1).map (·.1)).length _)
          rw [hA]
        · show Row w' w.heap.size g0 ((List.zipWith (pair mode) xs0 xs1).map (·.1)).length cap0 _
          rw [hA]
          exact hr0.mono (by omega)
      · refine ⟨g1, cap1, ?_, ?_⟩
        · rw [hcell, hc1]
          show _ = some (Value.slice _ ((List.zipWith (pair mode) xs0 xs1).map (·.2)).length _)
          rw [hB]
        · show Row w' w.heap.size g1 ((List.zipWith (pair mode) xs0 xs1).map (·.2)).length cap1 _
          rw [hB]
          exact hr1.mono (by omega)
  · exact .inl ⟨by rw [hlast, if_neg (fun hh => hno (hfits.1 hh))], rfl⟩

theorem one_newV (w : World) (x : Value) (ty : TypeId) : ∀ j u, [x][j]? = some u → (w.alloc (.cells #[x] ty)).cell? ((⟨w.heap.size, 0, none⟩ : Addr).add j) = some u := by
  intro j u hj
  match j, hj with
  | 0, hj => simp at hj; subst hj; simp [Addr.add]

set_option maxHeartbeats 4000000 in
set_option maxRecDepth 20000 in
theorem rframe (w : World) (b : Nat) (s : ByteArray) (h : Head) (number f : Nat)
    (hs : s.size ≤ 6000) (hf : f ≤ s.size) (hnum : number ≤ 65536) (hblk : h.block ≤ 256) (hch1 : 1 ≤ h.channels) (hch2 : h.channels ≤ 2) (hb1 : 4 ≤ h.bits) (hb2 : h.bits ≤ 16) (_hrate : h.rate ≤ 655350) (_htot : h.total ≤ 1200)
    (hst : St 86 w b s (some (bitsOf (s.data.toList.drop f)))) :
    Calls Try.prog 45 #[.pointer (some ⟨b, 0, none⟩), .agg #[.int .i64 h.block, .int .i64 h.rate, .int .i64 h.channels, .int .i64 h.bits, .int .i64 h.total], .int .i64 number] w
      (FramePost w b s h number (s.data.toList.drop f)) := by
  obtain ⟨bytes, hbytes⟩ : ∃ bytes, s.data.toList.drop f = bytes := ⟨_, rfl⟩
  rw [hbytes] at hst ⊢
  have HB : Hid (s.data.toList.drop f = bytes) := hbytes
  have hbl : bytes.length = s.size - f := by rw [← hbytes, List.length_drop]; simp
  clear hbytes
  have hblt := hst.lt
  have hat := hst.at
  rw [bitsOf_length, hbl, show 8 * s.size - 8 * (s.size - f) = 8 * f by omega] at hat
  have hat1 := hat.1
  clear hat
  go_enter Try.func45, Try.ntmps45
  go_wp2_with fail
  obtain ⟨hv, hhv⟩ : ∃ hv : Array Value, #[Value.int .i64 h.block, .int .i64 h.rate, .int .i64 h.channels, .int .i64 h.bits, .int .i64 h.total] = hv := ⟨_, rfl⟩
  have hbox0 := Box.new w #[Value.int .i64 h.block, .int .i64 h.rate, .int .i64 h.channels, .int .i64 h.bits, .int .i64 h.total] 87
  have hst0 := hst.alloc (.cells #[Value.int .i64 h.block, .int .i64 h.rate, .int .i64 h.channels, .int .i64 h.bits, .int .i64 h.total] 87)
  have hg0 : w.grownBy (w.alloc (.cells #[Value.int .i64 h.block, .int .i64 h.rate, .int .i64 h.channels, .int .i64 h.bits, .int .i64 h.total] 87)) (some b) := grown_alloc (grown_refl _ _) _
  have hbb : some w.heap.size ≠ some b := fun e => by injection e with e; omega
  clear hhv hat1
  refine (rmustI _ _ _ _ _ 16 65528 _ rfl rfl hs (by omega) (by omega) hst0).mono ?_
  rintro e w1 ⟨σ1, rfl, hg1, hst1, hends1⟩
  have hbox1 := hbox0.kept hg1 hbb
  have hgg1 := grown_trans hg0 hg1
  clear hbox0 hst0 hg0 hg1 hst
  go_wp2_with fail
  refine (rmustI _ _ _ _ _ 8 112 _ rfl rfl hs (by omega) (by omega) hst1).mono ?_
  rintro e w2 ⟨σ2, rfl, hg2, hst2, hends2⟩
  have hbox2 := hbox1.kept hg2 hbb
  have hgg2 := grown_trans hgg1 hg2
  clear hbox1 hgg1 hg2 hst1
  go_wp2_with fail
  refine (rnum _ _ _ 4 _ hs (by omega) hst2).mono ?_
  rintro e w3 ⟨mode, σ3, rfl, hmode0, hg3, hst3, hends3⟩
  have hmode : mode < 16 := hmode0
  have hbox3 := hbox2.kept hg3 hbb
  have hgg3 := grown_trans hgg2 hg3
  clear hbox2 hgg2 hg3 hst2 hmode0
  go_wp2_with fail
  refine (rmustI _ _ _ _ _ 4 0 _ rfl rfl hs (by omega) (by omega) hst3).mono ?_
  rintro e w4 ⟨σ4, rfl, hg4, hst4, hends4⟩
  have hbox4 := hbox3.kept hg4 hbb
  have hgg4 := grown_trans hgg3 hg4
  clear hbox3 hgg3 hg4 hst3
  go_wp2_with fail
  refine (rmustI _ _ _ _ _ 8 number _ rfl rfl hs (by omega) (by omega) hst4).mono ?_
  rintro e w5 ⟨σ5, rfl, hg5, hst5, hends5⟩
  have hbox5 := hbox4.kept hg5 hbb
  have hgg5 := grown_trans hgg4 hg5
  clear hbox4 hgg4 hg5 hst4
  go_wp2_with fail
  refine (rnum _ _ _ 16 _ hs (by omega) hst5).mono ?_
  rintro e w6 ⟨n1, σ6, rfl, hn10, hg6, hst6, hends6⟩
  have hn1 : n1 < 65536 := hn10
  have hbox6 := hbox5.kept hg6 hbb
  have hgg6 := grown_trans hgg5 hg6
  clear hbox5 hgg5 hg6 hst5 hn10
  have hm6 := hst6.mark
  go_upto_if 38 with fail
  go_cut [] (fun wx => ∃ σ7 : Option (List Bool), w.grownBy wx (some b) ∧ St 86 wx b s σ7 ∧ Box wx w.heap.size #[Value.int .i64 h.block, .int .i64 h.rate, .int .i64 h.channels, .int .i64 h.bits, .int .i64 h.total] 87 ∧ Ends (pMust 8 (crc 8 7 (bytes.take 7))) σ6 () σ7)
  case first =>
    rcases σ6 with _ | l6
    · have hm6' : w6.cell? ⟨b, 2, none⟩ = some (.bool true) := hm6
      clear hm6
      go_wp2
      go_meet
      case rel => exact ⟨none, hgg6, hst6, hbox6, rfl⟩
    · have hm6' : w6.cell? ⟨b, 2, none⟩ = some (.bool false) := hm6
      clear hm6
      obtain ⟨l5, rfl⟩ := hends6.alive
      obtain ⟨l4, rfl⟩ := hends5.alive
      obtain ⟨l3, rfl⟩ := hends4.alive
      obtain ⟨l2, rfl⟩ := hends3.alive
      obtain ⟨l1, rfl⟩ := hends2.alive
      have hpl := head_place hends1 hends2 hends3 hends4 hends5 hends6
      rw [bitsOf_length, hbl] at hpl
      have hat6 := hst6.at
      rw [show 8 * s.size - l6.length = 8 * (f + 7) by omega] at hat6
      have hat6' := hat6.1
      have hstr := hst6.str
      have hf7 : f + 7 ≤ s.size := by omega
      have hcr : ∀ wz, Calls Try.prog 14 #[.string (s.extract f (f + 7))] wz fun e w' => e = .returned (.int .i64 (crc 8 7 (bytes.take 7) : Nat)) ∧ wz = w' := by
        intro wz
        refine (refcrc8_any _ wz (by rw [ByteArray.size_extract]; unfold maxLen; omega)).mono ?_
        rintro e w' ⟨rfl, rfl⟩
        refine ⟨?_, rfl⟩
        rw [extract_list, HB.out, show f + 7 - f = 7 by omega]
      have hcl : crc 8 7 (bytes.take 7) ≤ 65536 := by have := crc_lt 8 7 (by omega) (by omega) (bytes.take 7); omega
      have hi3 : IntKind.i64.wrap ((f : Int) + 7) = (f : Int) + 7 := by rw [IntKind.wrap_i64]; omega
      have hi4 : ((f : Int) + 7).toNat = f + 7 := by omega
      have hi5 : (0 : Int) ≤ (f : Int) + 7 := by omega
      have hi0 : (0 : Int) ≤ (f : Int) := by omega
      have hi1 : (f : Int) ≤ (f : Int) + 7 := by omega
      have hi2 : (f : Int) + 7 ≤ (s.size : Int) := by omega
      go_wp2_with fail
      go_region_with (first | (go_at_call 14; refine (hcr _).mono ?_; rintro e w' ⟨rfl, rfl⟩) | (go_at_call 63; refine (rmustI _ _ _ _ _ 8 (crc 8 7 (bytes.take 7)) _ rfl rfl hs (by omega) hcl hst6.drew).mono ?_; rintro e w7 ⟨σ7, rfl, hg7, hst7, hends7⟩))
      all_goals
        go_wp2
        go_meet
        case rel => exact ⟨σ7, grown_trans (grown_drew hgg6) hg7, hst7, (hbox6.kept (grown_drew (grown_refl _ none)) (by simp)).kept hg7 hbb, hends7⟩
  case rest =>
    obtain ⟨σ7, hgg7, hst7, hbox7, hends7⟩ := hcut
    obtain ⟨wz, rfl⟩ : ∃ wz : World, wz = wc := ⟨_, rfl⟩
    clear hst6 hbox6 hgg6 hm6
    have hx0 : wz.cell? ⟨w.heap.size, 0, none⟩ = some (.int .i64 h.block) := hbox7.cell 0
    have hx2 : wz.cell? ⟨w.heap.size, 2, none⟩ = some (.int .i64 h.channels) := hbox7.cell 2
    have hx3 : wz.cell? ⟨w.heap.size, 3, none⟩ = some (.int .i64 h.bits) := hbox7.cell 3
    go_upto_region 10 with fail
    go_cut [10] (fun s10 wx => wx = wz ∧ s10 = .bool (modeOk h.channels mode))
    case first =>
      rcases (show h.channels < 2 ∨ 2 ≤ h.channels by omega) with hc | hc
      · have tc : ((h.channels : Int) == 1) = true := by simp; omega
        have tc2 : ((h.channels : Int) == 2) = false := by simp; omega
        rcases (show mode < 1 ∨ 1 ≤ mode by omega) with hmd | hmd
        · have t0 : ((mode : Int) == 0) = true := by simp; omega
          have e : modeOk h.channels mode = true := by rw [show h.channels = 1 by omega, show mode = 0 by omega]; rfl
          go_wp2
          go_meet
          case rel => exact ⟨rfl, by rw [e]⟩
        · have t0 : ((mode : Int) == 0) = false := by simp; omega
          have e : modeOk h.channels mode = false := by rw [show h.channels = 1 by omega]; unfold modeOk; simp; omega
          go_wp2
          go_meet
          case rel => exact ⟨rfl, by rw [e]⟩
      · have tc : ((h.channels : Int) == 1) = false := by simp; omega
        have tc2 : ((h.channels : Int) == 2) = true := by simp; omega
        rcases (show mode < 1 ∨ (1 ≤ mode ∧ mode < 2) ∨ (2 ≤ mode ∧ mode < 8) ∨ (8 ≤ mode ∧ mode ≤ 10) ∨ 11 ≤ mode by omega) with hmd | hmd | hmd | hmd | hmd
        · have t1 : ((mode : Int) == 1) = false := by simp; omega
          have e : modeOk h.channels mode = false := by rw [show h.channels = 2 by omega]; unfold modeOk; simp; omega
          go_wp2
          go_meet
          case rel => exact ⟨rfl, by rw [e]⟩
        · have t1 : ((mode : Int) == 1) = true := by simp; omega
          have e : modeOk h.channels mode = true := by rw [show h.channels = 2 by omega, show mode = 1 by omega]; rfl
          go_wp2
          go_meet
          case rel => exact ⟨rfl, by rw [e]⟩
        · have t1 : ((mode : Int) == 1) = false := by simp; omega
          have e : modeOk h.channels mode = false := by rw [show h.channels = 2 by omega]; unfold modeOk; simp; omega
          go_wp2
          go_meet
          case rel => exact ⟨rfl, by rw [e]⟩
        · have t1 : ((mode : Int) == 1) = false := by simp; omega
          have e : modeOk h.channels mode = true := by rw [show h.channels = 2 by omega]; unfold modeOk; simp; omega
          go_wp2
          go_meet
          case rel => exact ⟨rfl, by rw [e, decide_eq_true (show (mode : Int) ≤ 10 by omega)]⟩
        · have t1 : ((mode : Int) == 1) = false := by simp; omega
          have e : modeOk h.channels mode = false := by rw [show h.channels = 2 by omega]; unfold modeOk; simp; omega
          go_wp2
          go_meet
          case rel => exact ⟨rfl, by rw [e, decide_eq_false (show ¬ (mode : Int) ≤ 10 by omega)]⟩
    case rest =>
      obtain ⟨hwz, hs10⟩ := hcut
      subst hwz
      subst hs10
      have hm7 := hst7.mark
      have hf7 := hst7.fz 2
      have fin0 : ∀ wy, w.grownBy wy (some b) → St 86 wy b s none → pFrame h number bytes = none → FramePost w b s h number bytes (.returned (.slice none 0 0)) wy := fun wy hg hs' hp => ⟨_, none, rfl, hg, hs', .inl ⟨hp, rfl⟩⟩
      rcases σ7 with _ | l7
      · have hm7' : wc.cell? ⟨b, 2, none⟩ = some (.bool true) := hm7
        clear hm7
        go_wp2
        go_ret
        exact fin0 _ (grown_trans hgg7 (grown_set _ _ _ _)) (hst7.kill hs) (pFrame_head_none (head_no hends1 hends2 hends3 hends4 hends5 hends6 hends7 (.inr rfl) (0, 0)))
      · have hm7' : wc.cell? ⟨b, 2, none⟩ = some (.bool false) := hm7
        clear hm7
        by_cases hcnd : n1 + 1 ≤ h.block ∧ modeOk h.channels mode = true
        · have hhead := head_ends hends1 hends2 hends3 hends4 hends5 hends6 hends7 hcnd
          have hok := hcnd.2
          have hnb := hcnd.1
          have HOK : Hid (modeOk h.channels mode = true) := hok
          clear hcnd hends1 hends2 hends3 hends4 hends5 hends6 hends7
          obtain ⟨n, hn⟩ : ∃ n, n1 + 1 = n := ⟨_, rfl⟩
          have hni : (n1 : Int) + 1 = (n : Int) := by omega
          rw [hn] at hhead hnb
          have hn1' : 1 ≤ n := by omega
          clear hn
          obtain ⟨i0, hi, hz0, hz1, hz2⟩ := info_parts Try.info30
          obtain ⟨ch, hch⟩ : ∃ ch, h.channels = ch := ⟨_, rfl⟩
          rw [hch] at hx2 hch1 hch2
          have HCH : Hid (h.channels = ch) := hch
          clear hch
          have hd85 : decide (h.block < n) = false := decide_eq_false (by omega)
          rw [hni, hok]
          clear hni hok
          go_wp2
          clear hd85
          go_loopg [11, 12] 2 (fun gk v i wr => ∃ (k : Nat) (vs : List Value) (xss : List (List Int)) (σ' : Option (List Bool)), gk + k = 2 ∧ k ≤ ch ∧ i = .int .i64 k ∧ vs.length = k ∧ w.grownBy wr (some b) ∧ St 86 wr b s σ' ∧
              Box wr w.heap.size #[Value.int .i64 h.block, .int .i64 h.rate, .int .i64 h.channels, .int .i64 h.bits, .int .i64 h.total] 87 ∧ Subs wr (w.heap.size + 1) v vs xss ∧ (∀ xs ∈ xss, Abs 4294967296 xs) ∧ UptoC n h.bits mode ch k xss (some l7) σ')
          case atStart => exact ⟨0, [], [], some l7, rfl, Nat.zero_le _, rfl, rfl, hgg7, hst7, hbox7, Subs.nil _ _, (fun xs hx => by cases hx), UptoC.start _ _ _ _ _⟩
          case round =>
            obtain ⟨k, vs, xss, σ', hgk, hk, rfl, hvl, hgr, hst, hbox, hsubs, habs, hup⟩ := hrel
            clear hst7 hgg7 hbox7 hx0 hx2 hx3 hm7' hf7
            have HVL : Hid (vs.length = k) := hvl
            clear hvl
            have hx2 : wr.cell? ⟨w.heap.size, 2, none⟩ = some (.int .i64 ch) := by rw [← HCH.out]; exact hbox.cell 2
            have hx3 : wr.cell? ⟨w.heap.size, 3, none⟩ = some (.int .i64 h.bits) := hbox.cell 3
            by_cases hlt : k < ch
            · obtain ⟨ex, hex⟩ : ∃ ex, extra mode k = ex := ⟨_, rfl⟩
              have HEX : Hid (extra mode k = ex) := hex
              clear hex
              go_upto_region 19 with fail
              go_cut [123] (fun s123 wx => wx = wr ∧ s123 = .bool (decide (ex = 1)))
              case first =>
                rcases (show k < 1 ∨ (1 ≤ k ∧ k < 2) by omega) with hk1 | hk1
                · have q0 : ((k : Int) == 0) = true := by simp; omega
                  have q1 : ((k : Int) == 1) = false := by simp; omega
                  rcases (show (8 ≤ mode ∧ mode < 9) ∨ (9 ≤ mode ∧ mode < 10) ∨ (10 ≤ mode ∧ mode < 11) ∨ (mode < 8 ∨ 11 ≤ mode) by omega) with hmd | hmd | hmd | hmd
                  · have t8 : ((mode : Int) == 8) = true := by simp; omega
                    have t9 : ((mode : Int) == 9) = false := by simp; omega
                    have t10 : ((mode : Int) == 10) = false := by simp; omega
                    have hexv : decide (ex = 1) = false := by rw [← HEX.out]; unfold extra; rw [if_neg (by omega)]; rfl
                    go_wp2
                    go_meet
                    case rel => exact ⟨rfl, by rw [hexv]⟩
                  · have t8 : ((mode : Int) == 8) = false := by simp; omega
                    have t9 : ((mode : Int) == 9) = true := by simp; omega
                    have t10 : ((mode : Int) == 10) = false := by simp; omega
                    have hexv : decide (ex = 1) = true := by rw [← HEX.out]; unfold extra; rw [if_pos (by omega)]; rfl
                    go_wp2
                    go_meet
                    case rel => exact ⟨rfl, by rw [hexv]⟩
                  · have t8 : ((mode : Int) == 8) = false := by simp; omega
                    have t9 : ((mode : Int) == 9) = false := by simp; omega
                    have t10 : ((mode : Int) == 10) = true := by simp; omega
                    have hexv : decide (ex = 1) = false := by rw [← HEX.out]; unfold extra; rw [if_neg (by omega)]; rfl
                    go_wp2
                    go_meet
                    case rel => exact ⟨rfl, by rw [hexv]⟩
                  · have t8 : ((mode : Int) == 8) = false := by simp; omega
                    have t9 : ((mode : Int) == 9) = false := by simp; omega
                    have t10 : ((mode : Int) == 10) = false := by simp; omega
                    have hexv : decide (ex = 1) = false := by rw [← HEX.out]; unfold extra; rw [if_neg (by omega)]; rfl
                    go_wp2
                    go_meet
                    case rel => exact ⟨rfl, by rw [hexv]⟩
                · have q0 : ((k : Int) == 0) = false := by simp; omega
                  have q1 : ((k : Int) == 1) = true := by simp; omega
                  rcases (show (8 ≤ mode ∧ mode < 9) ∨ (9 ≤ mode ∧ mode < 10) ∨ (10 ≤ mode ∧ mode < 11) ∨ (mode < 8 ∨ 11 ≤ mode) by omega) with hmd | hmd | hmd | hmd
                  · have t8 : ((mode : Int) == 8) = true := by simp; omega
                    have t9 : ((mode : Int) == 9) = false := by simp; omega
                    have t10 : ((mode : Int) == 10) = false := by simp; omega
                    have hexv : decide (ex = 1) = true := by rw [← HEX.out]; unfold extra; rw [if_pos (by omega)]; rfl
                    go_wp2
                    go_meet
                    case rel => exact ⟨rfl, by rw [hexv]⟩
                  · have t8 : ((mode : Int) == 8) = false := by simp; omega
                    have t9 : ((mode : Int) == 9) = true := by simp; omega
                    have t10 : ((mode : Int) == 10) = false := by simp; omega
                    have hexv : decide (ex = 1) = false := by rw [← HEX.out]; unfold extra; rw [if_neg (by omega)]; rfl
                    go_wp2
                    go_meet
                    case rel => exact ⟨rfl, by rw [hexv]⟩
                  · have t8 : ((mode : Int) == 8) = false := by simp; omega
                    have t9 : ((mode : Int) == 9) = false := by simp; omega
                    have t10 : ((mode : Int) == 10) = true := by simp; omega
                    have hexv : decide (ex = 1) = true := by rw [← HEX.out]; unfold extra; rw [if_pos (by omega)]; rfl
                    go_wp2
                    go_meet
                    case rel => exact ⟨rfl, by rw [hexv]⟩
                  · have t8 : ((mode : Int) == 8) = false := by simp; omega
                    have t9 : ((mode : Int) == 9) = false := by simp; omega
                    have t10 : ((mode : Int) == 10) = false := by simp; omega
                    have hexv : decide (ex = 1) = false := by rw [← HEX.out]; unfold extra; rw [if_neg (by omega)]; rfl
                    go_wp2
                    go_meet
                    case rel => exact ⟨rfl, by rw [hexv]⟩
              case rest =>
                obtain ⟨hw12, hs12⟩ := hcut
                subst hw12
                subst hs12
                have hex2 : ex ≤ 1 := by rw [← HEX.out]; unfold extra; split <;> omega
                have hgo := rsubframe wc b s n (h.bits + ex) σ' hs (by omega) hn1' (by omega) (by omega) hst
                go_upto_if 123 with fail
                go_cut [13] (fun s13 wx => wx = wc ∧ s13 = .int .i64 ((h.bits + ex : Nat) : Int))
                case first =>
                  rcases (show ex < 1 ∨ 1 ≤ ex by omega) with hexa | hexa
                  · have hexv : decide (ex = 1) = false := decide_eq_false (by omega)
                    go_wp2
                    go_meet
                    case rel => exact ⟨rfl, by rw [show ex = 0 by omega]; rfl⟩
                  · have hexv : decide (ex = 1) = true := decide_eq_true (by omega)
                    go_wp2
                    go_meet
                    case rel => exact ⟨rfl, by rw [show ex = 1 by omega]; rfl⟩
                case rest =>
                  obtain ⟨hw13, hs13⟩ := hcut
                  subst hw13
                  subst hs13
                  go_wp2_with fail
                  refine hgo.mono ?_
                  rintro e w9 ⟨v9, xs9, σ9, rfl, hown9, hab9, hg9, hst9, hends9⟩
                  obtain ⟨a9, c9, rfl⟩ := own_slice hown9
                  have hboxlt := hbox.lt
                  have hsubs9 := hsubs.kept hg9 (by omega)
                  have hvl2 : vs.length ≤ 2 := by have := HVL.out; omega
                  clear hgo
                  go_wp2_with (first
                    | (at_builtin; refine wpList_append_lies _ rfl _ _ 24 rfl (w.heap.size + 1) 30 i0 (.slice none 0 0) 1 24 Try.underlying24 hi hz0 hz1 hz2 rfl (by decide) _ _ _ rfl (World.ownsRow.alloc hsubs9.row _) ⟨w9.heap.size, 0, none⟩ 1 1 [.slice a9 xs9.length c9] rfl rfl ?c1 ?c2 ?c6 ?c3 ?c4 ?c5 _ rfl ?_))
                  case c1 => exact one_newV _ _ _
                  case c2 => intro u hu; simp at hu; subst hu; rfl
                  case c6 => omega
                  case c3 => unfold maxLen; omega
                  case c4 => omega
                  case c5 => have := hg9.size; simp; omega
                  intro g' cap' w10 hrow' hgrow hat hglt
                  have hlvlt : ∀ q, Value.ownBlock u11 = some q → w.heap.size + 1 ≤ q ∧ q < w9.heap.size := fun q hq => World.ownsRow.lt hsubs9.row q hq
                  have hgrow2 := grown_from_alloc hgrow (fun g hg' => (hlvlt g hg').2)
                  have hg10 : w.grownBy w10 (some b) := grown_own (grown_trans hgr hg9) hgrow2 (fun g hg' => by have := (hlvlt g hg').1; omega)
                  have hst10 := hst9.kept hgrow2 (fun e => by have := (hlvlt b e.symm).1; omega)
                  have hbox10 := (hbox.kept hg9 hbb).kept hgrow2 (fun e => by have := (hlvlt _ e.symm).1; omega)
                  have hsubs10 := Subs.snoc hsubs (w1 := w9.alloc (.cells #[.slice a9 xs9.length c9] 30)) (by have := hg9.size; simp; omega) (hsubs9.kept (grown_alloc (grown_refl _ (some b)) _) (by omega)) (hown9.alloc _) (by omega) hgrow hat (by simp) hrow'
                  have habs10 : ∀ xs ∈ xss ++ [xs9], Abs 4294967296 xs := by
                    intro xs hx
                    rcases List.mem_append.1 hx with hx | hx
                    · exact habs xs hx
                    · rw [List.mem_singleton.1 hx]; exact hab9
                  have hup10 := hup.next hlt (by rw [HEX.out]; exact hends9)
                  have hvl10 : (vs ++ [Value.slice a9 xs9.length c9]).length = k + 1 := by rw [List.length_append, List.length_singleton, HVL.out]
                  clear hrow' hgrow hgrow2 hsubs hsubs9 hown9 hst hst9 hbox hat hx2 hx3
                  go_wp2
                  go_roundg (gk - 1)
                  case measure => omega
                  case rel => exact ⟨k + 1, _, _, σ9, by omega, by omega, by go_num, hvl10, hg10, hst10, hbox10, hsubs10, habs10, hup10⟩
            · obtain rfl : k = ch := by omega
              have hends8 := hup.ends
              rw [← HCH.out] at hends8
              obtain ⟨wo, rfl⟩ : ∃ wo : World, wo = wr := ⟨_, rfl⟩
              clear hup
              go_wp2
              go_loopg [] 8 (fun gq wr => ∃ σ2 : Option (List Bool), w.grownBy wr (some b) ∧ St 86 wr b s σ2 ∧ Box wr w.heap.size #[Value.int .i64 h.block, .int .i64 h.rate, .int .i64 h.channels, .int .i64 h.bits, .int .i64 h.total] 87 ∧
                  Subs wr (w.heap.size + 1) u11 vs xss ∧ ((∃ lc l8 : List Bool, σ' = some lc ∧ σ2 = some l8 ∧ l8.length % 8 ≤ gq ∧ l8.length ≤ lc.length ∧ Hid (∀ σe, Ends (pMust (l8.length % 8) 0) (some l8) () σe → Ends (pMust (lc.length % 8) 0) (some lc) () σe)) ∨ (σ2 = none ∧ pFrame h number bytes = none)))
              case atStart =>
                refine ⟨σ', hgr, hst, hbox, hsubs, ?_⟩
                cases σ' with
                | none => exact .inr ⟨rfl, pFrame_subs_none hhead hends8⟩
                | some lc => exact .inl ⟨lc, lc, rfl, rfl, by omega, Nat.le_refl _, fun σe he => he⟩
              case round =>
                obtain ⟨σ2, hgr2, hst2, hbox2, hsubs2, ⟨lc, l8, rfl, rfl, hq8, hl8, HPAD⟩ | ⟨rfl, hnone⟩⟩ := hrel
                · have hm2 : wr.cell? ⟨b, 2, none⟩ = some (.bool false) := hst2.mark
                  have hat := hst2.at
                  obtain ⟨a, ha⟩ : ∃ a, 8 * s.size - l8.length = a := ⟨_, rfl⟩
                  rw [ha] at hat
                  have hat1 := hat.1
                  have hat2 := hat.2
                  have ha48 : a ≤ 48000 := by omega
                  have HA : Hid (8 * s.size - l8.length = a) := ha
                  clear ha hat
                  rcases (show 0 < l8.length % 8 ∨ l8.length % 8 = 0 by omega) with hq | hq
                  · have ht : ((a : Int) % 8 != 0) = true := by have := HA.out; simp; omega
                    have HQ : Hid (0 < l8.length % 8) := hq
                    clear hq
                    go_wp2_with fail
                    refine (rmustI _ _ _ _ _ 1 0 _ rfl rfl hs (by omega) (by omega) hst2).mono ?_
                    rintro e w11 ⟨σ11, rfl, hg11, hst11, hends11⟩
                    have hgr11 := grown_trans hgr2 hg11
                    have hbox11 := hbox2.kept hg11 hbb
                    have hsubs11 := hsubs2.kept hg11 (by omega)
                    clear hst2 hbox2 hsubs2 hgr2 hm2 hat1
                    go_wp2
                    go_roundg (gk - 1)
                    case measure => have := HQ.out; omega
                    case rel =>
                      refine ⟨σ11, hgr11, hst11, hbox11, hsubs11, ?_⟩
                      cases σ11 with
                      | none =>
                        refine .inr ⟨rfl, pFrame_pad_none hhead hends8 (HPAD.out none ?_)⟩
                        have := HQ.out
                        rw [show l8.length % 8 = (l8.length % 8 - 1) + 1 by omega]
                        exact pad_fail hends11
                      | some l9 =>
                        have hl9 := (must_left hends11).1
                        have hq0 := HQ.out
                        refine .inl ⟨lc, l9, rfl, rfl, by omega, by omega, fun σe he => HPAD.out σe ?_⟩
                        rw [show l8.length % 8 = l9.length % 8 + 1 by omega]
                        exact pad_step hends11 he
                  · have ht : ((a : Int) % 8 != 0) = false := by have := HA.out; simp; omega
                    have hpad : Ends (pMust (lc.length % 8) 0) (some lc) () (some l8) := HPAD.out _ (by rw [hq]; exact Ends.of (must0_zero l8))
                    have HQ : Hid (l8.length % 8 = 0) := hq
                    have hl7 := (Shr.head h number bytes).ends hhead
                    have hlc := (Shr.channels n h.bits mode h.channels 0).ends hends8
                    rw [bitsOf_length, hbl] at hl7
                    obtain ⟨t, rfl⟩ : ∃ t, a = 8 * t := ⟨a / 8, by have := HA.out; omega⟩
                    have htf : f ≤ t := by have := HA.out; omega
                    have hts : t ≤ s.size := by have := HA.out; omega
                    have HTT : Hid (t - f = bytes.length - l8.length / 8) := by
                      show _ = _
                      have := HA.out
                      omega
                    have hstr := hst2.str
                    clear hq HPAD hl7 hlc
                    obtain ⟨cr, hcr0⟩ : ∃ cr, crc 16 32773 (bytes.take (bytes.length - l8.length / 8)) = cr := ⟨_, rfl⟩
                    have hcl : cr ≤ 65536 := by rw [← hcr0]; have := crc_lt 16 32773 (by omega) (by omega) (bytes.take (bytes.length - l8.length / 8)); omega
                    have HCR : Hid (crc 16 32773 (bytes.take (bytes.length - l8.length / 8)) = cr) := hcr0
                    have hcr : ∀ wz, Calls Try.prog 15 #[.string (s.extract f t)] wz fun e w' => e = .returned (.int .i64 (cr : Nat)) ∧ wz = w' := by
                      intro wz
                      refine (refcrc16_any _ wz (by rw [ByteArray.size_extract]; unfold maxLen; omega)).mono ?_
                      rintro e w' ⟨rfl, rfl⟩
                      refine ⟨?_, rfl⟩
                      rw [extract_list, HB.out, HTT.out, hcr0]
                    have HBL : Hid (bytes.length = s.size - f) := hbl
                    clear hcr0 hbl
                    have hi3 : IntKind.i64.wrap (t : Int) = (t : Int) := by rw [IntKind.wrap_i64]; omega
                    have hi1 : (f : Int) ≤ (t : Int) := by omega
                    have hi2 : (t : Int) ≤ (s.size : Int) := by omega
                    have hi0 : (0 : Int) ≤ (t : Int) := by omega
                    go_upto_region 27 with fail
                    go_cut [] (fun wx => ∃ σ12 : Option (List Bool), w.grownBy wx (some b) ∧ St 86 wx b s σ12 ∧ Box wx w.heap.size #[Value.int .i64 h.block, .int .i64 h.rate, .int .i64 h.channels, .int .i64 h.bits, .int .i64 h.total] 87 ∧
                      Subs wx (w.heap.size + 1) u11 vs xss ∧ Ends (pMust 16 cr) (some l8) () σ12)
                    case first =>
                      clear hgr hst hbox hsubs hends8 hhead hpad fin0 habs hx2 hx3 ht
                      go_region_with (first | (go_at_call 15; refine (hcr _).mono ?_; rintro e w' ⟨rfl, rfl⟩) | (go_at_call 63; refine (rmustI _ _ _ _ _ 16 cr _ rfl rfl hs (by omega) hcl hst2.drew).mono ?_; rintro e w12 ⟨σ12, rfl, hg12, hst12, hends12⟩))
                      all_goals
                        go_wp2
                        go_meet
                        case rel => exact ⟨σ12, grown_trans (grown_drew hgr2) hg12, hst12, (hbox2.kept (grown_drew (grown_refl _ none)) (by simp)).kept hg12 hbb, (hsubs2.kept (grown_drew (grown_refl _ (some b))) (by omega)).kept hg12 (by omega), hends12⟩
                    case rest =>
                      obtain ⟨σ12, hgr12, hst12, hbox12, hsubs12, hends12⟩ := hcut
                      rw [← HCR.out] at hends12
                      have hx3 : wc.cell? ⟨w.heap.size, 3, none⟩ = some (.int .i64 h.bits) := hbox12.cell 3
                      clear hst2 hbox2 hsubs2 hgr2 hm2 hat1 hstr hcr hi0 hi1 hi2 hi3
                      have hchan := chan_live hends8
                      have hxl : xss.length = k := by rw [hchan.1, HCH.out]
                      have hchk : h.channels = k := HCH.out
                      have HXL : Hid (xss.length = k ∧ h.channels = k) := ⟨hxl, hchk⟩
                      clear hxl hchk
                      rcases Nat.lt_or_ge mode 8 with hm8 | hm8
                      · go_wp2_with fail
                        refine (rapart_low _ b u11 n h.bits mode hn1' (by omega) hm8).mono ?_
                        rintro e w13 ⟨rfl, hw13⟩
                        subst hw13
                        go_wp2
                        go_ret
                        refine ⟨u11, σ12, rfl, hgr12, hst12, ?_⟩
                        cases σ12 with
                        | none => exact .inl ⟨pFrame_sum_none hhead hends8 hpad hends12, rfl⟩
                        | some l3 =>
                          have hl3 := (must_left hends12).1
                          have hq0 := HQ.out
                          have hxl := HXL.out.1
                          have hchk := HXL.out.2
                          have hlen8 : l3.length ≤ 8 * bytes.length := by
                            have h1 := (Shr.head h number bytes).ends hhead
                            have h2 := (Shr.channels n h.bits mode h.channels 0).ends hends8
                            rw [bitsOf_length] at h1
                            omega
                          have hap : apart mode xss = xss := apart_low hm8 xss n (by omega) (fun j hj => (hchan.2 j (by omega)).1)
                          have hfit : (apart mode xss).all (fun c => c.all (fitsB h.bits)) = true := by
                            rw [hap, List.all_eq_true]
                            intro c hc
                            obtain ⟨j, hj, rfl⟩ := List.getElem_of_mem hc
                            rw [List.all_eq_true]
                            intro x hx
                            have := (hchan.2 j (by omega)).2 x (by simpa [List.getD, List.getElem?_eq_getElem hj] using hx)
                            rw [extra_low hm8] at this
                            exact this
                          refine .inr ⟨xss, bytes.drop (bytes.length - l3.length / 8), ?_, ?_, ?_⟩
                          · rw [pFrame_last hhead hends8 hpad hends12, if_pos hfit, hap]
                          · rw [← bits_suffix s f hf bytes HB.out l3 hst12 (by omega) hlen8]
                          · exact hsubs12.chs (by omega) (by omega) (fun j hj => by rw [(hchan.2 j (by omega)).1]; exact hn1')
                      · have hmh := modeOk_high hm8 HOK.out
                        have hxl := HXL.out.1
                        have hchk := HXL.out.2
                        have hv12 := hsubs12.len
                        obtain ⟨xs0, xs1, hxe⟩ := two_of_length (l := xss) (by omega)
                        obtain ⟨v0, v1, hve⟩ := two_of_length (l := vs) (by omega)
                        have hl0 : xs0.length = n := by have := (hchan.2 0 (by omega)).1; rw [hxe] at this; exact this
                        have hl1 : xs1.length = n := by have := (hchan.2 1 (by omega)).1; rw [hxe] at this; exact this
                        have ha0 : Abs 4294967296 xs0 := habs xs0 (by rw [hxe]; simp)
                        have ha1 : Abs 4294967296 xs1 := habs xs1 (by rw [hxe]; simp)
                        rw [hxe] at hends8
                        rw [hxe, hve] at hsubs12
                        obtain ⟨lg, lcap, hlv, hlgb, hlgw, hcells⟩ := hsubs12.cell (by simp)
                        obtain ⟨g0, cap0, hv0, hrow0⟩ := (hsubs12.own 0 (by simp)).full (by show 1 ≤ xs0.length; omega)
                        obtain ⟨g1, cap1, hv1, hrow1⟩ := (hsubs12.own 1 (by simp)).full (by show 1 ≤ xs1.length; omega)
                        have hc0 := hcells 0 (by simp)
                        have hc1 := hcells 1 (by simp)
                        have hne := hsubs12.apartV 0 1 g0 (by omega) (by simp) (by rw [hv0]; rfl)
                        have hnl0 := hsubs12.apartL 0 g0 (by simp) (by rw [hv0]; rfl)
                        have hnl1 := hsubs12.apartL 1 g1 (by simp) (by rw [hv1]; rfl)
                        rw [hv0] at hc0
                        rw [hv1] at hc1 hne
                        have hc0' : wc.cell? ⟨lg, 0, none⟩ = some (.slice (some ⟨g0, 0, none⟩) n cap0) := by rw [hc0]; show some (Value.slice _ xs0.length _) = _; rw [hl0]
                        have hc1' : wc.cell? ⟨lg, 1, none⟩ = some (.slice (some ⟨g1, 0, none⟩) n cap1) := by rw [hc1]; show some (Value.slice _ xs1.length _) = _; rw [hl1]
                        have hr0 : Row wc (w.heap.size + 1) g0 n cap0 xs0 := by have := hrow0; rw [← hl0]; exact this
                        have hr1 : Row wc (w.heap.size + 1) g1 n cap1 xs1 := by have := hrow1; rw [← hl1]; exact this
                        have hg01 : g0 ≠ g1 := fun e => hne (by rw [e]; rfl)
                        have hlg0 : lg ≠ g0 := fun e => hnl0 (by rw [hlv, e]; rfl)
                        have hlg1 : lg ≠ g1 := fun e => hnl1 (by rw [hlv, e]; rfl)
                        have hlv2 : u11 = .slice (some ⟨lg, 0, none⟩) 2 lcap := hlv
                        have hg0w := hr0.lt
                        have hg1w := hr1.lt
                        have HQ2 := HQ.out
                        have hm10 := hmh.2
                        clear hsubs12 hcells hv0 hv1 hc0 hc1 hne hnl0 hnl1 hrow0 hrow1 hlv hxe hve hv12 hxl hchan HXL hsubs hmh hchk habs
                        rcases σ12 with _ | l3
                        · have HDONE : Hid (pFrame h number bytes = none) := pFrame_sum_none hhead hends8 hpad hends12
                          clear hlv2 hl0 hl1 HQ2 hc0' hc1' ha0 ha1 hends8 hpad hends12 hhead hr0 hr1 hg01 hlg0 hlg1 hg0w hg1w hlgb hlgw
                          go_wp2_with fail
                          refine (rapart_dead _ b s u11 n h.bits mode hn1' (by omega) hm8 hm10 hst12).mono ?_
                          rintro e w13 ⟨rfl, hw13⟩
                          subst hw13
                          go_wp2
                          go_ret
                          exact ⟨_, none, rfl, hgr12, hst12, .inl ⟨HDONE.out, rfl⟩⟩
                        · have hapart := rapart wc b s (w.heap.size + 1) lg lcap g0 g1 n cap0 cap1 h.bits mode xs0 xs1 l3 hs (by omega) (by omega) hb2 hm8 hm10 (by omega) hlgb hc0' hc1' hr0 hr1 hg01 hlg0 hlg1 ha0 ha1 hst12
                          have hfin : ∀ e w13, _ → FramePost w b s h number bytes e w13 := fun e w13 hp => frame_high (lcap := lcap) hf HB.out hblt hgr12 hlgw hhead hends8 hpad HQ2 hends12 hl8 hlgb hlg0 hlg1 hl0 hl1 (by omega) (by omega) hc0' hc1' hp
                          rw [hlv2]
                          clear hends8 hpad hends12 hhead hl0 hl1 hlv2 HQ2 hc0' hc1' ha0 ha1 hr0 hr1 hg01 hlg0 hlg1 hg0w hg1w hlgb hlgw
                          go_wp2_with fail
                          refine hapart.mono ?_
                          intro e w13 hp
                          obtain ⟨σ13, rfl, hp2⟩ := hp
                          have hff := hfin _ w13 ⟨σ13, rfl, hp2⟩
                          clear hfin hp2
                          go_wp2
                          go_ret
                          exact hff
                · have hm2 : wr.cell? ⟨b, 2, none⟩ = some (.bool true) := hst2.mark
                  go_wp2
                  go_ret
                  exact fin0 _ hgr2 hst2 hnone
        · have hno := pFrame_head_none (head_no hends1 hends2 hends3 hends4 hends5 hends6 hends7 (.inl hcnd) (0, 0))
          rcases (show h.block < n1 + 1 ∨ (n1 + 1 ≤ h.block ∧ modeOk h.channels mode = false) by
            rcases Nat.lt_or_ge h.block (n1 + 1) with h1 | h1
            · exact .inl h1
            · refine .inr ⟨h1, ?_⟩
              cases hmo : modeOk h.channels mode with
              | false => rfl
              | true => exact absurd ⟨h1, hmo⟩ hcnd) with hbad | ⟨hbad, hmo⟩
          · go_wp2
            go_ret
            exact fin0 _ (grown_trans hgg7 (grown_set _ _ _ _)) (hst7.kill hs) hno
          · go_wp2
            go_ret
            exact fin0 _ (grown_trans hgg7 (grown_set _ _ _ _)) (hst7.kill hs) hno
end Go.Proofs.Ytncmgnmcggkhnaa
