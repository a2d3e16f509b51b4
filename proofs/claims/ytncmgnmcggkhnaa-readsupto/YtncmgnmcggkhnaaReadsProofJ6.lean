import Derived.Test.YtncmgnmcggkhnaaReadsProofJ5
import Derived.Deep.DeepCutAuto
import Derived.Deep.LoopGhost
import Derived.Test.YtncmgnmcggkhnaaReadsProofJ1
namespace Go.Proofs.Ytncmgnmcggkhnaa
open Go.RowKit

/-- what a frame leaves: lists of the channels in memory of its own -/
def Chs (w : World) (base : Nat) (v : Value) (chs : List (List Int)) : Prop :=
  ∃ lg lcap : Nat, v = .slice (some ⟨lg, 0, none⟩) chs.length lcap ∧ base ≤ lg ∧ ∀ i, i < chs.length → ∃ g cap, w.cell? ⟨lg, i, none⟩ = some (.slice (some ⟨g, 0, none⟩) (chs.getD i []).length cap) ∧ Row w base g (chs.getD i []).length cap (chs.getD i [])

theorem chan_spec (n bits mode : Nat) : ∀ (c i : Nat) (l : List Bool) (xss : List (List Int)) (r : List Bool), pChannels n bits mode c i l = some (xss, r) →
    xss.length = c ∧ ∀ j, j < c → (xss.getD j []).length = n ∧ ∀ x ∈ xss.getD j [], fitsB (bits + extra mode (i + j)) x = true
  | 0, i, l, xss, r, h => by
    have h' : some (([] : List (List Int)), l) = some (xss, r) := h
    injection h' with h'
    injection h' with h1 h2
    subst h1
    exact ⟨rfl, fun j hj => by omega⟩
  | c + 1, i, l, xss, r, h => by
    have h' : ((pSubframe n (bits + extra mode i) l).bind fun (x, r) => (pChannels n bits mode c (i + 1) r).map fun (xs, r') => (x :: xs, r')) = some (xss, r) := h
    obtain ⟨⟨y, r1⟩, hy, h2⟩ := bind_some h'
    obtain ⟨⟨ys, r2⟩, hys, h3⟩ := map_some h2
    injection h3 with h4 h5
    subst h4
    have hs := pSubframe_spec hy
    have hr := chan_spec n bits mode c (i + 1) r1 ys r2 hys
    refine ⟨by rw [List.length_cons, hr.1], fun j hj => ?_⟩
    cases j with
    | zero => exact hs
    | succ j =>
      have := hr.2 j (by omega)
      rw [show i + 1 + j = i + (j + 1) by omega] at this
      simpa using this

theorem chan_live {n bits mode c : Nat} {xss : List (List Int)} {l r : List Bool} (h : Ends (pChannels n bits mode c 0) (some l) xss (some r)) :
    xss.length = c ∧ ∀ j, j < c → (xss.getD j []).length = n ∧ ∀ x ∈ xss.getD j [], fitsB (bits + extra mode j) x = true := by
  rcases h.cases with ⟨r', e, _⟩ | ⟨_, e⟩
  · have := chan_spec n bits mode c 0 l xss r' e
    refine ⟨this.1, fun j hj => ?_⟩
    have := this.2 j hj
    rw [Nat.zero_add] at this
    exact this
  · cases e

theorem pair_low {mode : Nat} (h : mode < 8) (a b : Int) : pair mode a b = (a, b) := by
  unfold pair
  rw [if_neg (by omega), if_neg (by omega), if_neg (by omega)]

theorem zip_low {mode : Nat} (h : mode < 8) : ∀ (xs ys : List Int), xs.length = ys.length → (List.zipWith (pair mode) xs ys).map (·.1) = xs ∧ (List.zipWith (pair mode) xs ys).map (·.2) = ys
  | [], [], _ => ⟨rfl, rfl⟩
  | x :: xs, y :: ys, hl => by
    have := zip_low h xs ys (by simpa using hl)
    rw [List.zipWith_cons_cons, List.map_cons, List.map_cons, this.1, this.2, pair_low h]
    exact ⟨rfl, rfl⟩
  | [], y :: ys, hl => by simp at hl
  | x :: xs, [], hl => by simp at hl

theorem apart_one {mode : Nat} (xss : List (List Int)) (h : xss.length = 1) : apart mode xss = xss := by
  match xss, h with
  | [a], _ => rfl

theorem apart_low {mode : Nat} (hm : mode < 8) (xss : List (List Int)) (n : Nat) (h : xss.length ≤ 2) (hl : ∀ j, j < xss.length → (xss.getD j []).length = n) : apart mode xss = xss := by
  match xss, h, hl with
  | [], _, _ => rfl
  | [a], _, _ => rfl
  | [a, b], _, hl =>
    have h0 : a.length = n := hl 0 (by simp)
    have h1 : b.length = n := hl 1 (by simp)
    have := zip_low hm a b (by omega)
    show [_, _] = _
    rw [this.1, this.2]

theorem extra_low {mode i : Nat} (hm : mode < 8) : extra mode i = 0 := by
  unfold extra
  rw [if_neg (by omega)]

theorem Subs.cell {w : World} {base : Nat} {lv : Value} {vs : List Value} {xss : List (List Int)} (h : Subs w base lv vs xss) (hne : 0 < vs.length) :
    ∃ lg lcap, lv = .slice (some ⟨lg, 0, none⟩) vs.length lcap ∧ base ≤ lg ∧ lg < w.heap.size ∧ ∀ i, i < vs.length → w.cell? ⟨lg, i, none⟩ = some (vs.getD i undef) := by
  obtain ⟨g, cap, hv, hb, hlt⟩ := World.ownsRow.form h.row hne
  refine ⟨g, cap, hv, hb, hlt, fun i hi => ?_⟩
  have hr := h.row
  rw [hv] at hr
  have e := World.ownsRow.cellAt hr i (by omega)
  rw [e, List.getElem?_eq_getElem hi]
  simp [List.getD, List.getElem?_eq_getElem hi]

theorem Own.full {w : World} {base : Nat} {v : Value} {xs : List Int} (h : Own w base v xs) (hn : 1 ≤ xs.length) : ∃ g cap, v = .slice (some ⟨g, 0, none⟩) xs.length cap ∧ Row w base g xs.length cap xs := by
  rcases h.row with ⟨_, rfl⟩ | h
  · simp at hn
  · exact h

theorem Subs.chs {w : World} {base base' : Nat} {lv : Value} {vs : List Value} {xss : List (List Int)} (h : Subs w base lv vs xss) (hb : base' ≤ base) (hne : 0 < xss.length) (hl : ∀ j, j < xss.length → 1 ≤ (xss.getD j []).length) : Chs w base' lv xss := by
  have hlen := h.len
  obtain ⟨lg, lcap, hv, hlb, _, hc⟩ := h.cell (by omega)
  refine ⟨lg, lcap, by rw [hv, hlen], by omega, fun i hi => ?_⟩
  obtain ⟨g, cap, hvi, hrow⟩ := (h.own i (by omega)).full (hl i hi)
  exact ⟨g, cap, by rw [hc i (by omega), hvi], hrow.mono hb⟩

set_option maxHeartbeats 400000 in
theorem rapart_low (w : World) (b : Nat) (lv : Value) (n bits mode : Nat) (hn1 : 1 ≤ n) (_hn : n ≤ 256) (hm : mode < 8) :
    Calls Try.prog 67 #[.pointer (some ⟨b, 0, none⟩), lv, .int .i64 mode, .int .i64 bits, .int .i64 n] w fun e w' => e = .returned lv ∧ w' = w := by
  go_enter Try.func67, Try.ntmps67
  go_wp2
  go_loop [11] (fun i => i = .int .i64 0) (fun _ => 0)
  case atStart => exact rfl
  case round =>
    subst hrel
    go_wp2
    go_ret
    exact ⟨rfl, rfl⟩

set_option maxHeartbeats 400000 in
theorem rapart_dead (w : World) (b : Nat) (s : ByteArray) (lv : Value) (n bits mode : Nat) (hn1 : 1 ≤ n) (_hn : n ≤ 256) (hm : 8 ≤ mode) (hm2 : mode ≤ 10) (h : St 86 w b s none) :
    Calls Try.prog 67 #[.pointer (some ⟨b, 0, none⟩), lv, .int .i64 mode, .int .i64 bits, .int .i64 n] w fun e w' => e = .returned lv ∧ w' = w := by
  have hm' : w.cell? ⟨b, 2, none⟩ = some (.bool true) := h.mark
  go_enter Try.func67, Try.ntmps67
  go_wp2
  go_loop [11] (fun i => i = .int .i64 0) (fun _ => 0)
  case atStart => exact rfl
  case round =>
    subst hrel
    go_wp2
    go_ret
    exact ⟨rfl, rfl⟩

/-- all channels, of what apart leaves -/
theorem fits_iff (bits n : Nat) (A B : List Int) (hA : A.length = n) (hB : B.length = n) : ([A, B].all (fun c => c.all (fitsB bits)) = true) ↔ fitUpto bits A B n := by
  simp only [List.all_cons, List.all_nil, Bool.and_true, Bool.and_eq_true, List.all_eq_true]
  constructor
  · intro h j hj
    constructor
    · exact h.1 _ (by simp only [List.getD, List.getElem?_eq_getElem (show j < A.length by omega), Option.getD_some]; exact List.getElem_mem _)
    · exact h.2 _ (by simp only [List.getD, List.getElem?_eq_getElem (show j < B.length by omega), Option.getD_some]; exact List.getElem_mem _)
  · intro h
    constructor
    · intro x hx
      obtain ⟨j, hj, rfl⟩ := List.getElem_of_mem hx
      have := (h j (by omega)).1
      simpa [List.getD, List.getElem?_eq_getElem hj] using this
    · intro x hx
      obtain ⟨j, hj, rfl⟩ := List.getElem_of_mem hx
      have := (h j (by omega)).2
      simpa [List.getD, List.getElem?_eq_getElem hj] using this

/-- bits that are left at a byte's end are the bytes that are left -/
theorem bits_suffix (s : ByteArray) (f : Nat) (hf : f ≤ s.size) (bytes : List UInt8) (hb : s.data.toList.drop f = bytes) (l : List Bool) {t : TypeId} {w : World} {b : Nat} (h : St t w b s (some l)) (h8 : l.length % 8 = 0) (hle : l.length ≤ 8 * bytes.length) :
    l = bitsOf (bytes.drop (bytes.length - l.length / 8)) := by
  obtain ⟨a, ha, hl, _⟩ := h
  have hlen : l.length = 8 * s.size - a := by rw [hl, List.length_drop, total_bits]
  have hbl : bytes.length = s.size - f := by rw [← hb, List.length_drop]; simp
  rw [← hb, List.drop_drop]
  have e : a = 8 * (f + (List.length (s.data.toList.drop f) - l.length / 8)) := by
    rw [hb, hbl]
    omega
  conv => lhs; rw [hl, e]
  rw [bitsOf_drop]

end Go.Proofs.Ytncmgnmcggkhnaa

namespace Go.Proofs.Ytncmgnmcggkhnaa
open Go.RowKit

/-- a list of ints that can be read -/
def Ls (w : World) (v : Value) (xs : List Int) : Prop :=
  (v = .slice none 0 0 ∧ xs = []) ∨ ∃ g cap, v = .slice (some ⟨g, 0, none⟩) xs.length cap ∧ ∀ i, i < xs.length → w.cell? ⟨g, i, none⟩ = some (.int .i64 (xs.getD i 0))

theorem Own.ls {w : World} {base : Nat} {v : Value} {xs : List Int} (h : Own w base v xs) : Ls w v xs := by
  rcases h.row with ⟨h1, h2⟩ | ⟨g, cap, hv, hr⟩
  · exact .inl ⟨h1, h2⟩
  · exact .inr ⟨g, cap, hv, fun i hi => hr.cell i hi⟩

theorem Ls.slice {w : World} {v : Value} {xs : List Int} (h : Ls w v xs) : ∃ a c, v = .slice a xs.length c := by
  rcases h with ⟨rfl, rfl⟩ | ⟨g, cap, rfl, _⟩
  · exact ⟨none, 0, rfl⟩
  · exact ⟨_, cap, rfl⟩

theorem take_eq_succ (xs ys : List Int) (k : Nat) (h1 : k < xs.length) (h2 : k < ys.length) (h : xs.take k = ys.take k) (he : xs.getD k 0 = ys.getD k 0) : xs.take (k + 1) = ys.take (k + 1) := by
  rw [List.take_succ_eq_append_getElem h1, List.take_succ_eq_append_getElem h2, h]
  simp only [List.getD, List.getElem?_eq_getElem h1, List.getElem?_eq_getElem h2, Option.getD_some] at he
  rw [he]

set_option maxHeartbeats 1000000 in
set_option maxRecDepth 20000 in
theorem same_ints (w : World) (v1 v2 : Value) (xs ys : List Int) (h1 : Ls w v1 xs) (h2 : Ls w v2 ys) (hx : xs.length ≤ 1099511627776) (hy : ys.length ≤ 1099511627776) :
    Calls Try.prog 68 #[v1, v2] w fun e w' => e = .returned (.bool (decide (xs = ys))) ∧ ∃ d, w' = w.drewN d := by
  obtain ⟨a1, c1, rfl⟩ := h1.slice
  obtain ⟨a2, c2, rfl⟩ := h2.slice
  obtain ⟨n, hn⟩ : ∃ n, xs.length = n := ⟨_, rfl⟩
  obtain ⟨m, hm⟩ : ∃ m, ys.length = m := ⟨_, rfl⟩
  rw [hn] at hx
  rw [hm] at hy
  by_cases hnm : n = m
  · subst hnm
    rw [hn, hm]
    rcases Nat.eq_zero_or_pos n with rfl | hpos
    · have hx0 : xs = [] := List.eq_nil_of_length_eq_zero hn
      have hy0 : ys = [] := List.eq_nil_of_length_eq_zero hm
      have e : decide (xs = ys) = true := decide_eq_true (by rw [hx0, hy0])
      rw [e]
      clear e hx0 hy0 hn hm h1 h2
      go_enter Try.func68, Try.ntmps68
      go_wp2
      go_loop [5] (fun i => i = .int .i64 0) (fun _ => 0)
      case atStart => exact rfl
      case round =>
        subst hrel
        go_wp2
        go_ret
        exact ⟨rfl, 0, rfl⟩
    · rcases h1 with ⟨_, hx0⟩ | ⟨g1, cap1, he1, hc1⟩
      · rw [hx0] at hn; simp at hn; omega
      rcases h2 with ⟨_, hy0⟩ | ⟨g2, cap2, he2, hc2⟩
      · rw [hy0] at hm; simp at hm; omega
      injection he1 with ha1 _ hcp1
      injection he2 with ha2 _ hcp2
      subst ha1 hcp1 ha2 hcp2
      rw [hn] at hc1
      rw [hm] at hc2
      have HL : Hid (xs.length = n ∧ ys.length = n) := ⟨hn, hm⟩
      have HC : Hid ((∀ i, i < n → w.cell? ⟨g1, i, none⟩ = some (.int .i64 (xs.getD i 0))) ∧ (∀ i, i < n → w.cell? ⟨g2, i, none⟩ = some (.int .i64 (ys.getD i 0)))) := ⟨hc1, hc2⟩
      clear hc1 hc2 hn hm
      go_enter Try.func68, Try.ntmps68
      go_wp2
      go_loopw [5] (fun i wr => ∃ k : Nat, k ≤ n ∧ i = .int .i64 k ∧ (∃ d, wr = w.drewN d) ∧ Hid (xs.take k = ys.take k)) (fun i _ => n - (intOf i).toNat)
      case atStart => exact ⟨0, Nat.zero_le _, rfl, ⟨0, rfl⟩, (rfl : _ = _)⟩
      case round =>
        obtain ⟨k, hk, rfl, ⟨d, rfl⟩, HT⟩ := hrel
        by_cases hlt : k < n
        · obtain ⟨x, hxv⟩ : ∃ x, xs.getD k 0 = x := ⟨_, rfl⟩
          obtain ⟨y, hyv⟩ : ∃ y, ys.getD k 0 = y := ⟨_, rfl⟩
          have hcx : w.cell? ⟨g1, k, none⟩ = some (.int .i64 x) := by rw [HC.out.1 k hlt, hxv]
          have hcy : w.cell? ⟨g2, k, none⟩ = some (.int .i64 y) := by rw [HC.out.2 k hlt, hyv]
          have HX : Hid (xs.getD k 0 = x ∧ ys.getD k 0 = y) := ⟨hxv, hyv⟩
          clear hxv hyv
          have hlt' : (k : Int) < (n : Int) := by omega
          by_cases hxy : x = y
          · subst hxy
            go_wp2
            go_quiet (fail)
            go_wp2
            go_roundw
            case rel => exact ⟨k + 1, by omega, by go_num, ⟨d + nq, rfl⟩, (take_eq_succ xs ys k (by have := HL.out.1; omega) (by have := HL.out.2; omega) HT.out (by rw [HX.out.1, HX.out.2]) : _ = _)⟩
            case measure => simp [intOf]; omega
          · have hb : (x != y) = true := by simpa using hxy
            have e : Hid (decide (xs = ys) = false) := (decide_eq_false (fun h => hxy (by rw [← HX.out.1, ← HX.out.2, h])) : _ = _)
            clear hxy
            go_wp2
            go_quiet (fail)
            go_wp2
            go_ret
            exact ⟨by rw [e.out]; rfl, d + nq, by rw [World.drewN_drewN]⟩
        · obtain rfl : k = n := by omega
          have e : Hid (decide (xs = ys) = true) := (decide_eq_true (by
            have := HT.out
            rw [List.take_of_length_le (by have := HL.out.1; omega), List.take_of_length_le (by have := HL.out.2; omega)] at this
            exact this) : _ = _)
          go_wp2
          go_ret
          exact ⟨by rw [e.out]; rfl, d, rfl⟩
  · have e : decide (xs = ys) = false := decide_eq_false (fun h => hnm (by rw [← hn, ← hm, h]))
    rw [e, hn, hm]
    clear e hn hm
    have hb : ((n : Int) != (m : Int)) = true := by rw [ne_cast]; simpa using hnm
    clear hnm
    go_enter Try.func68, Try.ntmps68
    go_wp2
    go_ret
    exact ⟨rfl, 0, rfl⟩
end Go.Proofs.Ytncmgnmcggkhnaa

namespace Go.Proofs.Ytncmgnmcggkhnaa
open Go.RowKit

/-- a list of lists of ints that can be read -/
def Ls2 (w : World) (v : Value) (xss : List (List Int)) : Prop :=
  (v = .slice none 0 0 ∧ xss = []) ∨ ∃ g cap, v = .slice (some ⟨g, 0, none⟩) xss.length cap ∧ ∀ i, i < xss.length → ∃ u, w.cell? ⟨g, i, none⟩ = some u ∧ Ls w u (xss.getD i [])

theorem Ls2.slice {w : World} {v : Value} {xs : List (List Int)} (h : Ls2 w v xs) : ∃ a c, v = .slice a xs.length c := by
  rcases h with ⟨rfl, rfl⟩ | ⟨g, cap, rfl, _⟩
  · exact ⟨none, 0, rfl⟩
  · exact ⟨_, cap, rfl⟩

theorem Ls.drew {w : World} {v : Value} {xs : List Int} (h : Ls w v xs) (d : Nat) : Ls (w.drewN d) v xs := by
  rcases h with h | ⟨g, cap, hv, hc⟩
  · exact .inl h
  · exact .inr ⟨g, cap, hv, fun i hi => by rw [World.cell?_drewN]; exact hc i hi⟩

theorem take_eq_succ2 (xs ys : List (List Int)) (k : Nat) (h1 : k < xs.length) (h2 : k < ys.length) (h : xs.take k = ys.take k) (he : xs.getD k [] = ys.getD k []) : xs.take (k + 1) = ys.take (k + 1) := by
  rw [List.take_succ_eq_append_getElem h1, List.take_succ_eq_append_getElem h2, h]
  simp only [List.getD, List.getElem?_eq_getElem h1, List.getElem?_eq_getElem h2, Option.getD_some] at he
  rw [he]

set_option maxHeartbeats 1000000 in
set_option maxRecDepth 20000 in
theorem same_lists (w : World) (v1 v2 : Value) (xs ys : List (List Int)) (h1 : Ls2 w v1 xs) (h2 : Ls2 w v2 ys) (hx : xs.length ≤ 1099511627776) (hy : ys.length ≤ 1099511627776)
    (hxl : ∀ i, i < xs.length → (xs.getD i []).length ≤ 1099511627776) (hyl : ∀ i, i < ys.length → (ys.getD i []).length ≤ 1099511627776) :
    Calls Try.prog 46 #[v1, v2] w fun e w' => e = .returned (.bool (decide (xs = ys))) ∧ ∃ d, w' = w.drewN d := by
  obtain ⟨a1, c1, rfl⟩ := h1.slice
  obtain ⟨a2, c2, rfl⟩ := h2.slice
  obtain ⟨n, hn⟩ : ∃ n, xs.length = n := ⟨_, rfl⟩
  obtain ⟨m, hm⟩ : ∃ m, ys.length = m := ⟨_, rfl⟩
  rw [hn] at hx hxl
  rw [hm] at hy hyl
  by_cases hnm : n = m
  · subst hnm
    rw [hn, hm]
    rcases Nat.eq_zero_or_pos n with rfl | hpos
    · have hx0 : xs = [] := List.eq_nil_of_length_eq_zero hn
      have hy0 : ys = [] := List.eq_nil_of_length_eq_zero hm
      have e : decide (xs = ys) = true := decide_eq_true (by rw [hx0, hy0])
      rw [e]
      clear e hx0 hy0 hn hm h1 h2 hxl hyl
      go_enter Try.func46, Try.ntmps46
      go_wp2
      go_loop [5] (fun i => i = .int .i64 0) (fun _ => 0)
      case atStart => exact rfl
      case round =>
        subst hrel
        go_wp2
        go_ret
        exact ⟨rfl, 0, rfl⟩
    · rcases h1 with ⟨_, hx0⟩ | ⟨g1, cap1, he1, hc1⟩
      · rw [hx0] at hn; simp at hn; omega
      rcases h2 with ⟨_, hy0⟩ | ⟨g2, cap2, he2, hc2⟩
      · rw [hy0] at hm; simp at hm; omega
      injection he1 with ha1 _ hcp1
      injection he2 with ha2 _ hcp2
      subst ha1 hcp1 ha2 hcp2
      rw [hn] at hc1
      rw [hm] at hc2
      have HL : Hid (xs.length = n ∧ ys.length = n) := ⟨hn, hm⟩
      have HC : Hid ((∀ i, i < n → ∃ u, w.cell? ⟨g1, i, none⟩ = some u ∧ Ls w u (xs.getD i [])) ∧ (∀ i, i < n → ∃ u, w.cell? ⟨g2, i, none⟩ = some u ∧ Ls w u (ys.getD i []))) := ⟨hc1, hc2⟩
      have HB : Hid ((∀ i, i < n → (xs.getD i []).length ≤ 1099511627776) ∧ (∀ i, i < n → (ys.getD i []).length ≤ 1099511627776)) := ⟨hxl, hyl⟩
      clear hc1 hc2 hn hm hxl hyl
      go_enter Try.func46, Try.ntmps46
      go_wp2
      go_loopw [5] (fun i wr => ∃ k : Nat, k ≤ n ∧ i = .int .i64 k ∧ (∃ d, wr = w.drewN d) ∧ Hid (xs.take k = ys.take k)) (fun i _ => n - (intOf i).toNat)
      case atStart => exact ⟨0, Nat.zero_le _, rfl, ⟨0, rfl⟩, (rfl : _ = _)⟩
      case round =>
        obtain ⟨k, hk, rfl, ⟨d, rfl⟩, HT⟩ := hrel
        generalize hwz : w.drewN d = wz
        replace hwz := hwz.symm
        have HW : Hid (wz = w.drewN d) := hwz
        by_cases hlt : k < n
        · obtain ⟨u1, hcx, hu1⟩ := HC.out.1 k hlt
          obtain ⟨u2, hcy, hu2⟩ := HC.out.2 k hlt
          rw [← World.cell?_drewN (n := d), ← hwz] at hcx hcy
          replace hu1 := hu1.drew d
          replace hu2 := hu2.drew d
          rw [← hwz] at hu1 hu2
          clear hwz
          have hlt' : (k : Int) < (n : Int) := by omega
          have HS : ∀ d', Calls Try.prog 68 #[u1, u2] (wz.drewN d') fun e w' => e = .returned (.bool (decide (xs.getD k [] = ys.getD k []))) ∧ ∃ m, w' = (wz.drewN d').drewN m :=
            fun d' => same_ints _ _ _ _ _ (hu1.drew d') (hu2.drew d') (HB.out.1 k hlt) (HB.out.2 k hlt)
          clear hu1 hu2
          by_cases hxy : xs.getD k [] = ys.getD k []
          · have HX : Hid (xs.getD k [] = ys.getD k []) := hxy
            rw [decide_eq_true hxy] at HS
            clear hxy
            go_wp2_with fail
            go_quiet ((go_at_call 68; exact Calls.quiet_of (HS _)))
            go_wp2
            go_roundw
            case rel => exact ⟨k + 1, by omega, by go_num, ⟨d + nq, by rw [HW.out, World.drewN_drewN]⟩, (take_eq_succ2 xs ys k (by have := HL.out.1; omega) (by have := HL.out.2; omega) HT.out HX.out : _ = _)⟩
            case measure => simp [intOf]; omega
          · have e : Hid (decide (xs = ys) = false) := (decide_eq_false (fun h => hxy (by rw [h])) : _ = _)
            rw [decide_eq_false hxy] at HS
            clear hxy
            go_wp2_with fail
            go_quiet ((go_at_call 68; exact Calls.quiet_of (HS _)))
            go_wp2
            go_ret
            exact ⟨by rw [e.out]; rfl, d + nq, by rw [HW.out, World.drewN_drewN]⟩
        · clear hwz
          obtain rfl : k = n := by omega
          have e : Hid (decide (xs = ys) = true) := (decide_eq_true (by
            have := HT.out
            rw [List.take_of_length_le (by have := HL.out.1; omega), List.take_of_length_le (by have := HL.out.2; omega)] at this
            exact this) : _ = _)
          go_wp2
          go_ret
          exact ⟨by rw [e.out]; rfl, d, HW.out⟩
  · have e : decide (xs = ys) = false := decide_eq_false (fun h => hnm (by rw [← hn, ← hm, h]))
    rw [e, hn, hm]
    clear e hn hm
    have hb : ((n : Int) != (m : Int)) = true := by rw [ne_cast]; simpa using hnm
    clear hnm
    go_enter Try.func46, Try.ntmps46
    go_wp2
    go_ret
    exact ⟨rfl, 0, rfl⟩
end Go.Proofs.Ytncmgnmcggkhnaa

namespace Go.Proofs.Ytncmgnmcggkhnaa
open Go.RowKit

/-- a block that is known whole -/
def Box (w : World) (g : Nat) (cs : Array Value) (t : TypeId) : Prop := w.heap[g]? = some (.cells cs t (0, 0))

theorem Box.lt {w : World} {g : Nat} {cs : Array Value} {t : TypeId} (h : Box w g cs t) : g < w.heap.size := by
  rcases Nat.lt_or_ge g w.heap.size with h1 | h1
  · exact h1
  · unfold Box at h
    rw [Array.getElem?_eq_none h1] at h
    cases h
theorem Box.kept {w w' : World} {g : Nat} {cs : Array Value} {t : TypeId} {row : Option Nat} (h : Box w g cs t) (hg : w.grownBy w' row) (hne : some g ≠ row) : Box w' g cs t := by
  unfold Box at *
  rw [hg.block g (Box.lt h) hne, h]
theorem Box.cell {w : World} {g : Nat} {cs : Array Value} {t : TypeId} (h : Box w g cs t) (i : Nat) : w.cell? ⟨g, i, none⟩ = cs[i]? := by
  unfold Box at h
  simp [World.cell?, h]
theorem Box.new (w : World) (cs : Array Value) (t : TypeId) : Box (w.alloc (.cells cs t)) w.heap.size cs t := by
  show (w.heap.push _)[w.heap.size]? = _
  simp

theorem Box.set {w : World} {g : Nat} {cs : Array Value} {t : TypeId} (h : Box w g cs t) (i : Nat) (v : Value) : Box (w.setCell ⟨g, i, none⟩ v) g (cs.setIfInBounds i v) t :=
  heap_setCell_own w g i v cs t (0, 0) h
theorem Box.fz {w : World} {g : Nat} {cs : Array Value} {t : TypeId} (h : Box w g cs t) (i : Nat) : w.frozen? ⟨g, i, none⟩ = false := by
  unfold Box at h
  simp [World.frozen?, h]

end Go.Proofs.Ytncmgnmcggkhnaa

namespace Go.Proofs.Ytncmgnmcggkhnaa
open Go.RowKit

/-- a sound as a value -/
def soundV (rate bits : Int) (v : Value) : Value := .agg #[.int .i64 rate, .int .i64 bits, v]

theorem cell_kept {w w' : World} {a : Addr} {u : Value} (h : w.cell? a = some u) (hg : w.grownBy w' none) : w'.cell? a = some u := by
  rw [← h]
  unfold World.cell?
  rw [hg.block a.block (World.block_lt_of_cell? w a h) (by simp)]

theorem Ls.kept {w w' : World} {v : Value} {xs : List Int} (h : Ls w v xs) (hg : w.grownBy w' none) : Ls w' v xs := by
  rcases h with h | ⟨g, cap, hv, hc⟩
  · exact .inl h
  · exact .inr ⟨g, cap, hv, fun i hi => cell_kept (hc i hi) hg⟩

theorem Ls2.kept {w w' : World} {v : Value} {xs : List (List Int)} (h : Ls2 w v xs) (hg : w.grownBy w' none) : Ls2 w' v xs := by
  rcases h with h | ⟨g, cap, hv, hc⟩
  · exact .inl h
  · exact .inr ⟨g, cap, hv, fun i hi => by obtain ⟨u, hu, hl⟩ := hc i hi; exact ⟨u, cell_kept hu hg, hl.kept hg⟩⟩

set_option maxHeartbeats 1000000 in
set_option maxRecDepth 20000 in
theorem same_sound (w : World) (v1 v2 : Value) (r1 b1 r2 b2 : Int) (xs ys : List (List Int)) (h1 : Ls2 w v1 xs) (h2 : Ls2 w v2 ys) (hx : xs.length ≤ 1099511627776) (hy : ys.length ≤ 1099511627776)
    (hxl : ∀ i, i < xs.length → (xs.getD i []).length ≤ 1099511627776) (hyl : ∀ i, i < ys.length → (ys.getD i []).length ≤ 1099511627776) :
    Calls Try.prog 18 #[soundV r1 b1 v1, soundV r2 b2 v2] w fun e w' => e = .returned (.bool (decide (xs = ys) && (r1 == r2) && (b1 == b2))) ∧ w.grownBy w' none := by
  have hg : w.grownBy ((w.alloc (Obj.cells #[Value.int .i64 r1, Value.int .i64 b1, v1] 26)).alloc (Obj.cells #[Value.int .i64 r2, Value.int .i64 b2, v2] 26)) none := grown_alloc (grown_alloc (grown_refl w none) _) _
  have HS := same_lists _ v1 v2 xs ys (h1.kept hg) (h2.kept hg) hx hy hxl hyl
  have HX1 := Box.new w #[Value.int .i64 r1, Value.int .i64 b1, v1] 26
  have HX2 := Box.new (w.alloc (Obj.cells #[Value.int .i64 r1, Value.int .i64 b1, v1] 26)) #[Value.int .i64 r2, Value.int .i64 b2, v2] 26
  replace HX1 := HX1.kept (grown_alloc (grown_refl _ none) (Obj.cells #[Value.int .i64 r2, Value.int .i64 b2, v2] 26)) (by simp)
  have hsz : (w.alloc (Obj.cells #[Value.int .i64 r1, Value.int .i64 b1, v1] 26)).heap.size = w.heap.size + 1 := by simp
  rw [hsz] at HX2
  clear h1 h2 hx hy hxl hyl hsz
  unfold soundV
  go_enter Try.func18, Try.ntmps18
  go_wp2_with fail
  refine HS.mono ?_
  rintro e w1 ⟨rfl, d, rfl⟩
  clear HS
  revert HX1 HX2 hg
  generalize (w.alloc (Obj.cells #[Value.int .i64 r1, Value.int .i64 b1, v1] 26)).alloc (Obj.cells #[Value.int .i64 r2, Value.int .i64 b2, v2] 26) = w0
  intro hg HX2 HX1
  have hc10 : w0.cell? ⟨w.heap.size, 0, none⟩ = some (.int .i64 r1) := HX1.cell 0
  have hc11 : w0.cell? ⟨w.heap.size, 1, none⟩ = some (.int .i64 b1) := HX1.cell 1
  have hc20 : w0.cell? ⟨w.heap.size + 1, 0, none⟩ = some (.int .i64 r2) := HX2.cell 0
  have hc21 : w0.cell? ⟨w.heap.size + 1, 1, none⟩ = some (.int .i64 b2) := HX2.cell 1
  have HG : Hid (w.grownBy w0 none) := hg
  clear HX1 HX2 hg
  obtain ⟨q1, he⟩ : ∃ q, decide (xs = ys) = q := ⟨_, rfl⟩
  obtain ⟨q2, hr⟩ : ∃ q, (r1 == r2) = q := ⟨_, rfl⟩
  rw [he]
  have HE : Hid (decide (xs = ys) = q1 ∧ (r1 == r2) = q2) := ⟨he, hr⟩
  clear he
  cases q1
  · go_wp2
    go_ret
    exact ⟨by rw [HE.out.1, HE.out.2]; simp, grown_drewN HG.out _⟩
  · cases q2
    · go_wp2
      go_ret
      exact ⟨by rw [HE.out.1, HE.out.2]; simp, grown_drewN HG.out _⟩
    · go_wp2
      go_ret
      exact ⟨by rw [HE.out.1, HE.out.2]; simp, grown_drewN HG.out _⟩
end Go.Proofs.Ytncmgnmcggkhnaa

namespace Go.Proofs.Ytncmgnmcggkhnaa
open Go.RowKit

/-- a list of one number only -/
def Mk (w : World) (v : Value) (m : Int) : Prop :=
  ∃ (a : Option Addr) (n c : Nat), n ≤ 1099511627776 ∧ v = .slice a n c ∧ ∀ j, j < n → ∃ g, a = some ⟨g, 0, none⟩ ∧ w.cell? ⟨g, j, none⟩ = some (.int .i64 m)

/-- a list of lists of one number each -/
def Mk2 (w : World) (v : Value) (m : Int) : Prop :=
  ∃ (a : Option Addr) (n c : Nat), n ≤ 1099511627776 ∧ v = .slice a n c ∧ ∀ j, j < n → ∃ g gm cm, a = some ⟨g, 0, none⟩ ∧ w.cell? ⟨g, j, none⟩ = some (.slice (some ⟨gm, 0, none⟩) 1 cm) ∧ w.cell? ⟨gm, 0, none⟩ = some (.int .i64 m)

/-- a list of kept things, four of each mark -/
def Shelf (P : Value → Int → Prop) (w : World) (v : Value) (N : Nat) (m0 : Int) : Prop :=
  ∃ (a : Option Addr) (c : Nat), v = .slice a N c ∧ ∀ i, i < N → ∃ g u, a = some ⟨g, 0, none⟩ ∧ w.cell? ⟨g, i, none⟩ = some u ∧ P u (m0 - ((i / 4 : Nat) : Int))

set_option maxHeartbeats 2000000 in
set_option maxRecDepth 20000 in
theorem looks_true (w : World) (b N M : Nat) (iv ov : Value) (hN : N ≤ 1099511627776) (hM : M ≤ 1099511627776) (h0 : w.cell? ⟨b, 0, none⟩ = some iv) (h1 : w.cell? ⟨b, 1, none⟩ = some ov)
    (hi : Shelf (Mk w) w iv N (-1000000)) (ho : Shelf (Mk2 w) w ov M (-2000000)) :
    Calls Try.prog 20 #[.pointer (some ⟨b, 0, none⟩)] w fun e w' => e = .returned (.bool true) ∧ w' = w := by
  obtain ⟨a0, c0, rfl, hi⟩ := hi
  obtain ⟨a1, c1, rfl, ho⟩ := ho
  have HI : Hid _ := hi
  have HO : Hid _ := ho
  clear hi ho
  go_enter Try.func20, Try.ntmps20
  go_wp2_with fail
  go_loopg [3] N (fun gk i wr => ∃ k : Nat, gk + k = N ∧ i = .int .i64 k ∧ wr = w)
  case atStart => exact ⟨0, rfl, rfl, rfl⟩
  case round =>
    obtain ⟨k, hk, rfl, rfl⟩ := hrel
    by_cases hlt : k < N
    · obtain ⟨g, u, rfl, hu, a, n, c, hn, rfl, hc⟩ := HI.out k hlt
      have HC : Hid _ := hc
      have hq : (k : Int).tdiv 4 = ((k / 4 : Nat) : Int) := rfl
      obtain ⟨q, hqq⟩ : ∃ q, k / 4 = q := ⟨_, rfl⟩
      have hqb : q ≤ 1099511627776 := by omega
      rw [hqq] at hq
      have HQ : Hid (k / 4 = q) := hqq
      clear hc hqq
      go_wp2_with fail
      obtain ⟨ko, rfl⟩ : ∃ ko : Nat, ko = gk := ⟨_, rfl⟩
      go_loopg [4] n (fun gq i wq => ∃ j : Nat, gq + j = n ∧ i = .int .i64 j ∧ wq = wr)
      case atStart => exact ⟨0, rfl, rfl, rfl⟩
      case round =>
        obtain ⟨j, hj, rfl, rfl⟩ := hrel
        by_cases hjn : j < n
        · obtain ⟨gg, rfl, hcc⟩ := HC.out j hjn
          rw [HQ.out] at hcc
          have hne : ((-1000000 - (q : Int) : Int) != (-1000000 - (q : Int))) = false := by simp
          go_wp2
          go_roundg (gk - 1)
          case measure => omega
          case rel => exact ⟨j + 1, by omega, by go_num, rfl⟩
        · have tj : decide ((j : Int) < (n : Int)) = false := decide_eq_false (by omega)
          go_wp2
          go_roundg (ko - 1)
          case measure => omega
          case rel => exact ⟨k + 1, by omega, by go_num, rfl⟩
    · have tk : decide ((k : Int) < (N : Int)) = false := decide_eq_false (by omega)
      go_wp2_with fail
      clear tk hlt hk
      go_loopg [5] M (fun gk i wq => ∃ k : Nat, gk + k = M ∧ i = .int .i64 k ∧ wq = wr)
      case atStart => exact ⟨0, rfl, rfl, rfl⟩
      case round =>
        obtain ⟨k, hk, rfl, rfl⟩ := hrel
        by_cases hlt : k < M
        · obtain ⟨g, u, rfl, hu, a, n, c, hn, rfl, hc⟩ := HO.out k hlt
          have HC : Hid _ := hc
          have hq : (k : Int).tdiv 4 = ((k / 4 : Nat) : Int) := rfl
          obtain ⟨q, hqq⟩ : ∃ q, k / 4 = q := ⟨_, rfl⟩
          have hqb : q ≤ 1099511627776 := by omega
          rw [hqq] at hq
          have HQ : Hid (k / 4 = q) := hqq
          clear hc hqq
          go_wp2_with fail
          obtain ⟨ko, rfl⟩ : ∃ ko : Nat, ko = gk := ⟨_, rfl⟩
          go_loopg [6] n (fun gq i wq => ∃ j : Nat, gq + j = n ∧ i = .int .i64 j ∧ wq = wr)
          case atStart => exact ⟨0, rfl, rfl, rfl⟩
          case round =>
            obtain ⟨j, hj, rfl, rfl⟩ := hrel
            by_cases hjn : j < n
            · obtain ⟨gg, gm, cm, rfl, hcc, hcm⟩ := HC.out j hjn
              rw [HQ.out] at hcm
              have hne : ((-2000000 - (q : Int) : Int) != (-2000000 - (q : Int))) = false := by simp
              go_wp2
              go_roundg (gk - 1)
              case measure => omega
              case rel => exact ⟨j + 1, by omega, by go_num, rfl⟩
            · have tj : decide ((j : Int) < (n : Int)) = false := decide_eq_false (by omega)
              go_wp2
              go_roundg (ko - 1)
              case measure => omega
              case rel => exact ⟨k + 1, by omega, by go_num, rfl⟩
        · have tk : decide ((k : Int) < (M : Int)) = false := decide_eq_false (by omega)
          go_wp2
          go_ret
          exact ⟨rfl, rfl⟩
end Go.Proofs.Ytncmgnmcggkhnaa

namespace Go.Proofs.Ytncmgnmcggkhnaa
open Go.RowKit

/-- the program's reader: alive, or at the end with the mark set -/
def Sp (w : World) (b : Nat) (s : ByteArray) : Option (List Bool) → Prop
  | some l => Live 169 w b s l
  | none => Rd 169 w b s (8 * s.size) true

theorem Sp.lt {w : World} {b : Nat} {s : ByteArray} {σ : Option (List Bool)} (h : Sp w b s σ) : b < w.heap.size := by
  cases σ with
  | none => exact Rd.lt h
  | some l => obtain ⟨a, _, _, h⟩ := h; exact h.lt

theorem Sp.kept {w w' : World} {b : Nat} {s : ByteArray} {σ : Option (List Bool)} {row : Option Nat} (h : Sp w b s σ) (hg : w.grownBy w' row) (hne : some b ≠ row) : Sp w' b s σ := by
  cases σ with
  | none => exact Rd.kept h hg hne
  | some l => obtain ⟨a, ha, hl, h⟩ := h; exact ⟨a, ha, hl, h.kept hg hne⟩

theorem Sp.drewN {w : World} {b : Nat} {s : ByteArray} {σ : Option (List Bool)} (h : Sp w b s σ) (n : Nat) : Sp (w.drewN n) b s σ :=
  h.kept (grown_drewN (grown_refl _ none) n) (by simp)

/-- the place, in one form -/
theorem Sp.rd {w : World} {b : Nat} {s : ByteArray} {σ : Option (List Bool)} (h : Sp w b s σ) :
    ∃ a, a ≤ 8 * s.size ∧ Rd 169 w b s a σ.isNone ∧ (σ = none → a = 8 * s.size) ∧ ∀ l, σ = some l → l = (bitsOf s.data.toList).drop a ∧ a + l.length = 8 * s.size := by
  cases σ with
  | none => exact ⟨8 * s.size, Nat.le_refl _, h, fun _ => rfl, fun l e => by cases e⟩
  | some l =>
    obtain ⟨a, ha, hl, h⟩ := h
    refine ⟨a, ha, h, fun e => (by cases e), fun l' e => ?_⟩
    cases e
    refine ⟨hl, ?_⟩
    rw [hl, List.length_drop, total_bits]
    omega

set_option maxHeartbeats 400000 in
theorem qbit_next (w : World) (b : Nat) (s : ByteArray) (a : Nat) (hs : s.size ≤ 6000) (ha : a < 8 * s.size) (h : Rd 169 w b s a false) :
    Calls Try.prog 113 #[.pointer (some ⟨b, 0, none⟩)] w fun e w' => e = .returned (.int .i64 (((bitsOf s.data.toList)[a]'(by rw [total_bits]; exact ha)).toNat : Nat)) ∧ Rd 169 w' b s (a + 1) false ∧ w.grownBy w' (some b) := by
  have c0 := h.c0
  have c1 := h.c1
  have f1 := h.fz 1
  have h8 : a / 8 < s.size := by omega
  have hbyte : s[a / 8].toNat < 256 := s[a / 8].toNat_lt
  have hq0 : (0 : Int) ≤ (a : Int) / 8 := by omega
  have hq1 : (a : Int) / 8 < (s.size : Int) := by omega
  have hq2 : IntKind.i64.wrap ((a : Int) / 8) = (a : Int) / 8 := by rw [IntKind.wrap_i64]; omega
  go_enter Try.func113, Try.ntmps113
  go_wp2
  go_quiet (fail)
  go_wp2
  go_ret
  exact ⟨ret_int (bit_read s a ha h8), (h.drewN _).set1 (a + 1), grown_trans (grown_drewN (grown_refl _ _) _) (grown_set _ _ _ _)⟩

theorem qbit (w : World) (b : Nat) (s : ByteArray) (c : Bool) (l : List Bool) (hs : s.size ≤ 6000) (h : Sp w b s (some (c :: l))) :
    Calls Try.prog 113 #[.pointer (some ⟨b, 0, none⟩)] w fun e w' => e = .returned (.int .i64 (c.toNat : Nat)) ∧ Sp w' b s (some l) ∧ w.grownBy w' (some b) := by
  obtain ⟨a, ha, hl, h⟩ := h
  have hlt : a < 8 * s.size := by
    rcases Nat.lt_or_ge a (8 * s.size) with h1 | h1
    · exact h1
    · rw [List.drop_of_length_le (by rw [total_bits]; exact h1)] at hl
      cases hl
  rw [List.drop_eq_getElem_cons (by rw [total_bits]; exact hlt)] at hl
  injection hl with hc hl
  refine (qbit_next w b s a hs hlt h).mono ?_
  rintro e w' ⟨rfl, h', hg⟩
  exact ⟨by rw [hc], ⟨a + 1, by omega, hl, h'⟩, hg⟩

set_option maxHeartbeats 400000 in
theorem qleft (w : World) (b : Nat) (s : ByteArray) (a : Nat) (m : Bool) (hs : s.size ≤ 6000) (ha : a ≤ 8 * s.size) (h : Rd 169 w b s a m) :
    Calls Try.prog 111 #[.pointer (some ⟨b, 0, none⟩)] w fun e w' => e = .returned (.int .i64 ((8 * s.size - a : Nat) : Int)) ∧ ∃ d, w' = w.drewN d := by
  have c0 := h.c0
  have c1 := h.c1
  go_enter Try.func111, Try.ntmps111
  go_wp2
  go_quiet (fail)
  go_wp2
  go_ret
  exact ⟨ret_int (by omega), _, rfl⟩

set_option maxHeartbeats 400000 in
theorem qend (w : World) (b : Nat) (s : ByteArray) (a : Nat) (m : Bool) (hs : s.size ≤ 6000) (h : Rd 169 w b s a m) :
    Calls Try.prog 112 #[.pointer (some ⟨b, 0, none⟩)] w fun e w' => e = .returned (.tuple #[]) ∧ Sp w' b s none ∧ w.grownBy w' (some b) := by
  have c0 := h.c0
  have c1 := h.c1
  have c2 := h.c2
  have f1 := h.fz 1
  have f2 := h.fz 2
  go_enter Try.func112, Try.ntmps112
  go_wp2
  go_end0
  exact ⟨rfl, (h.set1 (8 * s.size)).set2 true, grown_trans (grown_set _ _ _ _) (grown_set _ _ _ _)⟩

theorem or_bit (v c : Nat) (hv : 2 * v < 9223372036854775808) (hc : c ≤ 1) : bits .or .i64 ((v : Int) * 2) (c : Int) = ((2 * v + c : Nat) : Int) := by
  rw [show ((v : Int) * 2) = ((2 * v : Nat) : Int) by omega]
  have e0 : 2 * v + c = 2 * v ||| c := Nat.two_pow_add_eq_or_of_lt (i := 1) (b := c) (by omega) v
  have h1 : (BitVec.ofInt 64 ((2 * v : Nat) : Int)).toNat = 2 * v := by
    rw [BitVec.ofInt_natCast, BitVec.toNat_ofNat]; exact Nat.mod_eq_of_lt (by omega)
  have h2 : (BitVec.ofInt 64 (c : Int)).toNat = c := by
    rw [BitVec.ofInt_natCast, BitVec.toNat_ofNat]; exact Nat.mod_eq_of_lt (by omega)
  show IntKind.i64.wrap ((BitVec.ofInt 64 ((2 * v : Nat) : Int) ||| BitVec.ofInt 64 (c : Int)).toNat : Int) = _
  rw [BitVec.toNat_or, h1, h2, IntKind.wrap_i64, ← e0]
  omega

def NumPost (w : World) (b : Nat) (s : ByteArray) (n : Nat) (σ : Option (List Bool)) (e : Ending) (w' : World) : Prop :=
  ∃ (v : Nat) (σ' : Option (List Bool)), e = .returned (.int .i64 v) ∧ v < 2 ^ n ∧ (σ' = none → v = 0) ∧ w.grownBy w' (some b) ∧ Sp w' b s σ' ∧ Ends (pNum n) σ v σ'

set_option maxHeartbeats 1000000 in
theorem qnum (w : World) (b : Nat) (s : ByteArray) (n : Nat) (σ : Option (List Bool)) (hs : s.size ≤ 6000) (hn : n ≤ 48) (h : Sp w b s σ) :
    Calls Try.prog 89 #[.pointer (some ⟨b, 0, none⟩), .int .i64 n] w (NumPost w b s n σ) := by
  obtain ⟨a, ha, hrd, hnone, hsome⟩ := h.rd
  go_enter Try.func89, Try.ntmps89
  go_wp2_with fail
  refine (qleft _ _ _ _ _ hs ha hrd).mono ?_
  rintro e w1 ⟨rfl, d, rfl⟩
  have hrd1 := hrd.drewN d
  have hg1 : w.grownBy (w.drewN d) (some b) := grown_drewN (grown_refl _ _) d
  by_cases hlt : 8 * s.size - a < n
  · go_wp2_with fail
    refine (qend _ _ _ _ _ hs hrd1).mono ?_
    rintro e w2 ⟨rfl, hsp, hg2⟩
    go_wp2
    go_ret
    refine ⟨0, none, rfl, Nat.two_pow_pos _, fun _ => rfl, grown_trans hg1 hg2, hsp, Ends.fail (fun l e => ?_)⟩
    have := (hsome l e).2
    unfold pNum
    rw [if_neg (by omega)]
  · cases σ with
    | none =>
      have hdead : Sp (w.drewN d) b s none := by show Rd _ _ _ _ _ _; rw [← hnone rfl]; exact hrd1
      have := hnone rfl
      clear hnone hsome
      obtain rfl : n = 0 := by omega
      go_wp2
      go_loop [5, 13] (fun o i => o = .int .i64 0 ∧ i = .int .i64 0) (fun _ _ => 0)
      case atStart => exact ⟨rfl, rfl⟩
      case round =>
        obtain ⟨rfl, rfl⟩ := hrel
        go_wp2
        go_ret
        exact ⟨0, none, rfl, Nat.two_pow_pos _, fun _ => rfl, hg1, hdead, rfl⟩
    | some l =>
      have hl := (hsome l rfl).2
      have hnl : n ≤ l.length := by omega
      have hsp1 : Sp (w.drewN d) b s (some l) := ⟨a, ha, (hsome l rfl).1, hrd1⟩
      clear hrd hrd1 hnone hsome h
      go_wp2
      go_loopw [5, 13] (fun o i wr => ∃ k v : Nat, k ≤ n ∧ i = .int .i64 k ∧ o = .int .i64 v ∧ v < 2 ^ k ∧ w.grownBy wr (some b) ∧ Hid (v = val (l.take k)) ∧ Sp wr b s (some (l.drop k)))
        (fun _ i _ => n - (intOf i).toNat)
      case atStart => exact ⟨0, 0, Nat.zero_le _, rfl, rfl, by decide, hg1, rfl, hsp1⟩
      case round =>
        obtain ⟨k, v, hk, rfl, rfl, hv, hg, HV, hsp⟩ := hrel
        have hp := pow48 k (by omega)
        by_cases hkn : k < n
        · have hk2 : k < l.length := by omega
          rw [List.drop_eq_getElem_cons hk2] at hsp
          have hone : (l[k]).toNat ≤ 1 := Bool.toNat_le _
          have hor := or_bit v (l[k]).toNat (by omega) hone
          go_wp2_with (go_at_call 113; refine (qbit _ _ _ _ _ hs hsp).mono ?_; rintro e w' ⟨rfl, hsp', hg'⟩)
          refine ⟨⟨k + 1, 2 * v + (l[k]).toNat, by omega, by go_num, by go_num, by rw [Nat.pow_succ]; omega, grown_trans hg hg', (by rw [val_take_succ l k hk2, HV.out] : 2 * v + (l[k]).toNat = val (l.take (k + 1))), hsp'⟩, by simp [intOf]; omega⟩
        · obtain rfl : k = n := by omega
          go_wp2
          go_ret
          refine ⟨v, some (l.drop k), rfl, hv, fun e => (by cases e), hg, hsp, ?_⟩
          simp [Ends, pNum, hnl, HV.out]
end Go.Proofs.Ytncmgnmcggkhnaa
