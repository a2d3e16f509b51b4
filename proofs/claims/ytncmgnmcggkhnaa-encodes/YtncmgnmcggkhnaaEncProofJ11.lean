import Derived.Test.YtncmgnmcggkhnaaEncProofJ8
import Derived.Test.YtncmgnmcggkhnaaEncProofJ10
namespace Go.Proofs.Ytncmgnmcggkhnaa
open Go.RowKit

theorem apart_spec (mode n : Nat) (subs : List (List Int)) (h : ∀ j, j < subs.length → (subs.getD j []).length = n) :
    (apart mode subs).length = subs.length ∧ ∀ j, j < subs.length → ((apart mode subs).getD j []).length = n := by
  match subs, h with
  | [], _ => exact ⟨rfl, fun j hj => by simp at hj⟩
  | [a], h => exact ⟨rfl, h⟩
  | [a, b], h =>
    have h0 : a.length = n := h 0 (by simp)
    have h1 : b.length = n := h 1 (by simp)
    refine ⟨rfl, fun j hj => ?_⟩
    rcases (show j = 0 ∨ j = 1 by simp at hj; omega) with rfl | rfl
    · show ((List.zipWith (pair mode) a b).map (·.1)).length = n
      rw [List.length_map, List.length_zipWith]; omega
    · show ((List.zipWith (pair mode) a b).map (·.2)).length = n
      rw [List.length_map, List.length_zipWith]; omega
  | a :: b :: c :: r, h => exact ⟨rfl, h⟩

theorem pHead_left {h : Head} {number : Nat} {bytes : List UInt8} {l r : List Bool} {x : Nat × Nat} (e : pHead h number bytes l = some (x, r)) : r.length + 64 = l.length ∧ 1 ≤ x.2 ∧ x.2 ≤ h.block := by
  unfold pHead at e
  obtain ⟨⟨a1, r1⟩, e1, e⟩ := Option.bind_eq_some_iff.mp e
  obtain ⟨⟨a2, r2⟩, e2, e⟩ := Option.bind_eq_some_iff.mp e
  obtain ⟨⟨a3, r3⟩, e3, e⟩ := Option.bind_eq_some_iff.mp e
  obtain ⟨⟨a4, r4⟩, e4, e⟩ := Option.bind_eq_some_iff.mp e
  obtain ⟨⟨a5, r5⟩, e5, e⟩ := Option.bind_eq_some_iff.mp e
  obtain ⟨⟨a6, r6⟩, e6, e⟩ := Option.bind_eq_some_iff.mp e
  obtain ⟨⟨a7, r7⟩, e7, e⟩ := Option.bind_eq_some_iff.mp e
  have := pmust_left e1
  have := pmust_left e2
  have := pnum_left e3
  have := pmust_left e4
  have := pmust_left e5
  have := pnum_left e6
  have := pmust_left e7
  simp only at e
  split at e
  · rename_i hc
    injection e with e
    injection e with e0 e
    subst e
    subst e0
    refine ⟨by omega, ?_, hc.1⟩
    show 1 ≤ a6 + 1
    omega
  · cases e

/-- what a frame is -/
theorem pFrame_spec {h : Head} {number : Nat} {bytes rest : List UInt8} {chs : List (List Int)} (e : pFrame h number bytes = some (chs, rest)) :
    chs.length = h.channels ∧ ∃ n k, 1 ≤ n ∧ n ≤ h.block ∧ (∀ j, j < h.channels → (chs.getD j []).length = n) ∧ 1 ≤ k ∧ k ≤ bytes.length ∧ rest = bytes.drop k := by
  unfold pFrame at e
  obtain ⟨⟨⟨mode, n⟩, r⟩, e1, e⟩ := Option.bind_eq_some_iff.mp e
  obtain ⟨⟨subs, r1⟩, e2, e⟩ := Option.bind_eq_some_iff.mp e
  obtain ⟨⟨u, r2⟩, e3, e⟩ := Option.bind_eq_some_iff.mp e
  obtain ⟨⟨u', r3⟩, e4, e⟩ := Option.bind_eq_some_iff.mp e
  have h1 := pHead_left e1
  have h2 := Shr.channels n h.bits mode h.channels 0 r subs r1 e2
  have h3 := pmust_left e3
  have h4 := pmust_left e4
  have hs := chan_spec n h.bits mode h.channels 0 r subs r1 e2
  have ha := apart_spec mode n subs (fun j hj => (hs.2 j (by rw [← hs.1]; exact hj)).1)
  rw [bitsOf_length] at h1
  simp only at e
  split at e
  · injection e with e
    injection e with e5 e6
    subst e5
    subst e6
    refine ⟨by rw [ha.1, hs.1], n, bytes.length - r3.length / 8, h1.2.1, h1.2.2, fun j hj => ha.2 j (by rw [hs.1]; exact hj), by omega, by omega, rfl⟩
  · cases e

/-- where the loop over the frames stands -/
def FInv (h : Head) (s : ByteArray) (res : Except Nat (List (List Int))) (gk number total : Nat) (ended : Bool) (acc : List (List Int)) (f : Nat) : Prop :=
  f ≤ s.size ∧ s.size - f < gk ∧ number + gk = s.size + 1 ∧ total ≤ 1200 ∧ acc.length = h.channels ∧ (∀ j, j < h.channels → (acc.getD j []).length = total) ∧
    res = frames h gk number total ended acc (s.data.toList.drop f)

section
variable {h : Head} {s : ByteArray} {res : Except Nat (List (List Int))} {gk number total : Nat} {ended : Bool} {acc : List (List Int)} {f : Nat}

theorem drop_nil_iff (s : ByteArray) (f : Nat) (hf : f ≤ s.size) : s.data.toList.drop f = [] ↔ f = s.size := by
  rw [List.drop_eq_nil_iff]
  simp
  show s.size ≤ f ↔ f = s.size
  omega

theorem FInv.stop (hi : FInv h s res gk number total ended acc f) (e : f = s.size) : res = .ok acc := by
  obtain ⟨hf, hgk, _, _, _, _, rfl⟩ := hi
  obtain ⟨g, rfl⟩ : ∃ g, gk = g + 1 := ⟨gk - 1, by omega⟩
  unfold frames
  rw [if_pos ((drop_nil_iff s f hf).2 e)]

theorem FInv.none (hi : FInv h s res gk number total ended acc f) (e : f < s.size) (hp : pFrame h number (s.data.toList.drop f) = Option.none) : res = .error number := by
  obtain ⟨hf, hgk, _, _, _, _, rfl⟩ := hi
  obtain ⟨g, rfl⟩ : ∃ g, gk = g + 1 := ⟨gk - 1, by omega⟩
  unfold frames
  rw [if_neg (fun e' => by have := (drop_nil_iff s f hf).1 e'; omega), hp]

theorem headD_getD {chs : List (List Int)} : chs.headD [] = chs.getD 0 [] := by
  cases chs <;> rfl

theorem FInv.over {chs : List (List Int)} {rest : List UInt8} (hi : FInv h s res gk number total ended acc f) (e : f < s.size) (hp : pFrame h number (s.data.toList.drop f) = some (chs, rest))
    (ho : ended = true ∨ 1200 < total + (chs.getD 0 []).length) : res = .error number := by
  obtain ⟨hf, hgk, _, _, _, _, rfl⟩ := hi
  obtain ⟨g, rfl⟩ : ∃ g, gk = g + 1 := ⟨gk - 1, by omega⟩
  unfold frames
  rw [if_neg (fun e' => by have := (drop_nil_iff s f hf).1 e'; omega), hp]
  show (if _ then _ else _) = _
  rw [headD_getD, if_pos ho]

theorem zip_append_get (acc chs : List (List Int)) (c : Nat) (h1 : acc.length = c) (h2 : chs.length = c) (j : Nat) (hj : j < c) :
    (List.zipWith (· ++ ·) acc chs).getD j [] = acc.getD j [] ++ chs.getD j [] := by
  have e1 : acc[j]? = some (acc[j]'(by omega)) := List.getElem?_eq_getElem (by omega)
  have e2 : chs[j]? = some (chs[j]'(by omega)) := List.getElem?_eq_getElem (by omega)
  simp [List.getD, List.getElem?_zipWith, e1, e2]

theorem FInv.next {chs : List (List Int)} {rest : List UInt8} (hc : 1 ≤ h.channels) (hi : FInv h s res gk number total ended acc f) (e : f < s.size) (hp : pFrame h number (s.data.toList.drop f) = some (chs, rest))
    (ho : ¬ (ended = true ∨ 1200 < total + (chs.getD 0 []).length)) :
    ∃ f', rest = s.data.toList.drop f' ∧ FInv h s res (gk - 1) (number + 1) (total + (chs.getD 0 []).length) (decide ((chs.getD 0 []).length < h.block)) (List.zipWith (· ++ ·) acc chs) f' := by
  obtain ⟨hf, hgk, hnum, htot, hal, hac, rfl⟩ := hi
  obtain ⟨hcl, n, k, hn1, hn2, hcn, hk1, hk2, hrest⟩ := pFrame_spec hp
  obtain ⟨g, rfl⟩ : ∃ g, gk = g + 1 := ⟨gk - 1, by omega⟩
  have hbl : (s.data.toList.drop f).length = s.size - f := by rw [List.length_drop]; simp
  have hr : rest = s.data.toList.drop (f + k) := by rw [hrest, List.drop_drop]
  refine ⟨f + k, hr, by omega, by omega, by omega, by omega, by rw [List.length_zipWith]; omega, ?_, ?_⟩
  · intro j hj
    rw [zip_append_get acc chs h.channels hal hcl j hj, List.length_append, hac j hj, hcn j hj, hcn 0 (by omega)]
  · conv => lhs; unfold frames
    rw [if_neg (fun e' => by have := (drop_nil_iff s f hf).1 e'; omega), hp]
    show (if _ then _ else _) = _
    rw [headD_getD, if_neg ho, hr]
    rfl
end
end Go.Proofs.Ytncmgnmcggkhnaa

namespace Go.Proofs.Ytncmgnmcggkhnaa
open Go.RowKit

/-- a list of ints that can be read -/
def Ls (w : World) (v : Value) (xs : List Int) : Prop :=
  (v = .slice none 0 0 ∧ xs = []) ∨ ∃ g cap, v = .slice (some ⟨g, 0, none⟩) xs.length cap ∧ ∀ i, i < xs.length → w.cell? ⟨g, i, none⟩ = some (.int .i64 (xs.getD i 0))

theorem Own.ls {w : World} {base : Nat} {v : Value} {xs : List Int} (h : Own w base v xs) : Ls w v xs := by
  rcases h.row with ⟨h1, h2⟩ | ⟨g, cap, hv, hr⟩
  · exact .inl ⟨h1, h2⟩
  · exact .inr ⟨g, cap, hv, fun i hi => hr.cell i hi⟩

theorem Ls.slice {w : World} {v : Value} {xs : List Int} (h : Ls w v xs) : ∃ a c, v = .slice a xs.length c := by
  rcases h with ⟨rfl, rfl⟩ | ⟨g, cap, rfl, _⟩
  · exact ⟨none, 0, rfl⟩
  · exact ⟨_, cap, rfl⟩

theorem take_eq_succ (xs ys : List Int) (k : Nat) (h1 : k < xs.length) (h2 : k < ys.length) (h : xs.take k = ys.take k) (he : xs.getD k 0 = ys.getD k 0) : xs.take (k + 1) = ys.take (k + 1) := by
  rw [List.take_succ_eq_append_getElem h1, List.take_succ_eq_append_getElem h2, h]
  simp only [List.getD, List.getElem?_eq_getElem h1, List.getElem?_eq_getElem h2, Option.getD_some] at he
  rw [he]

set_option maxHeartbeats 1000000 in
set_option maxRecDepth 20000 in
theorem same_ints (w : World) (v1 v2 : Value) (xs ys : List Int) (h1 : Ls w v1 xs) (h2 : Ls w v2 ys) (hx : xs.length ≤ 1099511627776) (hy : ys.length ≤ 1099511627776) :
    Calls Try.prog 68 #[v1, v2] w fun e w' => e = .returned (.bool (decide (xs = ys))) ∧ ∃ d, w' = w.drewN d := by
  obtain ⟨a1, c1, rfl⟩ := h1.slice
  obtain ⟨a2, c2, rfl⟩ := h2.slice
  obtain ⟨n, hn⟩ : ∃ n, xs.length = n := ⟨_, rfl⟩
  obtain ⟨m, hm⟩ : ∃ m, ys.length = m := ⟨_, rfl⟩
  rw [hn] at hx
  rw [hm] at hy
  by_cases hnm : n = m
  · subst hnm
    rw [hn, hm]
    rcases Nat.eq_zero_or_pos n with rfl | hpos
    · have hx0 : xs = [] := List.eq_nil_of_length_eq_zero hn
      have hy0 : ys = [] := List.eq_nil_of_length_eq_zero hm
      have e : decide (xs = ys) = true := decide_eq_true (by rw [hx0, hy0])
      rw [e]
      clear e hx0 hy0 hn hm h1 h2
      go_enter Try.func68, Try.ntmps68
      go_wp2
      go_loop [5] (fun i => i = .int .i64 0) (fun _ => 0)
      case atStart => exact rfl
      case round =>
        subst hrel
        go_wp2
        go_ret
        exact ⟨rfl, 0, rfl⟩
    · rcases h1 with ⟨_, hx0⟩ | ⟨g1, cap1, he1, hc1⟩
      · rw [hx0] at hn; simp at hn; omega
      rcases h2 with ⟨_, hy0⟩ | ⟨g2, cap2, he2, hc2⟩
      · rw [hy0] at hm; simp at hm; omega
      injection he1 with ha1 _ hcp1
      injection he2 with ha2 _ hcp2
      subst ha1 hcp1 ha2 hcp2
      rw [hn] at hc1
      rw [hm] at hc2
      have HL : Hid (xs.length = n ∧ ys.length = n) := ⟨hn, hm⟩
      have HC : Hid ((∀ i, i < n → w.cell? ⟨g1, i, none⟩ = some (.int .i64 (xs.getD i 0))) ∧ (∀ i, i < n → w.cell? ⟨g2, i, none⟩ = some (.int .i64 (ys.getD i 0)))) := ⟨hc1, hc2⟩
      clear hc1 hc2 hn hm
      go_enter Try.func68, Try.ntmps68
      go_wp2
      go_loopw [5] (fun i wr => ∃ k : Nat, k ≤ n ∧ i = .int .i64 k ∧ (∃ d, wr = w.drewN d) ∧ Hid (xs.take k = ys.take k)) (fun i _ => n - (intOf i).toNat)
      case atStart => exact ⟨0, Nat.zero_le _, rfl, ⟨0, rfl⟩, (rfl : _ = _)⟩
      case round =>
        obtain ⟨k, hk, rfl, ⟨d, rfl⟩, HT⟩ := hrel
        by_cases hlt : k < n
        · obtain ⟨x, hxv⟩ : ∃ x, xs.getD k 0 = x := ⟨_, rfl⟩
          obtain ⟨y, hyv⟩ : ∃ y, ys.getD k 0 = y := ⟨_, rfl⟩
          have hcx : w.cell? ⟨g1, k, none⟩ = some (.int .i64 x) := by rw [HC.out.1 k hlt, hxv]
          have hcy : w.cell? ⟨g2, k, none⟩ = some (.int .i64 y) := by rw [HC.out.2 k hlt, hyv]
          have HX : Hid (xs.getD k 0 = x ∧ ys.getD k 0 = y) := ⟨hxv, hyv⟩
          clear hxv hyv
          have hlt' : (k : Int) < (n : Int) := by omega
          by_cases hxy : x = y
          · subst hxy
            go_wp2
            go_quiet (fail)
            go_wp2
            go_roundw
            case rel => exact ⟨k + 1, by omega, by go_num, ⟨d + nq, rfl⟩, (take_eq_succ xs ys k (by have := HL.out.1; omega) (by have := HL.out.2; omega) HT.out (by rw [HX.out.1, HX.out.2]) : _ = _)⟩
            case measure => simp [intOf]; omega
          · have hb : (x != y) = true := by simpa using hxy
            have e : Hid (decide (xs = ys) = false) := (decide_eq_false (fun h => hxy (by rw [← HX.out.1, ← HX.out.2, h])) : _ = _)
            clear hxy
            go_wp2
            go_quiet (fail)
            go_wp2
            go_ret
            exact ⟨by rw [e.out]; rfl, d + nq, by rw [World.drewN_drewN]⟩
        · obtain rfl : k = n := by omega
          have e : Hid (decide (xs = ys) = true) := (decide_eq_true (by
            have := HT.out
            rw [List.take_of_length_le (by have := HL.out.1; omega), List.take_of_length_le (by have := HL.out.2; omega)] at this
            exact this) : _ = _)
          go_wp2
          go_ret
          exact ⟨by rw [e.out]; rfl, d, rfl⟩
  · have e : decide (xs = ys) = false := decide_eq_false (fun h => hnm (by rw [← hn, ← hm, h]))
    rw [e, hn, hm]
    clear e hn hm
    have hb : ((n : Int) != (m : Int)) = true := by rw [ne_cast]; simpa using hnm
    clear hnm
    go_enter Try.func68, Try.ntmps68
    go_wp2
    go_ret
    exact ⟨rfl, 0, rfl⟩
end Go.Proofs.Ytncmgnmcggkhnaa

namespace Go.Proofs.Ytncmgnmcggkhnaa
open Go.RowKit

/-- a list of lists of ints that can be read -/
def Ls2 (w : World) (v : Value) (xss : List (List Int)) : Prop :=
  (v = .slice none 0 0 ∧ xss = []) ∨ ∃ g cap, v = .slice (some ⟨g, 0, none⟩) xss.length cap ∧ ∀ i, i < xss.length → ∃ u, w.cell? ⟨g, i, none⟩ = some u ∧ Ls w u (xss.getD i [])

theorem Ls2.slice {w : World} {v : Value} {xs : List (List Int)} (h : Ls2 w v xs) : ∃ a c, v = .slice a xs.length c := by
  rcases h with ⟨rfl, rfl⟩ | ⟨g, cap, rfl, _⟩
  · exact ⟨none, 0, rfl⟩
  · exact ⟨_, cap, rfl⟩

theorem Ls.drew {w : World} {v : Value} {xs : List Int} (h : Ls w v xs) (d : Nat) : Ls (w.drewN d) v xs := by
  rcases h with h | ⟨g, cap, hv, hc⟩
  · exact .inl h
  · exact .inr ⟨g, cap, hv, fun i hi => by rw [World.cell?_drewN]; exact hc i hi⟩

theorem take_eq_succ2 (xs ys : List (List Int)) (k : Nat) (h1 : k < xs.length) (h2 : k < ys.length) (h : xs.take k = ys.take k) (he : xs.getD k [] = ys.getD k []) : xs.take (k + 1) = ys.take (k + 1) := by
  rw [List.take_succ_eq_append_getElem h1, List.take_succ_eq_append_getElem h2, h]
  simp only [List.getD, List.getElem?_eq_getElem h1, List.getElem?_eq_getElem h2, Option.getD_some] at he
  rw [he]

set_option maxHeartbeats 1000000 in
set_option maxRecDepth 20000 in
theorem same_lists (w : World) (v1 v2 : Value) (xs ys : List (List Int)) (h1 : Ls2 w v1 xs) (h2 : Ls2 w v2 ys) (hx : xs.length ≤ 1099511627776) (hy : ys.length ≤ 1099511627776)
    (hxl : ∀ i, i < xs.length → (xs.getD i []).length ≤ 1099511627776) (hyl : ∀ i, i < ys.length → (ys.getD i []).length ≤ 1099511627776) :
    Calls Try.prog 46 #[v1, v2] w fun e w' => e = .returned (.bool (decide (xs = ys))) ∧ ∃ d, w' = w.drewN d := by
  obtain ⟨a1, c1, rfl⟩ := h1.slice
  obtain ⟨a2, c2, rfl⟩ := h2.slice
  obtain ⟨n, hn⟩ : ∃ n, xs.length = n := ⟨_, rfl⟩
  obtain ⟨m, hm⟩ : ∃ m, ys.length = m := ⟨_, rfl⟩
  rw [hn] at hx hxl
  rw [hm] at hy hyl
  by_cases hnm : n = m
  · subst hnm
    rw [hn, hm]
    rcases Nat.eq_zero_or_pos n with rfl | hpos
    · have hx0 : xs = [] := List.eq_nil_of_length_eq_zero hn
      have hy0 : ys = [] := List.eq_nil_of_length_eq_zero hm
      have e : decide (xs = ys) = true := decide_eq_true (by rw [hx0, hy0])
      rw [e]
      clear e hx0 hy0 hn hm h1 h2 hxl hyl
      go_enter Try.func46, Try.ntmps46
      go_wp2
      go_loop [5] (fun i => i = .int .i64 0) (fun _ => 0)
      case atStart => exact rfl
      case round =>
        subst hrel
        go_wp2
        go_ret
        exact ⟨rfl, 0, rfl⟩
    · rcases h1 with ⟨_, hx0⟩ | ⟨g1, cap1, he1, hc1⟩
      · rw [hx0] at hn; simp at hn; omega
      rcases h2 with ⟨_, hy0⟩ | ⟨g2, cap2, he2, hc2⟩
      · rw [hy0] at hm; simp at hm; omega
      injection he1 with ha1 _ hcp1
      injection he2 with ha2 _ hcp2
      subst ha1 hcp1 ha2 hcp2
      rw [hn] at hc1
      rw [hm] at hc2
      have HL : Hid (xs.length = n ∧ ys.length = n) := ⟨hn, hm⟩
      have HC : Hid ((∀ i, i < n → ∃ u, w.cell? ⟨g1, i, none⟩ = some u ∧ Ls w u (xs.getD i [])) ∧ (∀ i, i < n → ∃ u, w.cell? ⟨g2, i, none⟩ = some u ∧ Ls w u (ys.getD i []))) := ⟨hc1, hc2⟩
      have HB : Hid ((∀ i, i < n → (xs.getD i []).length ≤ 1099511627776) ∧ (∀ i, i < n → (ys.getD i []).length ≤ 1099511627776)) := ⟨hxl, hyl⟩
      clear hc1 hc2 hn hm hxl hyl
      go_enter Try.func46, Try.ntmps46
      go_wp2
      go_loopw [5] (fun i wr => ∃ k : Nat, k ≤ n ∧ i = .int .i64 k ∧ (∃ d, wr = w.drewN d) ∧ Hid (xs.take k = ys.take k)) (fun i _ => n - (intOf i).toNat)
      case atStart => exact ⟨0, Nat.zero_le _, rfl, ⟨0, rfl⟩, (rfl : _ = _)⟩
      case round =>
        obtain ⟨k, hk, rfl, ⟨d, rfl⟩, HT⟩ := hrel
        generalize hwz : w.drewN d = wz
        replace hwz := hwz.symm
        have HW : Hid (wz = w.drewN d) := hwz
        by_cases hlt : k < n
        · obtain ⟨u1, hcx, hu1⟩ := HC.out.1 k hlt
          obtain ⟨u2, hcy, hu2⟩ := HC.out.2 k hlt
          rw [← World.cell?_drewN (n := d), ← hwz] at hcx hcy
          replace hu1 := hu1.drew d
          replace hu2 := hu2.drew d
          rw [← hwz] at hu1 hu2
          clear hwz
          have hlt' : (k : Int) < (n : Int) := by omega
          have HS : ∀ d', Calls Try.prog 68 #[u1, u2] (wz.drewN d') fun e w' => e = .returned (.bool (decide (xs.getD k [] = ys.getD k []))) ∧ ∃ m, w' = (wz.drewN d').drewN m :=
            fun d' => same_ints _ _ _ _ _ (hu1.drew d') (hu2.drew d') (HB.out.1 k hlt) (HB.out.2 k hlt)
          clear hu1 hu2
          by_cases hxy : xs.getD k [] = ys.getD k []
          · have HX : Hid (xs.getD k [] = ys.getD k []) := hxy
            rw [decide_eq_true hxy] at HS
            clear hxy
            go_wp2_with fail
            go_quiet ((go_at_call 68; exact Calls.quiet_of (HS _)))
            go_wp2
            go_roundw
            case rel => exact ⟨k + 1, by omega, by go_num, ⟨d + nq, by rw [HW.out, World.drewN_drewN]⟩, (take_eq_succ2 xs ys k (by have := HL.out.1; omega) (by have := HL.out.2; omega) HT.out HX.out : _ = _)⟩
            case measure => simp [intOf]; omega
          · have e : Hid (decide (xs = ys) = false) := (decide_eq_false (fun h => hxy (by rw [h])) : _ = _)
            rw [decide_eq_false hxy] at HS
            clear hxy
            go_wp2_with fail
            go_quiet ((go_at_call 68; exact Calls.quiet_of (HS _)))
            go_wp2
            go_ret
            exact ⟨by rw [e.out]; rfl, d + nq, by rw [HW.out, World.drewN_drewN]⟩
        · clear hwz
          obtain rfl : k = n := by omega
          have e : Hid (decide (xs = ys) = true) := (decide_eq_true (by
            have := HT.out
            rw [List.take_of_length_le (by have := HL.out.1; omega), List.take_of_length_le (by have := HL.out.2; omega)] at this
            exact this) : _ = _)
          go_wp2
          go_ret
          exact ⟨by rw [e.out]; rfl, d, HW.out⟩
  · have e : decide (xs = ys) = false := decide_eq_false (fun h => hnm (by rw [← hn, ← hm, h]))
    rw [e, hn, hm]
    clear e hn hm
    have hb : ((n : Int) != (m : Int)) = true := by rw [ne_cast]; simpa using hnm
    clear hnm
    go_enter Try.func46, Try.ntmps46
    go_wp2
    go_ret
    exact ⟨rfl, 0, rfl⟩
end Go.Proofs.Ytncmgnmcggkhnaa

namespace Go.Proofs.Ytncmgnmcggkhnaa
open Go.RowKit

/-- a sound as a value -/
def soundV (rate bits : Int) (v : Value) : Value := .agg #[.int .i64 rate, .int .i64 bits, v]

theorem cell_kept {w w' : World} {a : Addr} {u : Value} (h : w.cell? a = some u) (hg : w.grownBy w' none) : w'.cell? a = some u := by
  rw [← h]
  unfold World.cell?
  rw [hg.block a.block (World.block_lt_of_cell? w a h) (by simp)]

theorem Ls.kept {w w' : World} {v : Value} {xs : List Int} (h : Ls w v xs) (hg : w.grownBy w' none) : Ls w' v xs := by
  rcases h with h | ⟨g, cap, hv, hc⟩
  · exact .inl h
  · exact .inr ⟨g, cap, hv, fun i hi => cell_kept (hc i hi) hg⟩

theorem Ls2.kept {w w' : World} {v : Value} {xs : List (List Int)} (h : Ls2 w v xs) (hg : w.grownBy w' none) : Ls2 w' v xs := by
  rcases h with h | ⟨g, cap, hv, hc⟩
  · exact .inl h
  · exact .inr ⟨g, cap, hv, fun i hi => by obtain ⟨u, hu, hl⟩ := hc i hi; exact ⟨u, cell_kept hu hg, hl.kept hg⟩⟩

set_option maxHeartbeats 1000000 in
set_option maxRecDepth 20000 in
theorem same_sound (w : World) (v1 v2 : Value) (r1 b1 r2 b2 : Int) (xs ys : List (List Int)) (h1 : Ls2 w v1 xs) (h2 : Ls2 w v2 ys) (hx : xs.length ≤ 1099511627776) (hy : ys.length ≤ 1099511627776)
    (hxl : ∀ i, i < xs.length → (xs.getD i []).length ≤ 1099511627776) (hyl : ∀ i, i < ys.length → (ys.getD i []).length ≤ 1099511627776) :
    Calls Try.prog 18 #[soundV r1 b1 v1, soundV r2 b2 v2] w fun e w' => e = .returned (.bool (decide (xs = ys) && (r1 == r2) && (b1 == b2))) ∧ w.grownBy w' none := by
  have hg : w.grownBy ((w.alloc (Obj.cells #[Value.int .i64 r1, Value.int .i64 b1, v1] 26)).alloc (Obj.cells #[Value.int .i64 r2, Value.int .i64 b2, v2] 26)) none := grown_alloc (grown_alloc (grown_refl w none) _) _
  have HS := same_lists _ v1 v2 xs ys (h1.kept hg) (h2.kept hg) hx hy hxl hyl
  have HX1 := Box.new w #[Value.int .i64 r1, Value.int .i64 b1, v1] 26
  have HX2 := Box.new (w.alloc (Obj.cells #[Value.int .i64 r1, Value.int .i64 b1, v1] 26)) #[Value.int .i64 r2, Value.int .i64 b2, v2] 26
  replace HX1 := HX1.kept (grown_alloc (grown_refl _ none) (Obj.cells #[Value.int .i64 r2, Value.int .i64 b2, v2] 26)) (by simp)
  have hsz : (w.alloc (Obj.cells #[Value.int .i64 r1, Value.int .i64 b1, v1] 26)).heap.size = w.heap.size + 1 := by simp
  rw [hsz] at HX2
  clear h1 h2 hx hy hxl hyl hsz
  unfold soundV
  go_enter Try.func18, Try.ntmps18
  go_wp2_with fail
  refine HS.mono ?_
  rintro e w1 ⟨rfl, d, rfl⟩
  clear HS
  revert HX1 HX2 hg
  generalize (w.alloc (Obj.cells #[Value.int .i64 r1, Value.int .i64 b1, v1] 26)).alloc (Obj.cells #[Value.int .i64 r2, Value.int .i64 b2, v2] 26) = w0
  intro hg HX2 HX1
  have hc10 : w0.cell? ⟨w.heap.size, 0, none⟩ = some (.int .i64 r1) := HX1.cell 0
  have hc11 : w0.cell? ⟨w.heap.size, 1, none⟩ = some (.int .i64 b1) := HX1.cell 1
  have hc20 : w0.cell? ⟨w.heap.size + 1, 0, none⟩ = some (.int .i64 r2) := HX2.cell 0
  have hc21 : w0.cell? ⟨w.heap.size + 1, 1, none⟩ = some (.int .i64 b2) := HX2.cell 1
  have HG : Hid (w.grownBy w0 none) := hg
  clear HX1 HX2 hg
  obtain ⟨q1, he⟩ : ∃ q, decide (xs = ys) = q := ⟨_, rfl⟩
  obtain ⟨q2, hr⟩ : ∃ q, (r1 == r2) = q := ⟨_, rfl⟩
  rw [he]
  have HE : Hid (decide (xs = ys) = q1 ∧ (r1 == r2) = q2) := ⟨he, hr⟩
  clear he
  cases q1
  · go_wp2
    go_ret
    exact ⟨by rw [HE.out.1, HE.out.2]; simp, grown_drewN HG.out _⟩
  · cases q2
    · go_wp2
      go_ret
      exact ⟨by rw [HE.out.1, HE.out.2]; simp, grown_drewN HG.out _⟩
    · go_wp2
      go_ret
      exact ⟨by rw [HE.out.1, HE.out.2]; simp, grown_drewN HG.out _⟩
end Go.Proofs.Ytncmgnmcggkhnaa

namespace Go.Proofs.Ytncmgnmcggkhnaa
open Go.RowKit

/-- a sound of zeros -/
def noSound : Value := .agg #[.int .i64 0, .int .i64 0, .slice none 0 0]

/-- what Decode leaves -/
def DecPost (w : World) (s : ByteArray) (e : Ending) (w' : World) : Prop :=
  w.grownBy w' none ∧
    match decode s.data.toList with
    | .err er place => e = .returned (.tuple #[noSound, .int .i64 er, .int .i64 place])
    | .sound rate bits chs => ∃ lv vs, e = .returned (.tuple #[.agg #[.int .i64 rate, .int .i64 bits, lv], .int .i64 0, .int .i64 0]) ∧ Subs w' w.heap.size lv vs chs

/-- the memory of Decode: the answer's block, the head's, the sound's, that of the channels, and the channels themselves, from `base` on -/
structure DMem (w wr : World) (r gH gO gC base : Nat) (h : Head) (vs : List Value) (acc : List (List Int)) : Prop where
  grow : w.grownBy wr none
  res : Box wr r #[.int .i64 0, .int .i64 0, .slice none 0 0] 26
  hd : Box wr gH (headC h) 87
  out : Box wr gO #[.int .i64 h.rate, .int .i64 h.bits, .slice (some ⟨gC, 0, none⟩) h.channels h.channels] 26
  row : Box wr gC vs.toArray 30
  len : vs.length = h.channels
  own : ∀ i, i < vs.length → Own wr base (vs.getD i undef) (acc.getD i [])
  apartV : ∀ i j q, i < j → j < vs.length → (vs.getD i undef).ownBlock = some q → (vs.getD j undef).ownBlock ≠ some q

/-- how the blocks lie -/
structure DLie (w : World) (r b gH gO gC base : Nat) : Prop where
  r0 : w.heap.size ≤ r
  b0 : w.heap.size ≤ b
  c0 : w.heap.size ≤ gC
  rb : r < base
  bb : b < base
  hb : gH < base
  ob : gO < base
  cb : gC < base
  h0 : w.heap.size ≤ gH
  o0 : w.heap.size ≤ gO
  br : b ≠ r
  bh : b ≠ gH
  bo : b ≠ gO
  bc : b ≠ gC
  cr : gC ≠ r
  ch : gC ≠ gH
  co : gC ≠ gO
  ro : r ≠ gO
  rh : r ≠ gH

theorem grown_new {w wr w1 : World} {row : Option Nat} (h : w.grownBy wr none) (hg : wr.grownBy w1 row) (hr : ∀ g, row = some g → w.heap.size ≤ g) : w.grownBy w1 none :=
  ⟨hg.os.trans h.os, hg.tape.trans h.tape, hg.output.trans h.output, Nat.le_trans h.size hg.size,
    fun i hi _ => (hg.block i (Nat.lt_of_lt_of_le hi h.size) (fun e => by have := hr i e.symm; omega)).trans (h.block i hi (by simp))⟩

section
variable {w wr w1 : World} {r b gH gO gC base : Nat} {h : Head} {vs : List Value} {acc : List (List Int)}

theorem DMem.kept (hm : DMem w wr r gH gO gC base h vs acc) (hl : DLie w r b gH gO gC base) (hg : wr.grownBy w1 (some b)) : DMem w w1 r gH gO gC base h vs acc := by
  have n1 := hl.br
  have n2 := hl.bh
  have n3 := hl.bo
  have n4 := hl.bc
  refine ⟨grown_new hm.grow hg (fun g e => by injection e with e; have := hl.b0; omega), hm.res.kept hg (fun e => by injection e with e; omega), hm.hd.kept hg (fun e => by injection e with e; omega),
    hm.out.kept hg (fun e => by injection e with e; omega), hm.row.kept hg (fun e => by injection e with e; omega), hm.len, fun i hi => (hm.own i hi).kept hg hl.bb, hm.apartV⟩

theorem DMem.drewN (hm : DMem w wr r gH gO gC base h vs acc) (d : Nat) : DMem w (wr.drewN d) r gH gO gC base h vs acc :=
  ⟨grown_drewN hm.grow d, hm.res, hm.hd, hm.out, hm.row, hm.len, hm.own, hm.apartV⟩

theorem getD_set_ne {α : Type} (l : List α) (i j : Nat) (x d : α) (h : i ≠ j) : (l.set i x).getD j d = l.getD j d := by
  simp [List.getD, h]
theorem getD_set_eq {α : Type} (l : List α) (i : Nat) (x d : α) (h : i < l.length) : (l.set i x).getD i d = x := by
  simp [List.getD, h]

/-- one channel grows: its new list lies in its own old block, or in a new one; it is laid into the channels' block -/
theorem DMem.step (hm : DMem w wr r gH gO gC base h vs acc) (hl : DLie w r b gH gO gC base) {i g cap n : Nat} {zs : List Int} (hi : i < vs.length) (hal : acc.length = vs.length)
    (hg : wr.grownBy w1 (vs.getD i undef).ownBlock) (hown : Own w1 base (.slice (some ⟨g, 0, none⟩) n cap) zs) (hat : (vs.getD i undef).ownBlock = some g ∨ g = wr.heap.size) :
    DMem w (w1.setCell ⟨gC, i, none⟩ (.slice (some ⟨g, 0, none⟩) n cap)) r gH gO gC base h (vs.set i (.slice (some ⟨g, 0, none⟩) n cap)) (acc.set i zs) ∧
      wr.grownBy w1 (vs.getD i undef).ownBlock ∧ w1.grownBy (w1.setCell ⟨gC, i, none⟩ (.slice (some ⟨g, 0, none⟩) n cap)) (some gC) := by
  have hvlt : ∀ j q, j < vs.length → (vs.getD j undef).ownBlock = some q → base ≤ q ∧ q < wr.heap.size := fun j q hj hq => (hm.own j hj).lt q hq
  have hne : ∀ k, k < base → some k ≠ (vs.getD i undef).ownBlock := fun k hk e => by have := (hvlt i k hi e.symm).1; omega
  have hs := grown_set w1 gC i (.slice (some ⟨g, 0, none⟩) n cap)
  have hgb : base ≤ g := by
    have := hown.lt g rfl
    exact this.1
  have l1 := hl.rb
  have l2 := hl.hb
  have l3 := hl.ob
  have l4 := hl.cb
  have m1 := hl.cr
  have m2 := hl.ch
  have m3 := hl.co
  have l5 := hl.c0
  have l6 := hl.r0
  refine ⟨⟨?_, ?_, ?_, ?_, ?_, ?_, ?_, ?_⟩, hg, hs⟩
  · refine grown_new (grown_new hm.grow hg (fun q e => ?_)) hs (fun q e => by injection e with e; omega)
    have := (hvlt i q hi e).1
    omega
  · exact (hm.res.kept hg (hne r l1)).kept hs (fun e => by injection e with e; omega)
  · exact (hm.hd.kept hg (hne gH l2)).kept hs (fun e => by injection e with e; omega)
  · exact (hm.out.kept hg (hne gO l3)).kept hs (fun e => by injection e with e; omega)
  · have := (hm.row.kept hg (hne gC l4)).set i (.slice (some ⟨g, 0, none⟩) n cap)
    rw [List.setIfInBounds_toArray] at this
    exact this
  · rw [List.length_set]; exact hm.len
  · intro j hj
    rw [List.length_set] at hj
    by_cases hij : i = j
    · subst hij
      rw [getD_set_eq _ _ _ _ hi, getD_set_eq _ _ _ _ (by omega)]
      have hgc : Value.ownBlock (.slice (some ⟨g, 0, none⟩) n cap) ≠ some gC := fun e => by
        have e' : g = gC := by simpa [Value.ownBlock] using e
        omega
      exact World.ownsRow.kept hown hs (.inr hgc)
    · rw [getD_set_ne _ _ _ _ _ hij, getD_set_ne _ _ _ _ _ hij]
      have h1 := hm.own j hj
      have h2 : Own w1 base (vs.getD j undef) (acc.getD j []) := by
        refine World.ownsRow.kept h1 hg ?_
        cases hq : (vs.getD j undef).ownBlock with
        | none => exact .inl rfl
        | some q =>
          refine .inr (fun e => ?_)
          rcases Nat.lt_or_gt_of_ne hij with hlt | hlt
          · exact hm.apartV i j q hlt hj e.symm hq
          · exact hm.apartV j i q hlt hi hq e.symm
      refine World.ownsRow.kept h2 hs ?_
      cases hq : (vs.getD j undef).ownBlock with
      | none => exact .inl rfl
      | some q => exact .inr (fun e => by injection e with e; have := (hvlt j q hj hq).1; omega)
  · intro j k q hjk hk hq
    rw [List.length_set] at hk
    by_cases hij : i = j
    · subst hij
      rw [getD_set_eq _ _ _ _ (by omega)] at hq
      have e' : g = q := by simpa [Value.ownBlock] using hq
      subst e'
      rw [getD_set_ne _ _ _ _ _ (by omega)]
      intro e
      rcases hat with hat | hat
      · exact hm.apartV i k g hjk hk hat e
      · have := (hvlt k g hk e).2; omega
    · rw [getD_set_ne _ _ _ _ _ hij] at hq
      by_cases hik : i = k
      · subst hik
        rw [getD_set_eq _ _ _ _ hk]
        intro e
        have e' : g = q := by simpa [Value.ownBlock] using e
        subst e'
        rcases hat with hat | hat
        · exact hm.apartV j i g hjk hk hq hat
        · have := (hvlt j g (by omega) hq).2; omega
      · rw [getD_set_ne _ _ _ _ _ hik]
        exact hm.apartV j k q hjk hk hq

/-- at the end -/
theorem DMem.subs (hm : DMem w wr r gH gO gC base h vs acc) (hl : DLie w r b gH gO gC base) (hbase : w.heap.size ≤ base) (hal : acc.length = vs.length) (hc : h.channels ≤ 2) : Subs wr w.heap.size (.slice (some ⟨gC, 0, none⟩) h.channels h.channels) vs acc := by
  refine ⟨⟨by omega, .inr ⟨gC, h.channels, vs.toArray, by rw [hm.len], hl.c0, hm.row, by rw [hm.len]; exact Nat.le_refl _, by unfold maxLen; omega, by simp [hm.len], by simp⟩⟩, hal.symm, fun i hi => Own.mono (hm.own i hi) hbase, ?_, hm.apartV⟩
  intro i q hi hq e
  have e' : gC = q := by simpa [Value.ownBlock] using e
  have := ((hm.own i hi).lt q hq).1
  have := hl.cb
  omega
end

theorem Chs.kept {w w' : World} {base : Nat} {v : Value} {chs : List (List Int)} {row : Option Nat} (h : Chs w base v chs) (hg : w.grownBy w' row) (hr : ∀ q, row = some q → q < base) : Chs w' base v chs := by
  obtain ⟨lg, lcap, rfl, hb, hc⟩ := h
  refine ⟨lg, lcap, rfl, hb, fun i hi => ?_⟩
  obtain ⟨g, cap, h1, h2⟩ := hc i hi
  have hlt := h2.lt
  refine ⟨g, cap, hg.cell h1 (fun e => ?_), World.ownsRow.kept h2 hg (.inr (fun e => ?_))⟩
  · have := hr lg e.symm
    omega
  · have := hr g e.symm
    omega

/-- up to channel `k` the lists have grown -/
def GrownUpto (acc chs acc' : List (List Int)) (c k : Nat) : Prop := acc'.length = c ∧ ∀ j, j < c → acc'.getD j [] = if j < k then acc.getD j [] ++ chs.getD j [] else acc.getD j []

theorem GrownUpto.start (acc chs : List (List Int)) (c : Nat) (h : acc.length = c) : GrownUpto acc chs acc c 0 := ⟨h, fun j _ => by rw [if_neg (by omega)]⟩

theorem GrownUpto.step {acc chs acc' : List (List Int)} {c k : Nat} (h : GrownUpto acc chs acc' c k) (hk : k < c) : GrownUpto acc chs (acc'.set k (acc.getD k [] ++ chs.getD k [])) c (k + 1) := by
  refine ⟨by rw [List.length_set]; exact h.1, fun j hj => ?_⟩
  by_cases e : k = j
  · subst e
    rw [getD_set_eq _ _ _ _ (by rw [h.1]; exact hk), if_pos (by omega)]
  · rw [getD_set_ne _ _ _ _ _ e, h.2 j hj]
    by_cases hjk : j < k
    · rw [if_pos hjk, if_pos (by omega)]
    · rw [if_neg hjk, if_neg (by omega)]

theorem GrownUpto.all {acc chs acc' : List (List Int)} {c : Nat} (h : GrownUpto acc chs acc' c c) (h1 : acc.length = c) (h2 : chs.length = c) : acc' = List.zipWith (· ++ ·) acc chs := by
  apply List.ext_getElem?
  intro j
  rcases Nat.lt_or_ge j c with hj | hj
  · have e1 := h.2 j hj
    rw [if_pos hj, ← zip_append_get acc chs c h1 h2 j hj] at e1
    have l1 : acc'[j]? = some (acc'[j]'(by rw [h.1]; exact hj)) := List.getElem?_eq_getElem (by rw [h.1]; exact hj)
    have l2 : (List.zipWith (· ++ ·) acc chs)[j]? = some ((List.zipWith (· ++ ·) acc chs)[j]'(by rw [List.length_zipWith]; omega)) := List.getElem?_eq_getElem (by rw [List.length_zipWith]; omega)
    simp only [List.getD, l1, l2, Option.getD_some] at e1
    rw [l1, l2, e1]
  · rw [List.getElem?_eq_none (by rw [h.1]; exact hj), List.getElem?_eq_none (by rw [List.length_zipWith]; omega)]

/-- the cells of a row, as an append reads them -/
theorem row_news {w : World} {base g n cap : Nat} {ys : List Int} (h : Row w base g n cap ys) : ∀ j u, (ys.map (Value.int .i64))[j]? = some u → w.cell? ((⟨g, 0, none⟩ : Addr).add j) = some u := by
  intro j u hj
  have hl := h.len
  have hjn : j < ys.length := by
    rcases Nat.lt_or_ge j ys.length with h1 | h1
    · exact h1
    · rw [List.getElem?_eq_none (by simpa using h1)] at hj; cases hj
  have ea : (⟨g, 0, none⟩ : Addr).add j = ⟨g, j, none⟩ := by
    unfold Addr.add
    split
    · rename_i e; rw [e]
    · simp
  have e9 : ys[j]? = some (ys[j]'hjn) := List.getElem?_eq_getElem hjn
  rw [ea, h.cell j (by omega), ← hj, List.getElem?_map, List.getD, e9]
  rfl

/-- the loop over the channels, at channel `k` -/
def InInv (w wq : World) (s : ByteArray) (r b gH gO gC base B1 : Nat) (h : Head) (v : Value) (acc chs : List (List Int)) (bits : List Bool) (k : Nat) : Prop :=
  ∃ (acc' : List (List Int)) (vs' : List Value), DMem w wq r gH gO gC base h vs' acc' ∧ St 86 wq b s (some bits) ∧ base ≤ wq.heap.size ∧ Chs wq B1 v chs ∧ GrownUpto acc chs acc' h.channels k ∧
    ∀ j q, k ≤ j → j < h.channels → (vs'.getD j undef).ownBlock = some q → q < B1

theorem grown_undrew {w w' : World} {row : Option Nat} {d : Nat} (h : (w.drewN d).grownBy w' row) : w.grownBy w' row := ⟨h.os, h.tape, h.output, h.size, h.block⟩

theorem in_step {w wq w1 : World} {s : ByteArray} {r b gH gO gC base B1 : Nat} {h : Head} {v : Value} {acc chs acc' : List (List Int)} {vs' : List Value} {bits : List Bool} {k g cap n : Nat}
    (hl : DLie w r b gH gO gC base) (hB : base ≤ B1) (hk : k < h.channels) (hm : DMem w wq r gH gO gC base h vs' acc') (hst : St 86 wq b s (some bits)) (hbs : base ≤ wq.heap.size) (hchs : Chs wq B1 v chs)
    (hup : GrownUpto acc chs acc' h.channels k) (hF : ∀ j q, k ≤ j → j < h.channels → (vs'.getD j undef).ownBlock = some q → q < B1)
    (hg : wq.grownBy w1 (vs'.getD k undef).ownBlock) (hown : Own w1 base (.slice (some ⟨g, 0, none⟩) n cap) (acc.getD k [] ++ chs.getD k [])) (hat : (vs'.getD k undef).ownBlock = some g ∨ g = wq.heap.size) :
    InInv w (w1.setCell ⟨gC, k, none⟩ (.slice (some ⟨g, 0, none⟩) n cap)) s r b gH gO gC base B1 h v acc chs bits (k + 1) := by
  have hvl := hm.len
  have hal := hup.1
  have hstep := hm.step hl (zs := acc.getD k [] ++ chs.getD k []) (by omega) (by omega) hg hown hat
  have hs := hstep.2.2
  have hcb := hl.cb
  have hbb := hl.bb
  have hbc := hl.bc
  refine ⟨_, _, hstep.1, (hst.kept hg (fun e => ?_)).kept hs (fun e => by injection e with e; omega), Nat.le_trans (Nat.le_trans hbs hg.size) hs.size, (hchs.kept hg (fun q e => hF k q (Nat.le_refl _) hk e)).kept hs (fun q e => by injection e with e; omega),
    hup.step hk, fun j q hj hj2 hq => ?_⟩
  · have := ((hm.own k (by omega)).lt b e.symm).1
    omega
  · rw [getD_set_ne _ _ _ _ _ (by omega)] at hq
    exact hF j q (by omega) hj2 hq

theorem three_cells (w : World) (g : Nat) (z0 z1 z2 : Value) (t : TypeId) (v0 v1 v2 : Value) (h : Box w g #[z0, z1, z2] t) :
    Box (((w.setCell ⟨g, 0, none⟩ v0).setCell ⟨g, 1, none⟩ v1).setCell ⟨g, 2, none⟩ v2) g #[v0, v1, v2] t ∧
    w.grownBy (((w.setCell ⟨g, 0, none⟩ v0).setCell ⟨g, 1, none⟩ v1).setCell ⟨g, 2, none⟩ v2) (some g) :=
  ⟨((h.set 0 v0).set 1 v1).set 2 v2, grown_trans (grown_trans (grown_set _ _ _ _) (grown_set _ _ _ _)) (grown_set _ _ _ _)⟩

/-- an error is answered -/
theorem dec_err {w X : World} {r er place : Nat} {s : ByteArray} (hg : w.grownBy X none) (hr : w.heap.size ≤ r) (hb : Box X r #[.int .i64 0, .int .i64 0, .slice none 0 0] 26) (hd : decode s.data.toList = .err er place) :
    Box (((X.setCell ⟨r, 0, none⟩ (.int .i64 0)).setCell ⟨r, 1, none⟩ (.int .i64 0)).setCell ⟨r, 2, none⟩ (.slice none 0 0)) r #[.int .i64 0, .int .i64 0, .slice none 0 0] 26 ∧
    DecPost w s (.returned (.tuple #[noSound, .int .i64 er, .int .i64 place])) (((X.setCell ⟨r, 0, none⟩ (.int .i64 0)).setCell ⟨r, 1, none⟩ (.int .i64 0)).setCell ⟨r, 2, none⟩ (.slice none 0 0)) := by
  have h3 := three_cells X r _ _ _ _ (.int .i64 0) (.int .i64 0) (.slice none 0 0) hb
  refine ⟨h3.1, grown_new hg h3.2 (fun g e => by injection e with e; omega), ?_⟩
  rw [hd]

theorem pMore_left : ∀ (fuel : Nat) (l r : List Bool) (u : Unit), pMore fuel l = some (u, r) → l.length % 8 = 0 → r.length % 8 = 0 ∧ r.length ≤ l.length
  | 0, l, r, u, e, _ => by cases e
  | fuel + 1, l, r, u, e, h8 => by
    obtain ⟨⟨⟨last, kind, size⟩, r1⟩, e1, e⟩ := Option.bind_eq_some_iff.mp (show (pBlock l).bind _ = _ from e)
    have h1 := block_left e1
    simp only at e
    split at e
    · cases e
    · split at e
      · injection e with e
        injection e with _ e
        subst e
        rw [List.length_drop]
        omega
      · have := pMore_left fuel _ r u e (by rw [List.length_drop]; omega)
        rw [List.length_drop] at this
        omega

theorem info_ok {l r : List Bool} {h : Head} (e : pInfo l = some (h, r)) : headOk h = true ∧ 1 ≤ h.channels := by
  unfold pInfo at e
  obtain ⟨⟨a1, r1⟩, e1, e⟩ := Option.bind_eq_some_iff.mp e
  obtain ⟨⟨a2, r2⟩, e2, e⟩ := Option.bind_eq_some_iff.mp e
  obtain ⟨⟨a3, r3⟩, e3, e⟩ := Option.bind_eq_some_iff.mp e
  obtain ⟨⟨a4, r4⟩, e4, e⟩ := Option.bind_eq_some_iff.mp e
  obtain ⟨⟨a5, r5⟩, e5, e⟩ := Option.bind_eq_some_iff.mp e
  obtain ⟨⟨a6, r6⟩, e6, e⟩ := Option.bind_eq_some_iff.mp e
  obtain ⟨⟨a7, r7⟩, e7, e⟩ := Option.bind_eq_some_iff.mp e
  obtain ⟨⟨a8, r8⟩, e8, e⟩ := Option.bind_eq_some_iff.mp e
  simp only at e
  split at e
  · rename_i hc
    injection e with e
    injection e with e _
    subst e
    exact ⟨hc, by show 1 ≤ a5 + 1; omega⟩
  · cases e

theorem pBlocks_spec {l r : List Bool} {h : Head} (e : pBlocks l = some (h, r)) (h8 : l.length % 8 = 0) : r.length % 8 = 0 ∧ r.length ≤ l.length ∧ headOk h = true ∧ 1 ≤ h.channels := by
  unfold pBlocks at e
  obtain ⟨⟨a1, r1⟩, e1, e⟩ := Option.bind_eq_some_iff.mp e
  obtain ⟨⟨a2, r2⟩, e2, e⟩ := Option.bind_eq_some_iff.mp e
  obtain ⟨⟨a3, r3⟩, e3, e⟩ := Option.bind_eq_some_iff.mp e
  obtain ⟨⟨a4, r4⟩, e4, e⟩ := Option.bind_eq_some_iff.mp e
  obtain ⟨⟨⟨last, kind, size⟩, r5⟩, e5, e⟩ := Option.bind_eq_some_iff.mp e
  have n1 := pmust_left e1
  have n2 := pmust_left e2
  have n3 := pmust_left e3
  have n4 := pmust_left e4
  have n5 := block_left e5
  simp only at e n1 n2 n3 n4 n5
  split at e
  · obtain ⟨⟨h', r6⟩, e6, e⟩ := Option.bind_eq_some_iff.mp e
    have n6 := info_left e6
    have hok := info_ok e6
    simp only at e n6
    split at e
    · injection e with e
      injection e with e7 e8
      subst e7
      subst e8
      exact ⟨by omega, by omega, hok.1, hok.2⟩
    · cases hm : pMore l.length r6 with
      | none => rw [hm] at e; cases e
      | some x =>
        obtain ⟨u, r7⟩ := x
        rw [hm] at e
        injection e with e
        injection e with e7 e8
        subst e7
        subst e8
        have := pMore_left _ _ _ _ hm (by omega)
        exact ⟨this.1, by show r7.length ≤ _; omega, hok.1, hok.2⟩
  · cases e
end Go.Proofs.Ytncmgnmcggkhnaa
