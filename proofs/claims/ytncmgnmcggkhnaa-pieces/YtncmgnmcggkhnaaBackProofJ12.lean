import Derived.Test.YtncmgnmcggkhnaaBackProofJ9
import Derived.Test.YtncmgnmcggkhnaaBackProofJ11
namespace Go.Proofs.Ytncmgnmcggkhnaa
open Go.RowKit

theorem apart_spec (mode n : Nat) (subs : List (List Int)) (h : ∀ j, j < subs.length → (subs.getD j []).length = n) :
    (apart mode subs).length = subs.length ∧ ∀ j, j < subs.length → ((apart mode subs).getD j []).length = n := by
  match subs, h with
  | [], _ => exact ⟨rfl, fun j hj => by simp at hj⟩
  | [a], h => exact ⟨rfl, h⟩
  | [a, b], h =>
    have h0 : a.length = n := h 0 (by simp)
    have h1 : b.length = n := h 1 (by simp)
    refine ⟨rfl, fun j hj => ?_⟩
    rcases (show j = 0 ∨ j = 1 by simp at hj; omega) with rfl | rfl
    · show ((List.zipWith (pair mode) a b).map (·.1)).length = n
      rw [List.length_map, List.length_zipWith]; omega
    · show ((List.zipWith (pair mode) a b).map (·.2)).length = n
      rw [List.length_map, List.length_zipWith]; omega
  | a :: b :: c :: r, h => exact ⟨rfl, h⟩

theorem pHead_left {h : Head} {number : Nat} {bytes : List UInt8} {l r : List Bool} {x : Nat × Nat} (e : pHead h number bytes l = some (x, r)) : r.length + 64 = l.length ∧ 1 ≤ x.2 ∧ x.2 ≤ h.block := by
  unfold pHead at e
  obtain ⟨⟨a1, r1⟩, e1, e⟩ := Option.bind_eq_some_iff.mp e
  obtain ⟨⟨a2, r2⟩, e2, e⟩ := Option.bind_eq_some_iff.mp e
  obtain ⟨⟨a3, r3⟩, e3, e⟩ := Option.bind_eq_some_iff.mp e
  obtain ⟨⟨a4, r4⟩, e4, e⟩ := Option.bind_eq_some_iff.mp e
  obtain ⟨⟨a5, r5⟩, e5, e⟩ := Option.bind_eq_some_iff.mp e
  obtain ⟨⟨a6, r6⟩, e6, e⟩ := Option.bind_eq_some_iff.mp e
  obtain ⟨⟨a7, r7⟩, e7, e⟩ := Option.bind_eq_some_iff.mp e
  have := pmust_left e1
  have := pmust_left e2
  have := pnum_left e3
  have := pmust_left e4
  have := pmust_left e5
  have := pnum_left e6
  have := pmust_left e7
  simp only at e
  split at e
  · rename_i hc
    injection e with e
    injection e with e0 e
    subst e
    subst e0
    refine ⟨by omega, ?_, hc.1⟩
    show 1 ≤ a6 + 1
    omega
  · cases e

/-- what a frame is -/
theorem pFrame_spec {h : Head} {number : Nat} {bytes rest : List UInt8} {chs : List (List Int)} (e : pFrame h number bytes = some (chs, rest)) :
    chs.length = h.channels ∧ ∃ n k, 1 ≤ n ∧ n ≤ h.block ∧ (∀ j, j < h.channels → (chs.getD j []).length = n) ∧ 1 ≤ k ∧ k ≤ bytes.length ∧ rest = bytes.drop k := by
  unfold pFrame at e
  obtain ⟨⟨⟨mode, n⟩, r⟩, e1, e⟩ := Option.bind_eq_some_iff.mp e
  obtain ⟨⟨subs, r1⟩, e2, e⟩ := Option.bind_eq_some_iff.mp e
  obtain ⟨⟨u, r2⟩, e3, e⟩ := Option.bind_eq_some_iff.mp e
  obtain ⟨⟨u', r3⟩, e4, e⟩ := Option.bind_eq_some_iff.mp e
  have h1 := pHead_left e1
  have h2 := Shr.channels n h.bits mode h.channels 0 r subs r1 e2
  have h3 := pmust_left e3
  have h4 := pmust_left e4
  have hs := chan_spec n h.bits mode h.channels 0 r subs r1 e2
  have ha := apart_spec mode n subs (fun j hj => (hs.2 j (by rw [← hs.1]; exact hj)).1)
  rw [bitsOf_length] at h1
  simp only at e
  split at e
  · injection e with e
    injection e with e5 e6
    subst e5
    subst e6
    refine ⟨by rw [ha.1, hs.1], n, bytes.length - r3.length / 8, h1.2.1, h1.2.2, fun j hj => ha.2 j (by rw [hs.1]; exact hj), by omega, by omega, rfl⟩
  · cases e

/-- where the loop over the frames stands -/
def FInv (h : Head) (s : ByteArray) (res : Except Nat (List (List Int))) (gk number total : Nat) (ended : Bool) (acc : List (List Int)) (f : Nat) : Prop :=
  f ≤ s.size ∧ s.size - f < gk ∧ number + gk = s.size + 1 ∧ total ≤ 1200 ∧ acc.length = h.channels ∧ (∀ j, j < h.channels → (acc.getD j []).length = total) ∧
    res = frames h gk number total ended acc (s.data.toList.drop f)

section
variable {h : Head} {s : ByteArray} {res : Except Nat (List (List Int))} {gk number total : Nat} {ended : Bool} {acc : List (List Int)} {f : Nat}

theorem drop_nil_iff (s : ByteArray) (f : Nat) (hf : f ≤ s.size) : s.data.toList.drop f = [] ↔ f = s.size := by
  rw [List.drop_eq_nil_iff]
  simp
  show s.size ≤ f ↔ f = s.size
  omega

theorem FInv.stop (hi : FInv h s res gk number total ended acc f) (e : f = s.size) : res = .ok acc := by
  obtain ⟨hf, hgk, _, _, _, _, rfl⟩ := hi
  obtain ⟨g, rfl⟩ : ∃ g, gk = g + 1 := ⟨gk - 1, by omega⟩
  unfold frames
  rw [if_pos ((drop_nil_iff s f hf).2 e)]

theorem FInv.none (hi : FInv h s res gk number total ended acc f) (e : f < s.size) (hp : pFrame h number (s.data.toList.drop f) = Option.none) : res = .error number := by
  obtain ⟨hf, hgk, _, _, _, _, rfl⟩ := hi
  obtain ⟨g, rfl⟩ : ∃ g, gk = g + 1 := ⟨gk - 1, by omega⟩
  unfold frames
  rw [if_neg (fun e' => by have := (drop_nil_iff s f hf).1 e'; omega), hp]

theorem headD_getD {chs : List (List Int)} : chs.headD [] = chs.getD 0 [] := by
  cases chs <;> rfl

theorem FInv.over {chs : List (List Int)} {rest : List UInt8} (hi : FInv h s res gk number total ended acc f) (e : f < s.size) (hp : pFrame h number (s.data.toList.drop f) = some (chs, rest))
    (ho : ended = true ∨ 1200 < total + (chs.getD 0 []).length) : res = .error number := by
  obtain ⟨hf, hgk, _, _, _, _, rfl⟩ := hi
  obtain ⟨g, rfl⟩ : ∃ g, gk = g + 1 := ⟨gk - 1, by omega⟩
  unfold frames
  rw [if_neg (fun e' => by have := (drop_nil_iff s f hf).1 e'; omega), hp]
  show (if _ then _ else _) = _
  rw [headD_getD, if_pos ho]

theorem zip_append_get (acc chs : List (List Int)) (c : Nat) (h1 : acc.length = c) (h2 : chs.length = c) (j : Nat) (hj : j < c) :
    (List.zipWith (· ++ ·) acc chs).getD j [] = acc.getD j [] ++ chs.getD j [] := by
  have e1 : acc[j]? = some (acc[j]'(by omega)) := List.getElem?_eq_getElem (by omega)
  have e2 : chs[j]? = some (chs[j]'(by omega)) := List.getElem?_eq_getElem (by omega)
  simp [List.getD, List.getElem?_zipWith, e1, e2]

theorem FInv.next {chs : List (List Int)} {rest : List UInt8} (hc : 1 ≤ h.channels) (hi : FInv h s res gk number total ended acc f) (e : f < s.size) (hp : pFrame h number (s.data.toList.drop f) = some (chs, rest))
    (ho : ¬ (ended = true ∨ 1200 < total + (chs.getD 0 []).length)) :
    ∃ f', rest = s.data.toList.drop f' ∧ FInv h s res (gk - 1) (number + 1) (total + (chs.getD 0 []).length) (decide ((chs.getD 0 []).length < h.block)) (List.zipWith (· ++ ·) acc chs) f' := by
  obtain ⟨hf, hgk, hnum, htot, hal, hac, rfl⟩ := hi
  obtain ⟨hcl, n, k, hn1, hn2, hcn, hk1, hk2, hrest⟩ := pFrame_spec hp
  obtain ⟨g, rfl⟩ : ∃ g, gk = g + 1 := ⟨gk - 1, by omega⟩
  have hbl : (s.data.toList.drop f).length = s.size - f := by rw [List.length_drop]; simp
  have hr : rest = s.data.toList.drop (f + k) := by rw [hrest, List.drop_drop]
  refine ⟨f + k, hr, by omega, by omega, by omega, by omega, by rw [List.length_zipWith]; omega, ?_, ?_⟩
  · intro j hj
    rw [zip_append_get acc chs h.channels hal hcl j hj, List.length_append, hac j hj, hcn j hj, hcn 0 (by omega)]
  · conv => lhs; unfold frames
    rw [if_neg (fun e' => by have := (drop_nil_iff s f hf).1 e'; omega), hp]
    show (if _ then _ else _) = _
    rw [headD_getD, if_neg ho, hr]
    rfl
end
end Go.Proofs.Ytncmgnmcggkhnaa

namespace Go.Proofs.Ytncmgnmcggkhnaa
open Go.RowKit

/-- a list of ints that can be read -/
def Ls (w : World) (v : Value) (xs : List Int) : Prop :=
  (v = .slice none 0 0 ∧ xs = []) ∨ ∃ g cap, v = .slice (some ⟨g, 0, none⟩) xs.length cap ∧ ∀ i, i < xs.length → w.cell? ⟨g, i, none⟩ = some (.int .i64 (xs.getD i 0))

theorem Own.ls {w : World} {base : Nat} {v : Value} {xs : List Int} (h : Own w base v xs) : Ls w v xs := by
  rcases h.row with ⟨h1, h2⟩ | ⟨g, cap, hv, hr⟩
  · exact .inl ⟨h1, h2⟩
  · exact .inr ⟨g, cap, hv, fun i hi => hr.cell i hi⟩

theorem Ls.slice {w : World} {v : Value} {xs : List Int} (h : Ls w v xs) : ∃ a c, v = .slice a xs.length c := by
  rcases h with ⟨rfl, rfl⟩ | ⟨g, cap, rfl, _⟩
  · exact ⟨none, 0, rfl⟩
  · exact ⟨_, cap, rfl⟩

theorem take_eq_succ (xs ys : List Int) (k : Nat) (h1 : k < xs.length) (h2 : k < ys.length) (h : xs.take k = ys.take k) (he : xs.getD k 0 = ys.getD k 0) : xs.take (k + 1) = ys.take (k + 1) := by
  rw [List.take_succ_eq_append_getElem h1, List.take_succ_eq_append_getElem h2, h]
  simp only [List.getD, List.getElem?_eq_getElem h1, List.getElem?_eq_getElem h2, Option.getD_some] at he
  rw [he]

set_option maxHeartbeats 1000000 in
set_option maxRecDepth 20000 in
theorem same_ints (w : World) (v1 v2 : Value) (xs ys : List Int) (h1 : Ls w v1 xs) (h2 : Ls w v2 ys) (hx : xs.length ≤ 1099511627776) (hy : ys.length ≤ 1099511627776) :
    Calls Try.prog 68 #[v1, v2] w fun e w' => e = .returned (.bool (decide (xs = ys))) ∧ ∃ d, w' = w.drewN d := by
  obtain ⟨a1, c1, rfl⟩ := h1.slice
  obtain ⟨a2, c2, rfl⟩ := h2.slice
  obtain ⟨n, hn⟩ : ∃ n, xs.length = n := ⟨_, rfl⟩
  obtain ⟨m, hm⟩ : ∃ m, ys.length = m := ⟨_, rfl⟩
  rw [hn] at hx
  rw [hm] at hy
  by_cases hnm : n = m
  · subst hnm
    rw [hn, hm]
    rcases Nat.eq_zero_or_pos n with rfl | hpos
    · have hx0 : xs = [] := List.eq_nil_of_length_eq_zero hn
      have hy0 : ys = [] := List.eq_nil_of_length_eq_zero hm
      have e : decide (xs = ys) = true := decide_eq_true (by rw [hx0, hy0])
      rw [e]
      clear e hx0 hy0 hn hm h1 h2
      go_enter Try.func68, Try.ntmps68
      go_wp2
      go_loop [5] (fun i => i = .int .i64 0) (fun _ => 0)
      case atStart => exact rfl
      case round =>
        subst hrel
        go_wp2
        go_ret
        exact ⟨rfl, 0, rfl⟩
    · rcases h1 with ⟨_, hx0⟩ | ⟨g1, cap1, he1, hc1⟩
      · rw [hx0] at hn; simp at hn; omega
      rcases h2 with ⟨_, hy0⟩ | ⟨g2, cap2, he2, hc2⟩
      · rw [hy0] at hm; simp at hm; omega
      injection he1 with ha1 _ hcp1
      injection he2 with ha2 _ hcp2
      subst ha1 hcp1 ha2 hcp2
      rw [hn] at hc1
      rw [hm] at hc2
      have HL : Hid (xs.length = n ∧ ys.length = n) := ⟨hn, hm⟩
      have HC : Hid ((∀ i, i < n → w.cell? ⟨g1, i, none⟩ = some (.int .i64 (xs.getD i 0))) ∧ (∀ i, i < n → w.cell? ⟨g2, i, none⟩ = some (.int .i64 (ys.getD i 0)))) := ⟨hc1, hc2⟩
      clear hc1 hc2 hn hm
      go_enter Try.func68, Try.ntmps68
      go_wp2
      go_loopw [5] (fun i wr => ∃ k : Nat, k ≤ n ∧ i = .int .i64 k ∧ (∃ d, wr = w.drewN d) ∧ Hid (xs.take k = ys.take k)) (fun i _ => n - (intOf i).toNat)
      case atStart => exact ⟨0, Nat.zero_le _, rfl, ⟨0, rfl⟩, (rfl : _ = _)⟩
      case round =>
        obtain ⟨k, hk, rfl, ⟨d, rfl⟩, HT⟩ := hrel
        by_cases hlt : k < n
        · obtain ⟨x, hxv⟩ : ∃ x, xs.getD k 0 = x := ⟨_, rfl⟩
          obtain ⟨y, hyv⟩ : ∃ y, ys.getD k 0 = y := ⟨_, rfl⟩
          have hcx : w.cell? ⟨g1, k, none⟩ = some (.int .i64 x) := by rw [HC.out.1 k hlt, hxv]
          have hcy : w.cell? ⟨g2, k, none⟩ = some (.int .i64 y) := by rw [HC.out.2 k hlt, hyv]
          have HX : Hid (xs.getD k 0 = x ∧ ys.getD k 0 = y) := ⟨hxv, hyv⟩
          clear hxv hyv
          have hlt' : (k : Int) < (n : Int) := by omega
          by_cases hxy : x = y
          · subst hxy
            go_wp2
            go_quiet (fail)
            go_wp2
            go_roundw
            case rel => exact ⟨k + 1, by omega, by go_num, ⟨d + nq, rfl⟩, (take_eq_succ xs ys k (by have := HL.out.1; omega) (by have := HL.out.2; omega) HT.out (by rw [HX.out.1, HX.out.2]) : _ = _)⟩
            case measure => simp [intOf]; omega
          · have hb : (x != y) = true := by simpa using hxy
            have e : Hid (decide (xs = ys) = false) := (decide_eq_false (fun h => hxy (by rw [← HX.out.1, ← HX.out.2, h])) : _ = _)
            clear hxy
            go_wp2
            go_quiet (fail)
            go_wp2
            go_ret
            exact ⟨by rw [e.out]; rfl, d + nq, by rw [World.drewN_drewN]⟩
        · obtain rfl : k = n := by omega
          have e : Hid (decide (xs = ys) = true) := (decide_eq_true (by
            have := HT.out
            rw [List.take_of_length_le (by have := HL.out.1; omega), List.take_of_length_le (by have := HL.out.2; omega)] at this
            exact this) : _ = _)
          go_wp2
          go_ret
          exact ⟨by rw [e.out]; rfl, d, rfl⟩
  · have e : decide (xs = ys) = false := decide_eq_false (fun h => hnm (by rw [← hn, ← hm, h]))
    rw [e, hn, hm]
    clear e hn hm
    have hb : ((n : Int) != (m : Int)) = true := by rw [ne_cast]; simpa using hnm
    clear hnm
    go_enter Try.func68, Try.ntmps68
    go_wp2
    go_ret
    exact ⟨rfl, 0, rfl⟩
end Go.Proofs.Ytncmgnmcggkhnaa

namespace Go.Proofs.Ytncmgnmcggkhnaa
open Go.RowKit

/-- a list of lists of ints that can be read -/
def Ls2 (w : World) (v : Value) (xss : List (List Int)) : Prop :=
  (v = .slice none 0 0 ∧ xss = []) ∨ ∃ g cap, v = .slice (some ⟨g, 0, none⟩) xss.length cap ∧ ∀ i, i < xss.length → ∃ u, w.cell? ⟨g, i, none⟩ = some u ∧ Ls w u (xss.getD i [])

theorem Ls2.slice {w : World} {v : Value} {xs : List (List Int)} (h : Ls2 w v xs) : ∃ a c, v = .slice a xs.length c := by
  rcases h with ⟨rfl, rfl⟩ | ⟨g, cap, rfl, _⟩
  · exact ⟨none, 0, rfl⟩
  · exact ⟨_, cap, rfl⟩

theorem Ls.drew {w : World} {v : Value} {xs : List Int} (h : Ls w v xs) (d : Nat) : Ls (w.drewN d) v xs := by
  rcases h with h | ⟨g, cap, hv, hc⟩
  · exact .inl h
  · exact .inr ⟨g, cap, hv, fun i hi => by rw [World.cell?_drewN]; exact hc i hi⟩

theorem take_eq_succ2 (xs ys : List (List Int)) (k : Nat) (h1 : k < xs.length) (h2 : k < ys.length) (h : xs.take k = ys.take k) (he : xs.getD k [] = ys.getD k []) : xs.take (k + 1) = ys.take (k + 1) := by
  rw [List.take_succ_eq_append_getElem h1, List.take_succ_eq_append_getElem h2, h]
  simp only [List.getD, List.getElem?_eq_getElem h1, List.getElem?_eq_getElem h2, Option.getD_some] at he
  rw [he]

set_option maxHeartbeats 1000000 in
set_option maxRecDepth 20000 in
theorem same_lists (w : World) (v1 v2 : Value) (xs ys : List (List Int)) (h1 : Ls2 w v1 xs) (h2 : Ls2 w v2 ys) (hx : xs.length ≤ 1099511627776) (hy : ys.length ≤ 1099511627776)
    (hxl : ∀ i, i < xs.length → (xs.getD i []).length ≤ 1099511627776) (hyl : ∀ i, i < ys.length → (ys.getD i []).length ≤ 1099511627776) :
    Calls Try.prog 46 #[v1, v2] w fun e w' => e = .returned (.bool (decide (xs = ys))) ∧ ∃ d, w' = w.drewN d := by
  obtain ⟨a1, c1, rfl⟩ := h1.slice
  obtain ⟨a2, c2, rfl⟩ := h2.slice
  obtain ⟨n, hn⟩ : ∃ n, xs.length = n := ⟨_, rfl⟩
  obtain ⟨m, hm⟩ : ∃ m, ys.length = m := ⟨_, rfl⟩
  rw [hn] at hx hxl
  rw [hm] at hy hyl
  by_cases hnm : n = m
  · subst hnm
    rw [hn, hm]
    rcases Nat.eq_zero_or_pos n with rfl | hpos
    · have hx0 : xs = [] := List.eq_nil_of_length_eq_zero hn
      have hy0 : ys = [] := List.eq_nil_of_length_eq_zero hm
      have e : decide (xs = ys) = true := decide_eq_true (by rw [hx0, hy0])
      rw [e]
      clear e hx0 hy0 hn hm h1 h2 hxl hyl
      go_enter Try.func46, Try.ntmps46
      go_wp2
      go_loop [5] (fun i => i = .int .i64 0) (fun _ => 0)
      case atStart => exact rfl
      case round =>
        subst hrel
        go_wp2
        go_ret
        exact ⟨rfl, 0, rfl⟩
    · rcases h1 with ⟨_, hx0⟩ | ⟨g1, cap1, he1, hc1⟩
      · rw [hx0] at hn; simp at hn; omega
      rcases h2 with ⟨_, hy0⟩ | ⟨g2, cap2, he2, hc2⟩
      · rw [hy0] at hm; simp at hm; omega
      injection he1 with ha1 _ hcp1
      injection he2 with ha2 _ hcp2
      subst ha1 hcp1 ha2 hcp2
      rw [hn] at hc1
      rw [hm] at hc2
      have HL : Hid (xs.length = n ∧ ys.length = n) := ⟨hn, hm⟩
      have HC : Hid ((∀ i, i < n → ∃ u, w.cell? ⟨g1, i, none⟩ = some u ∧ Ls w u (xs.getD i [])) ∧ (∀ i, i < n → ∃ u, w.cell? ⟨g2, i, none⟩ = some u ∧ Ls w u (ys.getD i []))) := ⟨hc1, hc2⟩
      have HB : Hid ((∀ i, i < n → (xs.getD i []).length ≤ 1099511627776) ∧ (∀ i, i < n → (ys.getD i []).length ≤ 1099511627776)) := ⟨hxl, hyl⟩
      clear hc1 hc2 hn hm hxl hyl
      go_enter Try.func46, Try.ntmps46
      go_wp2
      go_loopw [5] (fun i wr => ∃ k : Nat, k ≤ n ∧ i = .int .i64 k ∧ (∃ d, wr = w.drewN d) ∧ Hid (xs.take k = ys.take k)) (fun i _ => n - (intOf i).toNat)
      case atStart => exact ⟨0, Nat.zero_le _, rfl, ⟨0, rfl⟩, (rfl : _ = _)⟩
      case round =>
        obtain ⟨k, hk, rfl, ⟨d, rfl⟩, HT⟩ := hrel
        generalize hwz : w.drewN d = wz
        replace hwz := hwz.symm
        have HW : Hid (wz = w.drewN d) := hwz
        by_cases hlt : k < n
        · obtain ⟨u1, hcx, hu1⟩ := HC.out.1 k hlt
          obtain ⟨u2, hcy, hu2⟩ := HC.out.2 k hlt
          rw [← World.cell?_drewN (n := d), ← hwz] at hcx hcy
          replace hu1 := hu1.drew d
          replace hu2 := hu2.drew d
          rw [← hwz] at hu1 hu2
          clear hwz
          have hlt' : (k : Int) < (n : Int) := by omega
          have HS : ∀ d', Calls Try.prog 68 #[u1, u2] (wz.drewN d') fun e w' => e = .returned (.bool (decide (xs.getD k [] = ys.getD k []))) ∧ ∃ m, w' = (wz.drewN d').drewN m :=
            fun d' => same_ints _ _ _ _ _ (hu1.drew d') (hu2.drew d') (HB.out.1 k hlt) (HB.out.2 k hlt)
          clear hu1 hu2
          by_cases hxy : xs.getD k [] = ys.getD k []
          · have HX : Hid (xs.getD k [] = ys.getD k []) := hxy
            rw [decide_eq_true hxy] at HS
            clear hxy
            go_wp2_with fail
            go_quiet ((go_at_call 68; exact Calls.quiet_of (HS _)))
            go_wp2
            go_roundw
            case rel => exact ⟨k + 1, by omega, by go_num, ⟨d + nq, by rw [HW.out, World.drewN_drewN]⟩, (take_eq_succ2 xs ys k (by have := HL.out.1; omega) (by have := HL.out.2; omega) HT.out HX.out : _ = _)⟩
            case measure => simp [intOf]; omega
          · have e : Hid (decide (xs = ys) = false) := (decide_eq_false (fun h => hxy (by rw [h])) : _ = _)
            rw [decide_eq_false hxy] at HS
            clear hxy
            go_wp2_with fail
            go_quiet ((go_at_call 68; exact Calls.quiet_of (HS _)))
            go_wp2
            go_ret
            exact ⟨by rw [e.out]; rfl, d + nq, by rw [HW.out, World.drewN_drewN]⟩
        · clear hwz
          obtain rfl : k = n := by omega
          have e : Hid (decide (xs = ys) = true) := (decide_eq_true (by
            have := HT.out
            rw [List.take_of_length_le (by have := HL.out.1; omega), List.take_of_length_le (by have := HL.out.2; omega)] at this
            exact this) : _ = _)
          go_wp2
          go_ret
          exact ⟨by rw [e.out]; rfl, d, HW.out⟩
  · have e : decide (xs = ys) = false := decide_eq_false (fun h => hnm (by rw [← hn, ← hm, h]))
    rw [e, hn, hm]
    clear e hn hm
    have hb : ((n : Int) != (m : Int)) = true := by rw [ne_cast]; simpa using hnm
    clear hnm
    go_enter Try.func46, Try.ntmps46
    go_wp2
    go_ret
    exact ⟨rfl, 0, rfl⟩
end Go.Proofs.Ytncmgnmcggkhnaa

namespace Go.Proofs.Ytncmgnmcggkhnaa
open Go.RowKit

/-- a sound as a value -/
def soundV (rate bits : Int) (v : Value) : Value := .agg #[.int .i64 rate, .int .i64 bits, v]

theorem cell_kept {w w' : World} {a : Addr} {u : Value} (h : w.cell? a = some u) (hg : w.grownBy w' none) : w'.cell? a = some u := by
  rw [← h]
  unfold World.cell?
  rw [hg.block a.block (World.block_lt_of_cell? w a h) (by simp)]

theorem Ls.kept {w w' : World} {v : Value} {xs : List Int} (h : Ls w v xs) (hg : w.grownBy w' none) : Ls w' v xs := by
  rcases h with h | ⟨g, cap, hv, hc⟩
  · exact .inl h
  · exact .inr ⟨g, cap, hv, fun i hi => cell_kept (hc i hi) hg⟩

theorem Ls2.kept {w w' : World} {v : Value} {xs : List (List Int)} (h : Ls2 w v xs) (hg : w.grownBy w' none) : Ls2 w' v xs := by
  rcases h with h | ⟨g, cap, hv, hc⟩
  · exact .inl h
  · exact .inr ⟨g, cap, hv, fun i hi => by obtain ⟨u, hu, hl⟩ := hc i hi; exact ⟨u, cell_kept hu hg, hl.kept hg⟩⟩

set_option maxHeartbeats 1000000 in
set_option maxRecDepth 20000 in
theorem same_sound (w : World) (v1 v2 : Value) (r1 b1 r2 b2 : Int) (xs ys : List (List Int)) (h1 : Ls2 w v1 xs) (h2 : Ls2 w v2 ys) (hx : xs.length ≤ 1099511627776) (hy : ys.length ≤ 1099511627776)
    (hxl : ∀ i, i < xs.length → (xs.getD i []).length ≤ 1099511627776) (hyl : ∀ i, i < ys.length → (ys.getD i []).length ≤ 1099511627776) :
    Calls Try.prog 18 #[soundV r1 b1 v1, soundV r2 b2 v2] w fun e w' => e = .returned (.bool (decide (xs = ys) && (r1 == r2) && (b1 == b2))) ∧ w.grownBy w' none := by
  have hg : w.grownBy ((w.alloc (Obj.cells #[Value.int .i64 r1, Value.int .i64 b1, v1] 26)).alloc (Obj.cells #[Value.int .i64 r2, Value.int .i64 b2, v2] 26)) none := grown_alloc (grown_alloc (grown_refl w none) _) _
  have HS := same_lists _ v1 v2 xs ys (h1.kept hg) (h2.kept hg) hx hy hxl hyl
  have HX1 := Box.new w #[Value.int .i64 r1, Value.int .i64 b1, v1] 26
  have HX2 := Box.new (w.alloc (Obj.cells #[Value.int .i64 r1, Value.int .i64 b1, v1] 26)) #[Value.int .i64 r2, Value.int .i64 b2, v2] 26
  replace HX1 := HX1.kept (grown_alloc (grown_refl _ none) (Obj.cells #[Value.int .i64 r2, Value.int .i64 b2, v2] 26)) (by simp)
  have hsz : (w.alloc (Obj.cells #[Value.int .i64 r1, Value.int .i64 b1, v1] 26)).heap.size = w.heap.size + 1 := by simp
  rw [hsz] at HX2
  clear h1 h2 hx hy hxl hyl hsz
  unfold soundV
  go_enter Try.func18, Try.ntmps18
  go_wp2_with fail
  refine HS.mono ?_
  rintro e w1 ⟨rfl, d, rfl⟩
  clear HS
  revert HX1 HX2 hg
  generalize (w.alloc (Obj.cells #[Value.int .i64 r1, Value.int .i64 b1, v1] 26)).alloc (Obj.cells #[Value.int .i64 r2, Value.int .i64 b2, v2] 26) = w0
  intro hg HX2 HX1
  have hc10 : w0.cell? ⟨w.heap.size, 0, none⟩ = some (.int .i64 r1) := HX1.cell 0
  have hc11 : w0.cell? ⟨w.heap.size, 1, none⟩ = some (.int .i64 b1) := HX1.cell 1
  have hc20 : w0.cell? ⟨w.heap.size + 1, 0, none⟩ = some (.int .i64 r2) := HX2.cell 0
  have hc21 : w0.cell? ⟨w.heap.size + 1, 1, none⟩ = some (.int .i64 b2) := HX2.cell 1
  have HG : Hid (w.grownBy w0 none) := hg
  clear HX1 HX2 hg
  obtain ⟨q1, he⟩ : ∃ q, decide (xs = ys) = q := ⟨_, rfl⟩
  obtain ⟨q2, hr⟩ : ∃ q, (r1 == r2) = q := ⟨_, rfl⟩
  rw [he]
  have HE : Hid (decide (xs = ys) = q1 ∧ (r1 == r2) = q2) := ⟨he, hr⟩
  clear he
  cases q1
  · go_wp2
    go_ret
    exact ⟨by rw [HE.out.1, HE.out.2]; simp, grown_drewN HG.out _⟩
  · cases q2
    · go_wp2
      go_ret
      exact ⟨by rw [HE.out.1, HE.out.2]; simp, grown_drewN HG.out _⟩
    · go_wp2
      go_ret
      exact ⟨by rw [HE.out.1, HE.out.2]; simp, grown_drewN HG.out _⟩
end Go.Proofs.Ytncmgnmcggkhnaa
