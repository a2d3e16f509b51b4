import Derived.Test.YtncmgnmcggkhnaaCrcCalls
import Derived.Test.YtncmgnmcggkhnaaTurnMath
import Derived.Laws.IdiomStrings
import Derived.Laws.BytesArg
import Derived.Laws.Concat
import Derived.Deep.RegionWith
namespace Go.Proofs.Ytncmgnmcggkhnaa
open Go.RowKit

set_option maxHeartbeats 400000 in
theorem pick_any (c : Int) (n : Nat) (w : World) (h0 : -9223372036854775808 ≤ c) (h1 : c ≤ 9223372036854775807) (hn : 1 ≤ n) (hn1 : n ≤ 9223372036854775807) :
    Calls Try.prog 30 #[.int .i64 c, .int .i64 n] w fun e w' => ∃ k : Nat, k < n ∧ e = .returned (.int .i64 k) ∧ w' = w := by
  have hn' : (n : Int) ≠ 0 := by omega
  by_cases hc : c < 0
  · go_enter Try.func30, Try.ntmps30
    go_wp2
    go_ret
    refine ⟨((-(c + 1)) % n).toNat, ?_, ret_int ?_, rfl⟩
    · have := Int.emod_lt_of_pos (-(c + 1)) (show (0 : Int) < n by omega)
      have := Int.emod_nonneg (-(c + 1)) hn'
      omega
    · have := Int.emod_nonneg (-(c + 1)) hn'
      rw [← Int.neg_tmod, Int.tmod_eq_emod_of_nonneg (by omega)]
      omega
  · go_enter Try.func30, Try.ntmps30
    go_wp2
    go_ret
    refine ⟨(c % n).toNat, ?_, ret_int ?_, rfl⟩
    · have := Int.emod_lt_of_pos c (show (0 : Int) < n by omega)
      have := Int.emod_nonneg c hn'
      omega
    · have := Int.emod_nonneg c hn'
      omega

theorem cv1 (w : World) (c : Int) : (convert 59 9 (.slice (some ⟨w.heap.size, 0, none⟩) 1 1)).run Try.prog (w.alloc (.cells #[.int .u8 c] 5)) = .ok (.string (strOfNums [c])) (w.alloc (.cells #[.int .u8 c] 5)) :=
  run_convert_bytes_arg _ 59 5 Try.underlying59 Try.underlying5 w.heap.size 0 1 1 [c] rfl (fun i hi => by
    obtain rfl : i = 0 := by omega
    rw [World.cell?_alloc_new]; rfl) 9 Try.underlying9

theorem cv2 (w : World) (o : Obj) (c d : Int) : (convert 59 9 (.slice (some ⟨w.heap.size + 1, 0, none⟩) 2 2)).run Try.prog ((w.alloc o).alloc (.cells #[.int .u8 c, .int .u8 d] 5)) = .ok (.string (strOfNums [c, d])) ((w.alloc o).alloc (.cells #[.int .u8 c, .int .u8 d] 5)) :=
  run_convert_bytes_arg _ 59 5 Try.underlying59 Try.underlying5 (w.heap.size + 1) 0 2 2 [c, d] rfl (fun i hi => by
    rcases (show i = 0 ∨ i = 1 by omega) with rfl | rfl <;> (rw [World.cell?_alloc_at _ _ _ _ (by simp)]; rfl)) 9 Try.underlying9

theorem append_data (s : ByteArray) (xs : List Int) : (s ++ strOfNums xs).data.toList = s.data.toList ++ xs.map fun n => UInt8.ofNat n.toNat := by
  rw [ByteArray.data_append]; simp [strOfNums]

theorem call3 (s : ByteArray) (c : Nat) (hs : s.size ≤ 140737488351232) (hc : crc 8 7 s.data.toList = c) (w : World) :
    Calls Try.prog 12 #[.string (s ++ strOfNums [(c : Int)])] w fun e w' => e = .returned (.int .i64 0) ∧ w' = w := by
  have hc1 : c < 256 := hc ▸ crc_lt 8 7 (by omega) (by omega) _
  refine (crc8_any _ w (by rw [ByteArray.size_append, strOfNums_size]; unfold maxLen; simp; omega)).mono ?_
  rintro e w' ⟨rfl, rfl⟩
  refine ⟨ret_int ?_, rfl⟩
  rw [append_data]
  have := self8 s.data.toList (UInt8.ofNat (c : Int).toNat) (by rw [hc]; simp; omega)
  exact congrArg Int.ofNat this

theorem call4 (s : ByteArray) (d : Nat) (hs : s.size ≤ 140737488351232) (hd : crc 16 32773 s.data.toList = d) (x y : Int) (hx : x = d / 256) (hy : y = d % 256) (w : World) :
    Calls Try.prog 13 #[.string (s ++ strOfNums [x, y])] w fun e w' => e = .returned (.int .i64 0) ∧ w' = w := by
  have hd1 : d < 65536 := hd ▸ crc_lt 16 32773 (by omega) (by omega) _
  refine (crc16_any _ w (by rw [ByteArray.size_append, strOfNums_size]; unfold maxLen; simp; omega)).mono ?_
  rintro e w' ⟨rfl, rfl⟩
  refine ⟨ret_int ?_, rfl⟩
  rw [append_data]
  have := self16 s.data.toList (UInt8.ofNat x.toNat) (UInt8.ofNat y.toNat) (by rw [hd]; simp; omega) (by rw [hd]; simp; omega)
  exact congrArg Int.ofNat this

theorem one8 : crc 8 7 [1] = 7 := by decide +kernel
theorem one16 : crc 16 32773 [1] = 32773 := by decide +kernel

theorem call5 (w : World) : Calls Try.prog 12 #[.string ⟨#[1]⟩] w fun e w' => e = .returned (.int .i64 7) ∧ w' = w := by
  refine (crc8_any _ w (by decide)).mono ?_
  rintro e w' ⟨rfl, rfl⟩
  exact ⟨ret_int (congrArg Int.ofNat one8), rfl⟩

theorem call6 (w : World) : Calls Try.prog 13 #[.string ⟨#[1]⟩] w fun e w' => e = .returned (.int .i64 32773) ∧ w' = w := by
  refine (crc16_any _ w (by decide)).mono ?_
  rintro e w' ⟨rfl, rfl⟩
  exact ⟨ret_int (congrArg Int.ofNat one16), rfl⟩

theorem row_get (s : ByteArray) (cap k : Nat) (hk : k < s.size) : (bytesRow s cap)[k]? = some (.int .u8 (s[k].toNat : Int)) := by
  unfold bytesRow
  have h : k < s.data.size := hk
  rw [Array.getElem?_append_left (by simpa using h), Array.getElem?_map, Array.getElem?_eq_getElem h]
  rfl

theorem row_size (s : ByteArray) (cap : Nat) : s.size ≤ (bytesRow s cap).size := by
  unfold bytesRow
  rw [Array.size_append, Array.size_map]
  exact Nat.le_add_right _ _

theorem row_cell (w : World) (s : ByteArray) (cap k : Nat) (hk : k < s.size) {b : Nat} (hb : b = w.heap.size) :
    (w.alloc (.cells (bytesRow s cap) 5 ((bytesRow s cap).size, (bytesRow s cap).size + 1))).drew.cell? ⟨b, k, none⟩ = some (.int .u8 (s[k].toNat : Int)) := by
  subst hb
  rw [World.cell?_drew, World.cell?_alloc_mark, row_get s cap k hk]

theorem row_frozen (w : World) (s : ByteArray) (cap k : Nat) (hk : k < s.size) {b : Nat} (hb : b = w.heap.size) :
    (w.alloc (.cells (bytesRow s cap) 5 ((bytesRow s cap).size, (bytesRow s cap).size + 1))).drew.frozen? ⟨b, k, none⟩ = false := by
  subst hb
  have h := row_size s cap
  have e : (w.alloc (.cells (bytesRow s cap) 5 ((bytesRow s cap).size, (bytesRow s cap).size + 1))).drew.heap[w.heap.size]? = some (.cells (bytesRow s cap) 5 ((bytesRow s cap).size, (bytesRow s cap).size + 1)) := by
    show (w.heap.push _)[w.heap.size]? = _
    simp
  unfold World.frozen?
  simp only [e]
  simp
  omega

theorem bits_xor_u8 (a b : Nat) (ha : a < 256) (hb : b < 256) : bits .xor .u8 (a : Int) (b : Int) = ((a ^^^ b : Nat) : Int) := by
  have hx : a ^^^ b < 2 ^ 8 := Nat.xor_lt_two_pow (by omega) (by omega)
  have e : (BitVec.ofInt 8 (a : Int) ^^^ BitVec.ofInt 8 (b : Int)).toNat = a ^^^ b := by
    rw [BitVec.toNat_xor, BitVec.toNat_ofInt, BitVec.toNat_ofInt]
    congr 1 <;> omega
  show IntKind.wrap .u8 ((BitVec.ofInt 8 (a : Int) ^^^ BitVec.ofInt 8 (b : Int)).toNat : Int) = _
  rw [e, IntKind.wrap_u8]
  omega

theorem turned (w : World) (b k cap x : Nat) (s : ByteArray) (hk : k < s.size) (hx : x < 255)
    (hc : ∀ j (hj : j < s.size), w.cell? ⟨b, j, none⟩ = some (.int .u8 (s[j].toNat : Int))) :
    ∃ s' : ByteArray, ∃ y : UInt8, s'.size = s.size ∧ s'.data.toList = s.data.toList.set k y ∧ y ≠ s[k] ∧
      (convert 59 9 (.slice (some ⟨b, 0, none⟩) s.size cap)).run Try.prog (w.setCell ⟨b, k, none⟩ (.int .u8 (bits .xor .u8 (s[k].toNat : Int) (IntKind.u8.wrap (IntKind.i64.wrap (1 + (x : Int))))))).drew
        = .ok (.string s') (w.setCell ⟨b, k, none⟩ (.int .u8 (bits .xor .u8 (s[k].toNat : Int) (IntKind.u8.wrap (IntKind.i64.wrap (1 + (x : Int))))))).drew := by
  have hlt := s[k].toNat_lt
  have ev : bits .xor .u8 (s[k].toNat : Int) (IntKind.u8.wrap (IntKind.i64.wrap (1 + (x : Int)))) = ((s[k].toNat ^^^ (x + 1) : Nat) : Int) := by
    rw [IntKind.wrap_u8, IntKind.wrap_i64, show ((1 + (x : Int) + 9223372036854775808) % 18446744073709551616 - 9223372036854775808) % 256 = ((x + 1 : Nat) : Int) by omega]
    exact bits_xor_u8 _ _ hlt (by omega)
  rw [ev]
  generalize hv : s[k].toNat ^^^ (x + 1) = v
  have hv1 : v < 256 := by rw [← hv]; exact Nat.xor_lt_two_pow (n := 8) hlt (by omega)
  have hv2 : v ≠ s[k].toNat := by
    intro h
    rw [← hv] at h
    have := xor_left_cancel' (r := s[k].toNat) (a := x + 1) (b := 0) (by rw [h, Nat.xor_zero])
    omega
  have hl : s.data.toList.length = s.size := by simp
  refine ⟨strOfNums ((s.data.toList.map fun z => (z.toNat : Int)).set k v), UInt8.ofNat v, ?_, ?_, ?_, ?_⟩
  · rw [strOfNums_size]; simp
  · rw [strOfNums_data, List.map_set]
    congr 1
    rw [List.map_map]
    conv => rhs; rw [← List.map_id s.data.toList]
    apply List.map_congr_left
    intro z _
    simp
  · intro h
    apply hv2
    rw [← h]
    simp
    omega
  · refine run_convert_bytes_arg _ 59 5 Try.underlying59 Try.underlying5 b 0 s.size cap _ (by simp) (fun i hi => ?_) 9 Try.underlying9
    rw [World.cell?_drew, Nat.zero_add]
    by_cases hik : i = k
    · subst hik
      rw [World.cell?_setCell_same _ _ _ (hc i hi)]
      simp [List.getD, hi]
    · rw [World.cell?_setCell_other _ _ _ _ (fun h => hik (by injection h with _ h2; exact h2.symm)), hc i hi]
      have hi' : i < s.data.size := hi
      simp [List.getD, Ne.symm hik]
      rw [Array.getElem?_eq_getElem hi']
      rfl

theorem same_of (P : Program) (f : Nat) (args : Array Value) (r : Int) (h : ∀ w, Calls P f args w fun e w' => e = .returned (.int .i64 r) ∧ w' = w) (w : World) :
    Calls P f args w fun e w' => e = .returned (.int .i64 r) ∧ w = w' :=
  (h w).mono fun _ _ ⟨a, b⟩ => ⟨a, b.symm⟩

set_option maxHeartbeats 400000 in
set_option maxRecDepth 20000 in
theorem checked_empty (s : ByteArray) (a1 : Int) (a2 : Int) (w0 : s.size ≤ 140737488351232) (hemp : s.toList.isEmpty = true) (w : World)
    (hc : crc 8 7 s.data.toList = 0) (hd : crc 16 32773 s.data.toList = 0) :
    Calls Try.prog 7 #[.string s, .int .i64 a1, .int .i64 a2] w fun e w' => e = .returned (.bool true) ∧ Below w.heap.size w w' := by
  have hsl : s.size ≤ maxLen := by unfold maxLen; omega
  have g8 := same_of Try.prog 12 #[.string s] 0 (fun w => (crc8_any s w hsl).mono fun e w' ⟨a, b⟩ => ⟨by rw [a, hc]; rfl, b⟩)
  have g16 := same_of Try.prog 13 #[.string s] 0 (fun w => (crc16_any s w hsl).mono fun e w' ⟨a, b⟩ => ⟨by rw [a, hd]; rfl, b⟩)
  have k3 := same_of _ _ _ _ (call3 s 0 w0 hc)
  have k4 := fun x y hx hy => same_of _ _ _ _ (call4 s 0 w0 hd x y hx hy)
  have k5 := same_of _ _ _ _ call5
  have k6 := same_of _ _ _ _ call6
  clear hc hd hsl
  have v1 := cv1
  have z1 : ∀ c : Int, (strOfNums [c]).size = 1 := fun c => strOfNums_size [c]
  have z2 : ∀ c d : Int, (strOfNums [c, d]).size = 2 := fun c d => strOfNums_size [c, d]
  have v2 := cv2
  have v3 := fun w s => run_bytes_of_string (P := Try.prog) w 9 59 5 s Try.underlying9 Try.underlying59 Try.underlying5
  have t1 : True := trivial
  have t2 : True := trivial
  have t3 : True := trivial
  have t4 : True := trivial
  have t5 : True := trivial
  have t6 : True := trivial
  go_enter Try.func7, Try.ntmps7
  go_wp2_with (first
    | (go_at_call 12; have _t := t1; refine (g8 _).mono ?_; rintro e w' ⟨rfl, rfl⟩; clear _t t1)
    | (go_at_call 13; have _t := t2; refine (g16 _).mono ?_; rintro e w' ⟨rfl, rfl⟩; clear _t t2)
    | (go_at_call 12; have _t := t3; refine (k3 _).mono ?_; rintro e w' ⟨rfl, rfl⟩; clear _t t3)
    | (go_at_call 13; have _t := t4; refine (k4 _ _ (by omega) (by omega) _).mono ?_; rintro e w' ⟨rfl, rfl⟩; clear _t t4)
    | (go_at_call 12; have _t := t5; refine (k5 _).mono ?_; rintro e w' ⟨rfl, rfl⟩; clear _t t5)
    | (go_at_call 13; have _t := t6; refine (k6 _).mono ?_; rintro e w' ⟨rfl, rfl⟩; clear _t t6))
  go_ret
  exact ⟨rfl, ((Below.refl _ _).alloc (Nat.le_refl _) _).alloc (by simp) _⟩

set_option maxHeartbeats 400000 in
set_option maxRecDepth 20000 in
theorem checked_some (s : ByteArray) (a1 : Int) (a2 : Int) (w0 : s.size ≤ 140737488351232) (hne : s.toList.isEmpty = false) (w : World)
    (h1 : -9223372036854775808 ≤ a1) (h2 : a1 ≤ 9223372036854775807) (h3 : -9223372036854775808 ≤ a2) (h4 : a2 ≤ 9223372036854775807) :
    Calls Try.prog 7 #[.string s, .int .i64 a1, .int .i64 a2] w fun e w' => e = .returned (.bool true) ∧ Below w.heap.size w w' := by
  obtain ⟨c, hc⟩ : ∃ c : Nat, crc 8 7 s.data.toList = c := ⟨_, rfl⟩
  obtain ⟨d, hd⟩ : ∃ d : Nat, crc 16 32773 s.data.toList = d := ⟨_, rfl⟩
  have hsl : s.size ≤ maxLen := by unfold maxLen; omega
  have g8 := same_of Try.prog 12 #[.string s] c (fun w => hc ▸ crc8_any s w hsl)
  have g16 := same_of Try.prog 13 #[.string s] d (fun w => hd ▸ crc16_any s w hsl)
  have hc1 : c < 256 := hc ▸ crc_lt 8 7 (by omega) (by omega) _
  have hd1 : d < 65536 := hd ▸ crc_lt 16 32773 (by omega) (by omega) _
  have HC : Hid (crc 8 7 s.data.toList = c) := hc
  have HD : Hid (crc 16 32773 s.data.toList = d) := hd
  have hs1 : 1 ≤ s.size := by
    rcases Nat.eq_zero_or_pos s.size with h | h
    · have h5 : s.data.toList.length = 0 := by simpa using h
      rw [ByteArray.toList_eq, List.length_eq_zero_iff.1 h5] at hne
      cases hne
    · exact h
  have k3 := same_of _ _ _ _ (call3 s c w0 hc)
  have k4 := fun x y hx hy => same_of _ _ _ _ (call4 s d w0 hd x y hx hy)
  have k5 := same_of _ _ _ _ call5
  have k6 := same_of _ _ _ _ call6
  clear hc hd hsl
  have v1 := cv1
  have z1 : ∀ c : Int, (strOfNums [c]).size = 1 := fun c => strOfNums_size [c]
  have z2 : ∀ c d : Int, (strOfNums [c, d]).size = 2 := fun c d => strOfNums_size [c, d]
  have v2 := cv2
  have v3 := fun w s => run_bytes_of_string (P := Try.prog) w 9 59 5 s Try.underlying9 Try.underlying59 Try.underlying5
  have t1 : True := trivial
  have t2 : True := trivial
  have t3 : True := trivial
  have t4 : True := trivial
  have t5 : True := trivial
  have t6 : True := trivial
  go_enter Try.func7, Try.ntmps7
  go_wp2_with (first
    | (go_at_call 12; have _t := t1; refine (g8 _).mono ?_; rintro e w' ⟨rfl, rfl⟩; clear _t t1)
    | (go_at_call 13; have _t := t2; refine (g16 _).mono ?_; rintro e w' ⟨rfl, rfl⟩; clear _t t2)
    | (go_at_call 12; have _t := t3; refine (k3 _).mono ?_; rintro e w' ⟨rfl, rfl⟩; clear _t t3)
    | (go_at_call 13; have _t := t4; refine (k4 _ _ (by omega) (by omega) _).mono ?_; rintro e w' ⟨rfl, rfl⟩; clear _t t4)
    | (go_at_call 12; have _t := t5; refine (k5 _).mono ?_; rintro e w' ⟨rfl, rfl⟩; clear _t t5)
    | (go_at_call 13; have _t := t6; refine (k6 _).mono ?_; rintro e w' ⟨rfl, rfl⟩; clear _t t6))
  refine (pick_any _ s.size _ h1 h2 hs1 (by omega)).mono ?_
  rintro e w2 ⟨k, hk, rfl, hw2⟩
  generalize hcap : grownCap _ s.size 0 5 = cap at hw2 ⊢
  have hb2 : Below w.heap.size w w2 := by
    rw [hw2]
    exact ((((Below.refl _ _).alloc (Nat.le_refl _) _).alloc (by simp) _).alloc (by simp; omega) _).drew
  have HALL : Hid (∀ j (hj : j < s.size), w2.cell? ⟨w.heap.size + 1 + 1, j, none⟩ = some (.int .u8 (s[j].toNat : Int))) := by
    intro j hj
    rw [hw2]
    exact row_cell _ s cap j hj (by simp)
  have hcell := HALL.out k hk
  have hfro : w2.frozen? ⟨w.heap.size + 1 + 1, k, none⟩ = false := by
    rw [hw2]
    exact row_frozen _ s cap k hk (by simp)
  clear hw2
  go_wp2
  go_region_with (go_at_call 30; refine (pick_any _ 255 _ h3 h4 (by omega) (by omega)).mono ?_; rintro e w2 ⟨x, hx, rfl, rfl⟩)
  all_goals
    obtain ⟨s', y, hs', hd', hy, hv⟩ := turned w2 (w.heap.size + 1 + 1) k cap x s hk hx HALL.out
    have hb4 := (hb2.setCell (p := ⟨w.heap.size + 1 + 1, k, none⟩) (by simp; omega) (Value.int .u8 (bits .xor .u8 (s[k].toNat : Int) (IntKind.u8.wrap (IntKind.i64.wrap (1 + (x : Int))))))).drew
    generalize (w2.setCell _ _).drew = w4 at hv hb4 ⊢
    clear hb2 hcell hfro HALL hcap
    obtain ⟨c', hc'⟩ : ∃ c' : Nat, crc 8 7 s'.data.toList = c' := ⟨_, rfl⟩
    obtain ⟨d', hd''⟩ : ∃ d' : Nat, crc 16 32773 s'.data.toList = d' := ⟨_, rfl⟩
    have hsl : s'.size ≤ maxLen := by unfold maxLen; omega
    have g8' := same_of Try.prog 12 #[.string s'] c' (fun w => hc' ▸ crc8_any s' w hsl)
    have g16' := same_of Try.prog 13 #[.string s'] d' (fun w => hd'' ▸ crc16_any s' w hsl)
    have hlk : k < s.data.toList.length := by simpa using hk
    have n8 : c' ≠ c := by
      rw [← hc', ← HC.out, hd']
      exact crc_turned 8 7 (by omega) (by omega) (by omega) _ k hlk y hy
    have n16 : d' ≠ d := by
      rw [← hd'', ← HD.out, hd']
      exact crc_turned 16 32773 (by omega) (by omega) (by omega) _ k hlk y hy
    have m8 : ((c' : Int) != (c : Int)) = true := by simp; omega
    have m16 : ((d' : Int) != (d : Int)) = true := by simp; omega
    clear hc' hd'' hd' hsl hlk n8 n16 HC HD
    go_wp2_with (first
      | (go_at_call 12; refine (g8' _).mono ?_; rintro e w5 ⟨rfl, rfl⟩)
      | (go_at_call 13; refine (g16' _).mono ?_; rintro e w5 ⟨rfl, rfl⟩))
    go_ret
    exact ⟨rfl, hb4⟩
end Go.Proofs.Ytncmgnmcggkhnaa
