import Derived.Test.YtncmgnmcggkhnaaG00
import Derived.Test.YtncmgnmcggkhnaaG01
import Derived.Laws.IdiomStrings
import Derived.Laws.BytesArg
import Derived.Laws.Concat
import Derived.Deep.RegionWith
import Derived.Test.YtncmgnmcggkhnaaG28
import Derived.Deep.AppendLies
import Derived.Deep.DeepCutAuto
import Derived.Deep.CutBlock
/-
  Plain mathematics of check sums, more: a sum behind its own bytes; a byte that is turned.
-/
namespace Go.Proofs.Ytncmgnmcggkhnaa
open Go.RowKit

theorem split_xor (b m : Nat) : b = (b / 2 ^ m * 2 ^ m) ^^^ (b % 2 ^ m) := by
  have hlow : b % 2 ^ m < 2 ^ m := Nat.mod_lt _ (Nat.two_pow_pos m)
  have h := Nat.two_pow_add_eq_or_of_lt hlow (b / 2 ^ m)
  have hd := Nat.div_add_mod b (2 ^ m)
  rw [hd] at h
  apply Nat.eq_of_testBit_eq
  intro i
  rw [Nat.testBit_xor]
  have hb' : b.testBit i = (2 ^ m * (b / 2 ^ m) ||| b % 2 ^ m).testBit i := by rw [← h]
  rw [hb', Nat.testBit_or, Nat.mul_comm]
  by_cases hi : i < m
  · rw [show b / 2 ^ m * 2 ^ m = 2 ^ m * (b / 2 ^ m) from Nat.mul_comm _ _, Nat.testBit_two_pow_mul]
    simp [show ¬ m ≤ i by omega]
  · have : (b % 2 ^ m).testBit i = false := Nat.testBit_lt_two_pow (Nat.lt_of_lt_of_le hlow (Nat.pow_le_pow_right (by omega) (by omega)))
    simp [this]

theorem xor_eq_zero_iff' {a b : Nat} (h : a ^^^ b = 0) : a = b := by
  have := congrArg (a ^^^ ·) h
  simpa [← Nat.xor_assoc] using this.symm

theorem xor_left_cancel' {r a b : Nat} (h : r ^^^ a = r ^^^ b) : a = b := by
  have := congrArg (r ^^^ ·) h
  simpa [← Nat.xor_assoc] using this

theorem dbl_zero (w g a : Nat) (hw : 1 ≤ w) (hg : g % 2 = 1) (ha : a < 2 ^ w) (h : dbl w g a = 0) : a = 0 := by
  have e : 2 ^ w = 2 * 2 ^ (w - 1) := by rw [← Nat.pow_succ']; congr 1; omega
  have hp := Nat.two_pow_pos (w - 1)
  unfold dbl at h
  rcases div_two_pow_01 w a hw ha with h1 | h1
  · rw [h1] at h
    have h0 : a < 2 ^ (w - 1) := by
      rcases Nat.lt_or_ge a (2 ^ (w - 1)) with h2 | h2
      · exact h2
      · have := (Nat.le_div_iff_mul_le hp).2 (show 1 * 2 ^ (w - 1) ≤ a by omega)
        omega
    simp at h
    rw [Nat.mod_eq_of_lt (by omega)] at h
    omega
  · rw [h1, if_pos rfl] at h
    have h2 := xor_eq_zero_iff' h
    have h3 : a * 2 % 2 ^ w % 2 = 0 := by
      rw [e, Nat.mod_mul_right_mod]
      omega
    omega

theorem dbl_inj (w g a b : Nat) (hw : 1 ≤ w) (hg : g % 2 = 1) (ha : a < 2 ^ w) (hb : b < 2 ^ w) (h : dbl w g a = dbl w g b) : a = b := by
  apply xor_eq_zero_iff'
  apply dbl_zero w g _ hw hg (Nat.xor_lt_two_pow ha hb)
  rw [dbl_xor w g a b hw ha hb, h, Nat.xor_self]

theorem dblN_inj (w g : Nat) (hw : 1 ≤ w) (hg : g % 2 = 1) (hgl : g < 2 ^ w) : ∀ n a b, a < 2 ^ w → b < 2 ^ w → dblN w g n a = dblN w g n b → a = b
  | 0, _, _, _, _, h => h
  | n + 1, a, b, ha, hb, h => dbl_inj w g a b hw hg ha hb (dblN_inj w g hw hg hgl n _ _ (dbl_lt w g a hgl) (dbl_lt w g b hgl) h)

theorem byte_lt (w b : Nat) (hw : 8 ≤ w) (hb : b < 256) : b * 2 ^ (w - 8) < 2 ^ w := by
  have e : 2 ^ w = 256 * 2 ^ (w - 8) := by
    rw [show (256 : Nat) = 2 ^ 8 from rfl, ← Nat.pow_add]; congr 1; omega
  rw [e]
  exact Nat.mul_lt_mul_of_pos_right hb (Nat.two_pow_pos _)

theorem byteStep_inj (w g r r' b b' : Nat) (hw : 8 ≤ w) (hg : g % 2 = 1) (hgl : g < 2 ^ w) (hr : r < 2 ^ w) (hr' : r' < 2 ^ w) (hb : b < 256) (hb' : b' < 256)
    (h : byteStep w g r b = byteStep w g r' b') : r ^^^ b * 2 ^ (w - 8) = r' ^^^ b' * 2 ^ (w - 8) :=
  dblN_inj w g (by omega) hg hgl 8 _ _ (Nat.xor_lt_two_pow hr (byte_lt w b hw hb)) (Nat.xor_lt_two_pow hr' (byte_lt w b' hw hb')) h

theorem xor_right_cancel' {a b r : Nat} (h : a ^^^ r = b ^^^ r) : a = b := by
  rw [Nat.xor_comm a r, Nat.xor_comm b r] at h
  exact xor_left_cancel' h

theorem crcFrom_inj (w g : Nat) (hw : 8 ≤ w) (hg : g % 2 = 1) (hgl : g < 2 ^ w) : ∀ (l : List UInt8) (r r' : Nat), r < 2 ^ w → r' < 2 ^ w → crcFrom w g r l = crcFrom w g r' l → r = r'
  | [], _, _, _, _, h => h
  | b :: l, r, r', hr, hr', h =>
    xor_right_cancel' (byteStep_inj w g r r' _ _ hw hg hgl hr hr' b.toNat_lt b.toNat_lt
      (crcFrom_inj w g hw hg hgl l _ _ (byteStep_lt w g r _ hw hgl hr b.toNat_lt) (byteStep_lt w g r' _ hw hgl hr' b.toNat_lt) h))

theorem crcFrom_append (w g r : Nat) (l m : List UInt8) : crcFrom w g r (l ++ m) = crcFrom w g (crcFrom w g r l) m := by
  unfold crcFrom; simp

/-- a byte that is turned is seen -/
theorem crc_turned (w g : Nat) (hw : 8 ≤ w) (hg : g % 2 = 1) (hgl : g < 2 ^ w) (l : List UInt8) (k : Nat) (hk : k < l.length) (x : UInt8) (hx : x ≠ l[k]) :
    crc w g (l.set k x) ≠ crc w g l := by
  intro h
  apply hx
  have e1 : l.set k x = l.take k ++ x :: l.drop (k + 1) := List.set_eq_take_append_cons_drop.trans (if_pos hk)
  have e2 : l = l.take k ++ l[k] :: l.drop (k + 1) := by simp
  rw [e1] at h
  conv at h => rhs; rw [e2]
  unfold crc at h
  rw [crcFrom_append, crcFrom_append] at h
  have hlt := crcFrom_lt w g hw hgl (l.take k) 0 (Nat.two_pow_pos _)
  have h2 := crcFrom_inj w g hw hg hgl (l.drop (k + 1)) _ _ (byteStep_lt w g _ x.toNat hw hgl hlt x.toNat_lt) (byteStep_lt w g _ (l[k]).toNat hw hgl hlt (l[k]).toNat_lt) h
  have h3 := xor_left_cancel' (byteStep_inj w g _ _ _ _ hw hg hgl hlt hlt x.toNat_lt (l[k]).toNat_lt h2)
  have h4 := Nat.eq_of_mul_eq_mul_right (Nat.two_pow_pos _) h3
  exact UInt8.toNat_inj.1 h4

theorem self8 (l : List UInt8) (b : UInt8) (h : b.toNat = crc 8 7 l) : crc 8 7 (l ++ [b]) = 0 := by
  rw [crc_snoc, ← h]
  unfold byteStep
  rw [Nat.sub_self, Nat.pow_zero, Nat.mul_one, Nat.xor_self]
  decide +kernel

theorem low16 : ∀ x : Fin 256, dblN 16 32773 8 x.val = x.val * 256 := by decide +kernel

theorem self16 (l : List UInt8) (b c : UInt8) (hb : b.toNat = crc 16 32773 l / 256) (hc : c.toNat = crc 16 32773 l % 256) : crc 16 32773 (l ++ [b, c]) = 0 := by
  rw [show l ++ [b, c] = (l ++ [b]) ++ [c] by simp, crc_snoc, crc_snoc]
  have e := split_xor (crc 16 32773 l) 8
  have hx : crc 16 32773 l ^^^ b.toNat * 2 ^ 8 = c.toNat := by
    rw [hb, hc]
    conv => lhs; lhs; rw [e]
    rw [Nat.xor_comm, ← Nat.xor_assoc]
    show crc 16 32773 l / 256 * 256 ^^^ crc 16 32773 l / 256 * 256 ^^^ _ = _
    rw [Nat.xor_self, Nat.zero_xor]
  have h1 : byteStep 16 32773 (crc 16 32773 l) b.toNat = c.toNat * 256 := by
    unfold byteStep
    show dblN 16 32773 8 (crc 16 32773 l ^^^ b.toNat * 2 ^ 8) = _
    rw [hx]
    exact low16 ⟨c.toNat, c.toNat_lt⟩
  rw [h1]
  unfold byteStep
  show dblN 16 32773 8 (c.toNat * 256 ^^^ c.toNat * 256) = 0
  rw [Nat.xor_self]
  decide +kernel

end Go.Proofs.Ytncmgnmcggkhnaa

namespace Go.Proofs.Ytncmgnmcggkhnaa
open Go.RowKit

set_option maxHeartbeats 400000 in
theorem pick_any (c : Int) (n : Nat) (w : World) (h0 : -9223372036854775808 ≤ c) (h1 : c ≤ 9223372036854775807) (hn : 1 ≤ n) (hn1 : n ≤ 9223372036854775807) :
    Calls Try.prog 30 #[.int .i64 c, .int .i64 n] w fun e w' => ∃ k : Nat, k < n ∧ e = .returned (.int .i64 k) ∧ w' = w := by
  have hn' : (n : Int) ≠ 0 := by omega
  by_cases hc : c < 0
  · go_enter Try.func30, Try.ntmps30
    go_wp2
    go_ret
    refine ⟨((-(c + 1)) % n).toNat, ?_, ret_int ?_, rfl⟩
    · have := Int.emod_lt_of_pos (-(c + 1)) (show (0 : Int) < n by omega)
      have := Int.emod_nonneg (-(c + 1)) hn'
      omega
    · have := Int.emod_nonneg (-(c + 1)) hn'
      rw [← Int.neg_tmod, Int.tmod_eq_emod_of_nonneg (by omega)]
      omega
  · go_enter Try.func30, Try.ntmps30
    go_wp2
    go_ret
    refine ⟨(c % n).toNat, ?_, ret_int ?_, rfl⟩
    · have := Int.emod_lt_of_pos c (show (0 : Int) < n by omega)
      have := Int.emod_nonneg c hn'
      omega
    · have := Int.emod_nonneg c hn'
      omega

theorem cv1 (w : World) (c : Int) : (convert 59 9 (.slice (some ⟨w.heap.size, 0, none⟩) 1 1)).run Try.prog (w.alloc (.cells #[.int .u8 c] 5)) = .ok (.string (strOfNums [c])) (w.alloc (.cells #[.int .u8 c] 5)) :=
  run_convert_bytes_arg _ 59 5 Try.underlying59 Try.underlying5 w.heap.size 0 1 1 [c] rfl (fun i hi => by
    obtain rfl : i = 0 := by omega
    rw [World.cell?_alloc_new]; rfl) 9 Try.underlying9

theorem cv2 (w : World) (o : Obj) (c d : Int) : (convert 59 9 (.slice (some ⟨w.heap.size + 1, 0, none⟩) 2 2)).run Try.prog ((w.alloc o).alloc (.cells #[.int .u8 c, .int .u8 d] 5)) = .ok (.string (strOfNums [c, d])) ((w.alloc o).alloc (.cells #[.int .u8 c, .int .u8 d] 5)) :=
  run_convert_bytes_arg _ 59 5 Try.underlying59 Try.underlying5 (w.heap.size + 1) 0 2 2 [c, d] rfl (fun i hi => by
    rcases (show i = 0 ∨ i = 1 by omega) with rfl | rfl <;> (rw [World.cell?_alloc_at _ _ _ _ (by simp)]; rfl)) 9 Try.underlying9

theorem append_data (s : ByteArray) (xs : List Int) : (s ++ strOfNums xs).data.toList = s.data.toList ++ xs.map fun n => UInt8.ofNat n.toNat := by
  rw [ByteArray.data_append]; simp [strOfNums]

theorem call3 (s : ByteArray) (c : Nat) (hs : s.size ≤ 140737488351232) (hc : crc 8 7 s.data.toList = c) (w : World) :
    Calls Try.prog 12 #[.string (s ++ strOfNums [(c : Int)])] w fun e w' => e = .returned (.int .i64 0) ∧ w' = w := by
  have hc1 : c < 256 := hc ▸ crc_lt 8 7 (by omega) (by omega) _
  refine (crc8_any _ w (by rw [ByteArray.size_append, strOfNums_size]; unfold maxLen; simp; omega)).mono ?_
  rintro e w' ⟨rfl, rfl⟩
  refine ⟨ret_int ?_, rfl⟩
  rw [append_data]
  have := self8 s.data.toList (UInt8.ofNat (c : Int).toNat) (by rw [hc]; simp; omega)
  exact congrArg Int.ofNat this

theorem call4 (s : ByteArray) (d : Nat) (hs : s.size ≤ 140737488351232) (hd : crc 16 32773 s.data.toList = d) (x y : Int) (hx : x = d / 256) (hy : y = d % 256) (w : World) :
    Calls Try.prog 13 #[.string (s ++ strOfNums [x, y])] w fun e w' => e = .returned (.int .i64 0) ∧ w' = w := by
  have hd1 : d < 65536 := hd ▸ crc_lt 16 32773 (by omega) (by omega) _
  refine (crc16_any _ w (by rw [ByteArray.size_append, strOfNums_size]; unfold maxLen; simp; omega)).mono ?_
  rintro e w' ⟨rfl, rfl⟩
  refine ⟨ret_int ?_, rfl⟩
  rw [append_data]
  have := self16 s.data.toList (UInt8.ofNat x.toNat) (UInt8.ofNat y.toNat) (by rw [hd]; simp; omega) (by rw [hd]; simp; omega)
  exact congrArg Int.ofNat this

theorem one8 : crc 8 7 [1] = 7 := by decide +kernel
theorem one16 : crc 16 32773 [1] = 32773 := by decide +kernel

theorem call5 (w : World) : Calls Try.prog 12 #[.string ⟨#[1]⟩] w fun e w' => e = .returned (.int .i64 7) ∧ w' = w := by
  refine (crc8_any _ w (by decide)).mono ?_
  rintro e w' ⟨rfl, rfl⟩
  exact ⟨ret_int (congrArg Int.ofNat one8), rfl⟩

theorem call6 (w : World) : Calls Try.prog 13 #[.string ⟨#[1]⟩] w fun e w' => e = .returned (.int .i64 32773) ∧ w' = w := by
  refine (crc16_any _ w (by decide)).mono ?_
  rintro e w' ⟨rfl, rfl⟩
  exact ⟨ret_int (congrArg Int.ofNat one16), rfl⟩

theorem row_get (s : ByteArray) (cap k : Nat) (hk : k < s.size) : (bytesRow s cap)[k]? = some (.int .u8 (s[k].toNat : Int)) := by
  unfold bytesRow
  have h : k < s.data.size := hk
  rw [Array.getElem?_append_left (by simpa using h), Array.getElem?_map, Array.getElem?_eq_getElem h]
  rfl

theorem row_size (s : ByteArray) (cap : Nat) : s.size ≤ (bytesRow s cap).size := by
  unfold bytesRow
  rw [Array.size_append, Array.size_map]
  exact Nat.le_add_right _ _

theorem row_cell (w : World) (s : ByteArray) (cap k : Nat) (hk : k < s.size) {b : Nat} (hb : b = w.heap.size) :
    (w.alloc (.cells (bytesRow s cap) 5 ((bytesRow s cap).size, (bytesRow s cap).size + 1))).drew.cell? ⟨b, k, none⟩ = some (.int .u8 (s[k].toNat : Int)) := by
  subst hb
  rw [World.cell?_drew, World.cell?_alloc_mark, row_get s cap k hk]

theorem row_frozen (w : World) (s : ByteArray) (cap k : Nat) (hk : k < s.size) {b : Nat} (hb : b = w.heap.size) :
    (w.alloc (.cells (bytesRow s cap) 5 ((bytesRow s cap).size, (bytesRow s cap).size + 1))).drew.frozen? ⟨b, k, none⟩ = false := by
  subst hb
  have h := row_size s cap
  have e : (w.alloc (.cells (bytesRow s cap) 5 ((bytesRow s cap).size, (bytesRow s cap).size + 1))).drew.heap[w.heap.size]? = some (.cells (bytesRow s cap) 5 ((bytesRow s cap).size, (bytesRow s cap).size + 1)) := by
    show (w.heap.push _)[w.heap.size]? = _
    simp
  unfold World.frozen?
  simp only [e]
  simp
  omega

theorem bits_xor_u8 (a b : Nat) (ha : a < 256) (hb : b < 256) : bits .xor .u8 (a : Int) (b : Int) = ((a ^^^ b : Nat) : Int) := by
  have hx : a ^^^ b < 2 ^ 8 := Nat.xor_lt_two_pow (by omega) (by omega)
  have e : (BitVec.ofInt 8 (a : Int) ^^^ BitVec.ofInt 8 (b : Int)).toNat = a ^^^ b := by
    rw [BitVec.toNat_xor, BitVec.toNat_ofInt, BitVec.toNat_ofInt]
    congr 1 <;> omega
  show IntKind.wrap .u8 ((BitVec.ofInt 8 (a : Int) ^^^ BitVec.ofInt 8 (b : Int)).toNat : Int) = _
  rw [e, IntKind.wrap_u8]
  omega

theorem turned (w : World) (b k cap x : Nat) (s : ByteArray) (hk : k < s.size) (hx : x < 255)
    (hc : ∀ j (hj : j < s.size), w.cell? ⟨b, j, none⟩ = some (.int .u8 (s[j].toNat : Int))) :
    ∃ s' : ByteArray, ∃ y : UInt8, s'.size = s.size ∧ s'.data.toList = s.data.toList.set k y ∧ y ≠ s[k] ∧
      (convert 59 9 (.slice (some ⟨b, 0, none⟩) s.size cap)).run Try.prog (w.setCell ⟨b, k, none⟩ (.int .u8 (bits .xor .u8 (s[k].toNat : Int) (IntKind.u8.wrap (IntKind.i64.wrap (1 + (x : Int))))))).drew
        = .ok (.string s') (w.setCell ⟨b, k, none⟩ (.int .u8 (bits .xor .u8 (s[k].toNat : Int) (IntKind.u8.wrap (IntKind.i64.wrap (1 + (x : Int))))))).drew := by
  have hlt := s[k].toNat_lt
  have ev : bits .xor .u8 (s[k].toNat : Int) (IntKind.u8.wrap (IntKind.i64.wrap (1 + (x : Int)))) = ((s[k].toNat ^^^ (x + 1) : Nat) : Int) := by
    rw [IntKind.wrap_u8, IntKind.wrap_i64, show ((1 + (x : Int) + 9223372036854775808) % 18446744073709551616 - 9223372036854775808) % 256 = ((x + 1 : Nat) : Int) by omega]
    exact bits_xor_u8 _ _ hlt (by omega)
  rw [ev]
  generalize hv : s[k].toNat ^^^ (x + 1) = v
  have hv1 : v < 256 := by rw [← hv]; exact Nat.xor_lt_two_pow (n := 8) hlt (by omega)
  have hv2 : v ≠ s[k].toNat := by
    intro h
    rw [← hv] at h
    have := xor_left_cancel' (r := s[k].toNat) (a := x + 1) (b := 0) (by rw [h, Nat.xor_zero])
    omega
  have hl : s.data.toList.length = s.size := by simp
  refine ⟨strOfNums ((s.data.toList.map fun z => (z.toNat : Int)).set k v), UInt8.ofNat v, ?_, ?_, ?_, ?_⟩
  · rw [strOfNums_size]; simp
  · rw [strOfNums_data, List.map_set]
    congr 1
    rw [List.map_map]
    conv => rhs; rw [← List.map_id s.data.toList]
    apply List.map_congr_left
    intro z _
    simp
  · intro h
    apply hv2
    rw [← h]
    simp
    omega
  · refine run_convert_bytes_arg _ 59 5 Try.underlying59 Try.underlying5 b 0 s.size cap _ (by simp) (fun i hi => ?_) 9 Try.underlying9
    rw [World.cell?_drew, Nat.zero_add]
    by_cases hik : i = k
    · subst hik
      rw [World.cell?_setCell_same _ _ _ (hc i hi)]
      simp [List.getD, hi]
    · rw [World.cell?_setCell_other _ _ _ _ (fun h => hik (by injection h with _ h2; exact h2.symm)), hc i hi]
      have hi' : i < s.data.size := hi
      simp [List.getD, Ne.symm hik]
      rw [Array.getElem?_eq_getElem hi']
      rfl

theorem same_of (P : Program) (f : Nat) (args : Array Value) (r : Int) (h : ∀ w, Calls P f args w fun e w' => e = .returned (.int .i64 r) ∧ w' = w) (w : World) :
    Calls P f args w fun e w' => e = .returned (.int .i64 r) ∧ w = w' :=
  (h w).mono fun _ _ ⟨a, b⟩ => ⟨a, b.symm⟩

set_option maxHeartbeats 400000 in
set_option maxRecDepth 20000 in
theorem checked_empty (s : ByteArray) (a1 : Int) (a2 : Int) (w0 : s.size ≤ 140737488351232) (hemp : s.toList.isEmpty = true) (w : World)
    (hc : crc 8 7 s.data.toList = 0) (hd : crc 16 32773 s.data.toList = 0) :
    Calls Try.prog 7 #[.string s, .int .i64 a1, .int .i64 a2] w fun e w' => e = .returned (.bool true) ∧ Below w.heap.size w w' := by
  have hsl : s.size ≤ maxLen := by unfold maxLen; omega
  have g8 := same_of Try.prog 12 #[.string s] 0 (fun w => (crc8_any s w hsl).mono fun e w' ⟨a, b⟩ => ⟨by rw [a, hc]; rfl, b⟩)
  have g16 := same_of Try.prog 13 #[.string s] 0 (fun w => (crc16_any s w hsl).mono fun e w' ⟨a, b⟩ => ⟨by rw [a, hd]; rfl, b⟩)
  have k3 := same_of _ _ _ _ (call3 s 0 w0 hc)
  have k4 := fun x y hx hy => same_of _ _ _ _ (call4 s 0 w0 hd x y hx hy)
  have k5 := same_of _ _ _ _ call5
  have k6 := same_of _ _ _ _ call6
  clear hc hd hsl
  have v1 := cv1
  have z1 : ∀ c : Int, (strOfNums [c]).size = 1 := fun c => strOfNums_size [c]
  have z2 : ∀ c d : Int, (strOfNums [c, d]).size = 2 := fun c d => strOfNums_size [c, d]
  have v2 := cv2
  have v3 := fun w s => run_bytes_of_string (P := Try.prog) w 9 59 5 s Try.underlying9 Try.underlying59 Try.underlying5
  have t1 : True := trivial
  have t2 : True := trivial
  have t3 : True := trivial
  have t4 : True := trivial
  have t5 : True := trivial
  have t6 : True := trivial
  go_enter Try.func7, Try.ntmps7
  go_wp2_with (first
    | (go_at_call 12; have _t := t1; refine (g8 _).mono ?_; rintro e w' ⟨rfl, rfl⟩; clear _t t1)
    | (go_at_call 13; have _t := t2; refine (g16 _).mono ?_; rintro e w' ⟨rfl, rfl⟩; clear _t t2)
    | (go_at_call 12; have _t := t3; refine (k3 _).mono ?_; rintro e w' ⟨rfl, rfl⟩; clear _t t3)
    | (go_at_call 13; have _t := t4; refine (k4 _ _ (by omega) (by omega) _).mono ?_; rintro e w' ⟨rfl, rfl⟩; clear _t t4)
    | (go_at_call 12; have _t := t5; refine (k5 _).mono ?_; rintro e w' ⟨rfl, rfl⟩; clear _t t5)
    | (go_at_call 13; have _t := t6; refine (k6 _).mono ?_; rintro e w' ⟨rfl, rfl⟩; clear _t t6))
  go_ret
  exact ⟨rfl, ((Below.refl _ _).alloc (Nat.le_refl _) _).alloc (by simp) _⟩

set_option maxHeartbeats 400000 in
set_option maxRecDepth 20000 in
theorem checked_some (s : ByteArray) (a1 : Int) (a2 : Int) (w0 : s.size ≤ 140737488351232) (hne : s.toList.isEmpty = false) (w : World)
    (h1 : -9223372036854775808 ≤ a1) (h2 : a1 ≤ 9223372036854775807) (h3 : -9223372036854775808 ≤ a2) (h4 : a2 ≤ 9223372036854775807) :
    Calls Try.prog 7 #[.string s, .int .i64 a1, .int .i64 a2] w fun e w' => e = .returned (.bool true) ∧ Below w.heap.size w w' := by
  obtain ⟨c, hc⟩ : ∃ c : Nat, crc 8 7 s.data.toList = c := ⟨_, rfl⟩
  obtain ⟨d, hd⟩ : ∃ d : Nat, crc 16 32773 s.data.toList = d := ⟨_, rfl⟩
  have hsl : s.size ≤ maxLen := by unfold maxLen; omega
  have g8 := same_of Try.prog 12 #[.string s] c (fun w => hc ▸ crc8_any s w hsl)
  have g16 := same_of Try.prog 13 #[.string s] d (fun w => hd ▸ crc16_any s w hsl)
  have hc1 : c < 256 := hc ▸ crc_lt 8 7 (by omega) (by omega) _
  have hd1 : d < 65536 := hd ▸ crc_lt 16 32773 (by omega) (by omega) _
  have HC : Hid (crc 8 7 s.data.toList = c) := hc
  have HD : Hid (crc 16 32773 s.data.toList = d) := hd
  have hs1 : 1 ≤ s.size := by
    rcases Nat.eq_zero_or_pos s.size with h | h
    · have h5 : s.data.toList.length = 0 := by simpa using h
      rw [ByteArray.toList_eq, List.length_eq_zero_iff.1 h5] at hne
      cases hne
    · exact h
  have k3 := same_of _ _ _ _ (call3 s c w0 hc)
  have k4 := fun x y hx hy => same_of _ _ _ _ (call4 s d w0 hd x y hx hy)
  have k5 := same_of _ _ _ _ call5
  have k6 := same_of _ _ _ _ call6
  clear hc hd hsl
  have v1 := cv1
  have z1 : ∀ c : Int, (strOfNums [c]).size = 1 := fun c => strOfNums_size [c]
  have z2 : ∀ c d : Int, (strOfNums [c, d]).size = 2 := fun c d => strOfNums_size [c, d]
  have v2 := cv2
  have v3 := fun w s => run_bytes_of_string (P := Try.prog) w 9 59 5 s Try.underlying9 Try.underlying59 Try.underlying5
  have t1 : True := trivial
  have t2 : True := trivial
  have t3 : True := trivial
  have t4 : True := trivial
  have t5 : True := trivial
  have t6 : True := trivial
  go_enter Try.func7, Try.ntmps7
  go_wp2_with (first
    | (go_at_call 12; have _t := t1; refine (g8 _).mono ?_; rintro e w' ⟨rfl, rfl⟩; clear _t t1)
    | (go_at_call 13; have _t := t2; refine (g16 _).mono ?_; rintro e w' ⟨rfl, rfl⟩; clear _t t2)
    | (go_at_call 12; have _t := t3; refine (k3 _).mono ?_; rintro e w' ⟨rfl, rfl⟩; clear _t t3)
    | (go_at_call 13; have _t := t4; refine (k4 _ _ (by omega) (by omega) _).mono ?_; rintro e w' ⟨rfl, rfl⟩; clear _t t4)
    | (go_at_call 12; have _t := t5; refine (k5 _).mono ?_; rintro e w' ⟨rfl, rfl⟩; clear _t t5)
    | (go_at_call 13; have _t := t6; refine (k6 _).mono ?_; rintro e w' ⟨rfl, rfl⟩; clear _t t6))
  refine (pick_any _ s.size _ h1 h2 hs1 (by omega)).mono ?_
  rintro e w2 ⟨k, hk, rfl, hw2⟩
  generalize hcap : grownCap _ s.size 0 5 = cap at hw2 ⊢
  have hb2 : Below w.heap.size w w2 := by
    rw [hw2]
    exact ((((Below.refl _ _).alloc (Nat.le_refl _) _).alloc (by simp) _).alloc (by simp; omega) _).drew
  have HALL : Hid (∀ j (hj : j < s.size), w2.cell? ⟨w.heap.size + 1 + 1, j, none⟩ = some (.int .u8 (s[j].toNat : Int))) := by
    intro j hj
    rw [hw2]
    exact row_cell _ s cap j hj (by simp)
  have hcell := HALL.out k hk
  have hfro : w2.frozen? ⟨w.heap.size + 1 + 1, k, none⟩ = false := by
    rw [hw2]
    exact row_frozen _ s cap k hk (by simp)
  clear hw2
  go_wp2
  go_region_with (go_at_call 30; refine (pick_any _ 255 _ h3 h4 (by omega) (by omega)).mono ?_; rintro e w2 ⟨x, hx, rfl, rfl⟩)
  all_goals
    obtain ⟨s', y, hs', hd', hy, hv⟩ := turned w2 (w.heap.size + 1 + 1) k cap x s hk hx HALL.out
    have hb4 := (hb2.setCell (p := ⟨w.heap.size + 1 + 1, k, none⟩) (by simp; omega) (Value.int .u8 (bits .xor .u8 (s[k].toNat : Int) (IntKind.u8.wrap (IntKind.i64.wrap (1 + (x : Int))))))).drew
    generalize (w2.setCell _ _).drew = w4 at hv hb4 ⊢
    clear hb2 hcell hfro HALL hcap
    obtain ⟨c', hc'⟩ : ∃ c' : Nat, crc 8 7 s'.data.toList = c' := ⟨_, rfl⟩
    obtain ⟨d', hd''⟩ : ∃ d' : Nat, crc 16 32773 s'.data.toList = d' := ⟨_, rfl⟩
    have hsl : s'.size ≤ maxLen := by unfold maxLen; omega
    have g8' := same_of Try.prog 12 #[.string s'] c' (fun w => hc' ▸ crc8_any s' w hsl)
    have g16' := same_of Try.prog 13 #[.string s'] d' (fun w => hd'' ▸ crc16_any s' w hsl)
    have hlk : k < s.data.toList.length := by simpa using hk
    have n8 : c' ≠ c := by
      rw [← hc', ← HC.out, hd']
      exact crc_turned 8 7 (by omega) (by omega) (by omega) _ k hlk y hy
    have n16 : d' ≠ d := by
      rw [← hd'', ← HD.out, hd']
      exact crc_turned 16 32773 (by omega) (by omega) (by omega) _ k hlk y hy
    have m8 : ((c' : Int) != (c : Int)) = true := by simp; omega
    have m16 : ((d' : Int) != (d : Int)) = true := by simp; omega
    clear hc' hd'' hd' hsl hlk n8 n16 HC HD
    go_wp2_with (first
      | (go_at_call 12; refine (g8' _).mono ?_; rintro e w5 ⟨rfl, rfl⟩)
      | (go_at_call 13; refine (g16' _).mono ?_; rintro e w5 ⟨rfl, rfl⟩))
    go_ret
    exact ⟨rfl, hb4⟩
end Go.Proofs.Ytncmgnmcggkhnaa

namespace Go.Proofs.Ytncmgnmcggkhnaa
open Go.RowKit

/-- a sound that the laws make: right -/
def Made (rate bits m : Nat) (chs : List (List Int)) : Prop :=
  1 ≤ rate ∧ rate ≤ 655350 ∧ 4 ≤ bits ∧ bits ≤ 16 ∧ (chs.length = 1 ∨ chs.length = 2) ∧ ∀ c ∈ chs, c.length = m ∧ ∀ x ∈ c, fitsB bits x = true

def SoundPost (w : World) (m : Nat) (e : Ending) (w' : World) : Prop :=
  ∃ (rate bits : Nat) (lv : Value) (vs : List Value) (chs : List (List Int)), e = .returned (.agg #[.int .i64 rate, .int .i64 bits, lv]) ∧ w.grownBy w' none ∧ Subs w' w.heap.size lv vs chs ∧ Made rate bits m chs

/-- the loop over the channels -/
def SoI (w wr : World) (r rate bits m i : Nat) : Prop :=
  ∃ (lv : Value) (vs : List Value) (xss : List (List Int)), w.grownBy wr none ∧ Box wr r #[.int .i64 0, .int .i64 0, .slice none 0 0] 26 ∧ Box wr (r + 1) #[.int .i64 rate, .int .i64 bits, lv] 26 ∧ Subs wr (r + 2) lv vs xss ∧ xss.length = i ∧ r + 2 ≤ wr.heap.size ∧ ∀ c ∈ xss, c.length = m ∧ ∀ x ∈ c, fitsB bits x = true

/-- raw numbers that come in -/
def Rin (w : World) (v : Value) (raw : List Int) : Prop :=
  ∃ a c, v = .slice a raw.length c ∧ ∀ k, k < raw.length → ∃ b off, a = some ⟨b, off, none⟩ ∧ w.cell? ⟨b, off + k, none⟩ = some (.int .i64 (raw.getD k 0))

set_option maxHeartbeats 4000000 in
set_option maxRecDepth 20000 in
theorem ksound (w : World) (vr : Value) (raw : List Int) (wide channels rate : Int) (h : Rin w vr raw) (hrl : raw.length ≤ 9223372036854775807) (hr64 : ∀ x ∈ raw, -9223372036854775808 ≤ x ∧ x ≤ 9223372036854775807)
    (hw64 : -9223372036854775808 ≤ wide ∧ wide ≤ 9223372036854775807) (hc64 : -9223372036854775808 ≤ channels ∧ channels ≤ 9223372036854775807) (hra64 : -9223372036854775808 ≤ rate ∧ rate ≤ 9223372036854775807) :
    Calls Try.prog 31 #[vr, .int .i64 wide, .int .i64 channels, .int .i64 rate] w (SoundPost w (min raw.length 600)) := by
  obtain ⟨a, c, rfl, hat⟩ := h
  obtain ⟨n, hn⟩ : ∃ n, raw.length = n := ⟨_, rfl⟩
  rw [hn] at hrl ⊢
  have HN : Hid (raw.length = n) := hn
  have HH : Hid (∀ k, k < raw.length → ∃ b off, a = some ⟨b, off, none⟩ ∧ w.cell? ⟨b, off + k, none⟩ = some (.int .i64 (raw.getD k 0))) := hat
  clear hat
  obtain ⟨m, hm⟩ : ∃ m, min n 600 = m := ⟨_, rfl⟩
  rw [hm]
  have HM : Hid (min n 600 = m) := hm
  obtain ⟨r, hr⟩ : ∃ r, w.heap.size = r := ⟨_, rfl⟩
  obtain ⟨w0, hw0⟩ : ∃ w0, w.alloc (.cells #[.int .i64 0, .int .i64 0, .slice none 0 0] 26) = w0 := ⟨_, rfl⟩
  have hg0 : w.grownBy w0 none := by rw [← hw0]; exact grown_alloc (grown_refl _ _) _
  have hbr0 : Box w0 r #[.int .i64 0, .int .i64 0, .slice none 0 0] 26 := by rw [← hr, ← hw0]; exact Box.new _ _ _
  have hs0 : w0.heap.size = r + 1 := by rw [← hw0, ← hr]; simp
  have HW0 : Hid (w.alloc (.cells #[.int .i64 0, .int .i64 0, .slice none 0 0] 26) = w0) := hw0
  have HR : Hid (w.heap.size = r) := hr
  have HP1 : Calls _ _ #[_, .int .i64 655350] _ _ := pick_any rate 655350 w0 hra64.1 hra64.2 (by omega) (by omega)
  have HP2 : Calls _ _ #[_, .int .i64 13] _ _ := pick_any wide 13 w0 hw64.1 hw64.2 (by omega) (by omega)
  clear hn hm hw0 hr
  go_enter Try.func31, Try.ntmps31
  go_upto_region 1 with fail
  rw [HW0.out, HR.out]
  clear HW0
  go_wp2_with fail
  refine HP1.mono ?_
  rintro e w9 ⟨rn, hrn, rfl, rfl⟩
  clear HP1
  go_wp2_with fail
  refine HP2.mono ?_
  rintro e w9 ⟨bn, hbn, rfl, rfl⟩
  clear HP2
  have HP3 : ∀ wz, Calls _ _ #[_, .int .i64 2] wz _ := fun wz => pick_any channels 2 wz hc64.1 hc64.2 (by omega) (by omega)
  obtain ⟨bits, hbits⟩ : ∃ bits, 4 + bn = bits := ⟨_, rfl⟩
  obtain ⟨rt, hrt⟩ : ∃ rt, 1 + rn = rt := ⟨_, rfl⟩
  have hbz : 4 + (bn : Int) = (bits : Int) := by omega
  have hrz : 1 + (rn : Int) = (rt : Int) := by omega
  have hb416 : 4 ≤ bits ∧ bits ≤ 16 := by omega
  have hr1 : 1 ≤ rt ∧ rt ≤ 655350 := by omega
  obtain ⟨w1, hw1⟩ : ∃ w1, w9.alloc (.cells #[.int .i64 rt, .int .i64 bits, .slice none 0 0] 26) = w1 := ⟨_, rfl⟩
  have hg1 : w9.grownBy w1 none := by rw [← hw1]; exact grown_alloc (grown_refl _ _) _
  have hbs1 : Box w1 (r + 1) #[.int .i64 rt, .int .i64 bits, .slice none 0 0] 26 := by rw [← hs0, ← hw1]; exact Box.new _ _ _
  have hs1 : w1.heap.size = r + 2 := by rw [← hw1]; simp; omega
  have hI0 : SoI w w1 r rt bits m 0 := ⟨.slice none 0 0, [], [], grown_trans hg0 hg1, hbr0.kept hg1 (by simp), hbs1, Subs.nil _ _, rfl, by omega, fun c hc => by cases hc⟩
  have HW1 : Hid (w9.alloc (.cells #[.int .i64 rt, .int .i64 bits, .slice none 0 0] 26) = w1) := hw1
  have HS0 : Hid (w9.heap.size = r + 1) := hs0
  have s1 : w1.cell? ⟨r + 1, 1, none⟩ = some (.int .i64 bits) := hbs1.cell 1
  clear hbits hrt hrn hbn hw1 hs0 hg1 hbs1 hbr0 hg0 hs1
  go_upto_region 2 with fail
  rw [HW1.out, HS0.out]
  clear HW1 HS0 hbz hrz
  have HP3' := HP3 w1
  have hpow : (1 : Int) ≤ 2 ^ (bits - 1) ∧ (2 : Int) ^ (bits - 1) ≤ 32768 := by
    have h1 : 2 ^ (bits - 1) ≤ 2 ^ 15 := Nat.pow_le_pow_right (by omega) (by omega)
    have h2 := Nat.two_pow_pos (bits - 1)
    rw [show (2 : Int) ^ (bits - 1) = ((2 ^ (bits - 1) : Nat) : Int) by simp]
    omega
  have hb1z : ((bits : Int) - 1).toNat = bits - 1 := by omega
  clear HP3
  go_wp2_with fail
  refine HP3'.mono ?_
  rintro e w9 ⟨cn, hcn, rfl, rfl⟩
  clear HP3'
  obtain ⟨cc, hcc⟩ : ∃ cc, 1 + cn = cc := ⟨_, rfl⟩
  have hccz : 1 + (cn : Int) = (cc : Int) := by omega
  have hcc2 : 1 ≤ cc ∧ cc ≤ 2 := by omega
  obtain ⟨P, hP⟩ : ∃ P : Int, (2 : Int) ^ (bits - 1) = P := ⟨_, rfl⟩
  rw [hP] at hpow
  simp only [hP]
  have HP : Hid ((2 : Int) ^ (bits - 1) = P) := hP
  have hpow2 : (2 : Int) ^ bits = 2 * P := by
    obtain ⟨k, rfl⟩ : ∃ k, bits = k + 1 := ⟨bits - 1, by omega⟩
    rw [Int.pow_succ, ← hP, Nat.add_sub_cancel, Int.mul_comm]
  have HFT : Hid (∀ p : Nat, (p : Int) < 2 * P → fitsB bits (-P + p) = true) := by
    intro p hp
    have hc : ((2 ^ (bits - 1) : Nat) : Int) = P := by rw [← hP]; simp
    unfold fitsB
    rw [hc]
    simp only [Bool.and_eq_true, decide_eq_true_eq]
    omega
  obtain ⟨i0, hi, hz0, hz1, hz2⟩ := info_parts Try.info3
  obtain ⟨i1, hi1, hy0, hy1, hy2⟩ := info_parts Try.info30
  have HI : Hid _ := hi
  have HZ0 : Hid _ := hz0
  have HZ1 : Hid _ := hz1
  have HZ2 : Hid _ := hz2
  have HI1 : Hid _ := hi1
  have HY0 : Hid _ := hy0
  have HY1 : Hid _ := hy1
  have HY2 : Hid _ := hy2
  have HR64 : Hid (∀ x ∈ raw, -9223372036854775808 ≤ x ∧ x ≤ 9223372036854775807) := hr64
  clear hcc hP hi hz0 hz1 hz2 hi1 hy0 hy1 hy2 hr64 s1 hcn hb1z
  go_wp2_with fail
  go_loopg [12] cc (fun gk t12 wr => ∃ i : Nat, gk + i = cc ∧ t12 = .int .i64 i ∧ SoI w wr r rt bits m i)
  case atStart => exact ⟨0, rfl, rfl, hI0⟩
  case round =>
    clear hI0
    obtain ⟨i, hgk, rfl, hI⟩ := hrel
    by_cases hlt : i < cc
    · have hicc : (i : Int) < (cc : Int) := by omega
      obtain ⟨ko, rfl⟩ : ∃ ko : Nat, ko = gk := ⟨_, rfl⟩
      obtain ⟨wo, rfl⟩ : ∃ wo : World, wo = wr := ⟨_, rfl⟩
      obtain ⟨lv, vs, xss, hgo, hbr, hbs, hsubs, hxl, hro, hall⟩ := hI
      have HXL : Hid (xss.length = i) := hxl
      clear hxl
      go_wp2_with fail
      go_loopg [13, 14, 15] m (fun gq s13 s14 s15 wq => ∃ (k : Nat) (x : Int) (xs : List Int), gq + k = m ∧ s15 = .int .i64 k ∧ s14 = .int .i64 x ∧ -(70000 + 10 * (k : Int)) ≤ x ∧ x ≤ 70000 + 10 * (k : Int) ∧ xs.length = k ∧ Own wq wo.heap.size s13 xs ∧ wo.grownBy wq none ∧ ∀ y ∈ xs, fitsB bits y = true)
      case atStart => exact ⟨0, 0, [], rfl, rfl, rfl, by omega, by omega, rfl, Own.nil _ _, grown_refl _ _, fun y hy => by cases hy⟩
      case round =>
        obtain ⟨k, x, xs, hgq, rfl, rfl, hx1, hx2, hxs, hown, hgq', hfit⟩ := hrel
        by_cases hkm : k < m
        · have hkn : k < n := by have := HM.out; omega
          have hk6 : k < 600 := by have := HM.out; omega
          obtain ⟨bb, oo, rfl, hcell⟩ := HH.out k (by rw [HN.out]; exact hkn)
          obtain ⟨y, hy⟩ : ∃ y, raw.getD k 0 = y := ⟨_, rfl⟩
          have hyb : -9223372036854775808 ≤ y ∧ y ≤ 9223372036854775807 := by rw [← hy]; exact HR64.out _ (by have := HN.out; simp [List.getD, show k < raw.length by omega])
          rw [hy] at hcell
          have hcw : wr.cell? ⟨bb, oo + k, none⟩ = some (.int .i64 y) := (grown_trans hgo hgq').cell hcell (by simp)
          have tk1 : decide ((k : Int) < (n : Int)) = true := decide_eq_true (by omega)
          have tk2 : decide ((k : Int) < 600) = true := decide_eq_true (by omega)
          have hkn2 : (k : Int) < (n : Int) := by omega
          have HPK : Calls _ _ #[_, .int .i64 1099511627776] _ _ := pick_any y 1099511627776 wr hyb.1 hyb.2 (by omega) (by omega)
          have hbsr := hbs.kept hgq' (by simp)
          have sb : wr.cell? ⟨wo.heap.size, 0, none⟩ = wr.cell? ⟨wo.heap.size, 0, none⟩ := rfl
          clear hy hcell sb
          have s1 : wr.cell? ⟨r + 1, 1, none⟩ = some (.int .i64 bits) := hbsr.cell 1
          go_wp2_with fail
          refine HPK.mono ?_
          rintro e w9 ⟨cv, hcv, rfl, rfl⟩
          clear HPK
          have hc0 : (0 : Int) ≤ (cv : Int) := by omega
          have hc1 : (cv : Int) < 1099511627776 := by omega
          go_upto_block 4 with fail
          go_cut [14] (fun s14 wx => wx = w9 ∧ ∃ x' : Int, s14 = .int .i64 x' ∧ -(70000 + 10 * ((k : Int) + 1)) ≤ x' ∧ x' ≤ 70000 + 10 * ((k : Int) + 1))
          case first =>
            clear hcw hgo hgq' hbr hbs hsubs hall hown hfit hbsr
            obtain ⟨z, hz⟩ : ∃ z : Int, (cv : Int) / 4 = z := ⟨_, rfl⟩
            have hzb : 0 ≤ z ∧ z ≤ 1099511627776 := by omega
            rcases (show (cv : Int) % 4 = 0 ∨ (cv : Int) % 4 = 1 ∨ (cv : Int) % 4 = 2 ∨ (cv : Int) % 4 = 3 by omega) with hq | hq | hq | hq
            · have hz7 : 0 ≤ z % 7 ∧ z % 7 < 7 := by omega
              go_wp2
              go_meet
              case rel => exact ⟨rfl, _, rfl, by omega, by omega⟩
            · have h2P : (0 : Int) ≤ z % (2 * P) ∧ z % (2 * P) < 2 * P := ⟨Int.emod_nonneg _ (by omega), Int.emod_lt_of_pos _ (by omega)⟩
              have hnz : (2 * P == 0) = false := by simp; omega
              go_wp2
              go_meet
              case rel => exact ⟨rfl, _, rfl, by omega, by omega⟩
            · rcases (show i = 0 ∨ i = 1 by omega) with rfl | rfl
              · go_wp2
                go_meet
                case rel => exact ⟨rfl, x, rfl, by omega, by omega⟩
              · have hz5 : 0 ≤ z % 5 ∧ z % 5 < 5 := by omega
                go_wp2
                go_meet
                case rel => exact ⟨rfl, _, rfl, by omega, by omega⟩
            · go_wp2
              go_meet
              case rel => exact ⟨rfl, x, rfl, by omega, by omega⟩
          case rest =>
            obtain ⟨rfl, x', rfl, hx1', hx2'⟩ := hcut
            obtain ⟨Q, hQ⟩ : ∃ Q : Nat, (Q : Int) = 2 * P := ⟨(2 * P).toNat, by omega⟩
            have hpow3 : (2 : Int) ^ bits = (Q : Int) := by rw [hpow2, hQ]
            have hQ2 : 1 ≤ Q ∧ Q ≤ 65536 := by omega
            have HQ : Hid ((Q : Int) = 2 * P) := hQ
            have HPK2 := pick_any (x' + P) Q wc (by omega) (by omega) (by omega) (by omega)
            have hxp : x' - -P = x' + P := by omega
            obtain ⟨a13, c13, hv13⟩ := own_slice hown
            subst hv13
            have HXS : Hid (xs.length = k) := hxs
            rw [hxs] at hown ⊢
            have HOWN : Hid (Own wc wo.heap.size (.slice a13 k c13) xs) := hown
            have hrowA : wc.ownsRow wo.heap.size 3 1 (.slice a13 k c13) k (xs.map (Value.int .i64)) := by
              have h9 := hown
              unfold Own at h9
              rw [hxs] at h9
              exact h9
            have HRA : Hid _ := hrowA
            have hwoc : wo.heap.size ≤ wc.heap.size := hgq'.size
            clear hQ hpow2 hxs hcw hown hrowA
            go_wp2_with fail
            refine HPK2.mono ?_
            rintro e w9 ⟨p, hp, rfl, rfl⟩
            clear HPK2
            go_wp2_with (first
              | (at_builtin; refine wpList_append_own _ rfl _ _ 30 rfl wo.heap.size 3 i0 (.int .i64 0) 1 8 Try.underlying30 HI.out HZ0.out HZ1.out HZ2.out rfl (by decide) _ _ _ rfl (World.ownsRow.alloc HRA.out _) ⟨w9.heap.size, 0, none⟩ 1 1 [.int .i64 (-P + p)] rfl rfl ?c1 ?c2 ?c3 ?c4 ?c5 ?_))
            case c1 => exact one_new _ _ _
            case c2 => exact one_cell _
            case c3 => unfold maxLen; omega
            case c4 => omega
            case c5 => simp; omega
            intro v' w4 hown' hgrow _
            have hfitp := HFT.out p (by have := HQ.out; omega)
            have hown4 : Own w4 wo.heap.size v' (xs ++ [-P + (p : Int)]) := by
              unfold Own
              rw [List.map_append, List.length_append, List.length_singleton, HXS.out]
              exact hown'
            obtain ⟨a14, c14, hv14⟩ := row_slice hown'
            subst hv14
            have hgrow2 := grown_from_alloc hgrow (fun g hg' => (HOWN.out.lt g hg').2)
            have hgr4 : wo.grownBy w4 none := grown_new hgq' hgrow2 (fun g hg' => (HOWN.out.lt g hg').1)
            have hfit4 : ∀ y ∈ xs ++ [-P + (p : Int)], fitsB bits y = true := by
              intro y hy
              rcases List.mem_append.1 hy with hy | hy
              · exact hfit y hy
              · rw [List.mem_singleton.1 hy]; exact hfitp
            clear hown' hgrow hgrow2 HOWN HRA hgq' hfit hbsr
            go_wp2
            go_roundg (gk - 1)
            case measure => omega
            case rel => exact ⟨k + 1, x', xs ++ [-P + (p : Int)], by omega, by go_num, rfl, by omega, by omega, by rw [List.length_append, HXS.out]; rfl, hown4, hgr4, hfit4⟩
        · have hkm2 : k = m := by omega
          subst hkm2
          obtain ⟨a13, c13, hv13⟩ := own_slice hown
          subst hv13
          rw [hxs] at hown ⊢
          have HXS : Hid (xs.length = k) := hxs
          have hcond : n ≤ k ∨ ((k : Int) < (n : Int) ∧ k = 600) := by
            have := HM.out
            rcases Nat.lt_or_ge k n with h1 | h1
            · exact .inr ⟨by omega, by omega⟩
            · exact .inl h1
          have hbsr := hbs.kept hgq' (by simp)
          have hbrr := hbr.kept hgq' (by simp)
          have hsubr : Subs wr (r + 2) lv vs xss := by
            have h1 := hsubs
            exact ⟨ownsRow_kp h1.row (Kp.ofNone (S := fun _ => False) hgq') (fun _ _ e => e), h1.len, fun j hj => (h1.own j hj).kp (Kp.ofNone (S := fun _ => False) hgq') (fun _ _ e => e), h1.apartL, h1.apartV⟩
          obtain ⟨alv, clv, hlv⟩ := row_slice hsubs.row
          subst hlv
          have hvl : vs.length = i := by rw [hsubs.len]; exact HXL.out
          rw [hvl] at hbsr hsubs hsubr
          have s2 : wr.cell? ⟨r + 1, 2, none⟩ = some (.slice alv i clv) := hbsr.cell 2
          have fz2 := hbsr.fz 2
          have hrowL : wr.ownsRow (r + 2) 30 1 (.slice alv i clv) i vs := by have h9 := hsubr.row; rw [hvl] at h9; exact h9
          have HRL : Hid _ := hrowL
          have hrs : r + 2 ≤ wr.heap.size := Nat.le_trans hro hgq'.size
          have HOWN : Hid (Own wr wo.heap.size (.slice a13 k c13) xs) := hown
          have HBS : Hid _ := hbsr
          have HBR : Hid _ := hbrr
          have HSU : Hid (Subs wo (r + 2) (.slice alv i clv) vs xss) := hsubs
          have HSR : Hid (Subs wr (r + 2) (.slice alv i clv) vs xss) := hsubr
          have HVL : Hid (vs.length = i) := hvl
          clear hxs hown hbsr hbrr hsubr hrowL hvl hsubs hgq
          rcases hcond with tc1 | ⟨tc1, tc2⟩
          · have tc3 : (k < n) = False := by simp; omega
            have tc4 : decide (k < n) = false := decide_eq_false (by omega)
            have tc5 : decide ((k : Int) < (n : Int)) = false := decide_eq_false (by omega)
            go_wp2_with (first
              | (at_builtin; refine wpList_append_lies _ rfl _ _ 24 rfl (r + 2) 30 i1 (.slice none 0 0) 1 24 Try.underlying24 HI1.out HY0.out HY1.out HY2.out rfl (by decide) (.slice alv i clv) i vs rfl (World.ownsRow.alloc HRL.out _) ⟨wr.heap.size, 0, none⟩ 1 1 [.slice a13 k c13] rfl rfl ?c1 ?c2 ?c6 ?c3 ?c4 ?c5 _ rfl ?_))
            case c1 => exact one_newV _ _ _
            case c2 => intro u hu; rw [List.mem_singleton.1 hu]; rfl
            case c6 => omega
            case c3 => unfold maxLen; omega
            case c4 => omega
            case c5 => simp; omega
            intro g cap w4 hrow' hgrow hat hglt
            have hlvlt : ∀ q, (Value.slice alv i clv).ownBlock = some q → r + 2 ≤ q ∧ q < wr.heap.size := fun q hq => World.ownsRow.lt HRL.out q hq
            have hgrow2 := grown_from_alloc hgrow (fun q hq => (hlvlt q hq).2)
            have hbs4 := Box.kept HBS.out hgrow2 (fun e => by have := (hlvlt _ e.symm).1; omega)
            have hbr4 := Box.kept HBR.out hgrow2 (fun e => by have := (hlvlt _ e.symm).1; omega)
            have s4 : w4.cell? ⟨r + 1, 2, none⟩ = some (.slice alv i clv) := hbs4.cell 2
            have f4 := hbs4.fz 2
            have hset := hbs4.set 2 (.slice (some ⟨g, 0, none⟩) (i + 1) cap)
            have hsg := grown_set w4 (r + 1) 2 (.slice (some ⟨g, 0, none⟩) (i + 1) cap)
            have hal : wr.grownBy (wr.alloc (.cells #[.slice a13 k c13] 30)) none := grown_alloc (grown_refl _ _) _
            have hsub1 : Subs (wr.alloc (.cells #[.slice a13 k c13] 30)) (r + 2) (.slice alv i clv) vs xss := by
              have h1 := HSR.out
              exact ⟨ownsRow_kp h1.row (Kp.ofNone (S := fun _ => False) hal) (fun _ _ e => e), h1.len, fun j hj => (h1.own j hj).kp (Kp.ofNone (S := fun _ => False) hal) (fun _ _ e => e), h1.apartL, h1.apartV⟩
            have hsub4 := Subs.snoc HSU.out (w1 := wr.alloc (.cells #[.slice a13 k c13] 30)) (by have := hgq'.size; simp; omega) hsub1 (HOWN.out.alloc _) hro hgrow hat (by simp) (by rw [HVL.out]; exact hrow')
            rw [HVL.out] at hsub4
            have hsub5 := hsub4.kept hsg (by omega)
            have hgw4 : w.grownBy w4 none := grown_new (grown_trans hgo hgq') hgrow2 (fun q hq => by have := (hlvlt q hq).1; have := HR.out; omega)
            have hgw5 : w.grownBy (w4.setCell ⟨r + 1, 2, none⟩ (.slice (some ⟨g, 0, none⟩) (i + 1) cap)) none := grown_new hgw4 hsg (fun q e => by injection e with e; have := HR.out; omega)
            have hI5 : SoI w (w4.setCell ⟨r + 1, 2, none⟩ (.slice (some ⟨g, 0, none⟩) (i + 1) cap)) r rt bits k (i + 1) := by
              refine ⟨_, _, _, hgw5, hbr4.kept hsg (fun e => by injection e with e; omega), hset, hsub5, by rw [List.length_append, HXL.out]; rfl, ?_, fun d hd => ?_⟩
              · have h1 := hsg.size
                have h2 := hgrow2.size
                omega
              · rcases List.mem_append.1 hd with hd | hd
                · exact hall d hd
                · rw [List.mem_singleton.1 hd]
                  exact ⟨HXS.out, hfit⟩
            clear hset hsg hsub1 hsub4 hsub5 hgw4 hgw5 hbs4 hbr4 hrow' hgrow hgrow2 hat hglt s2 fz2 hall hfit
            go_wp2
            go_roundg (ko - 1)
            case measure => omega
            case rel => exact ⟨i + 1, by omega, by go_num, hI5⟩
          · have tc6 : decide ((k : Int) < 600) = false := decide_eq_false (by omega)
            have tc7 : decide (k < 600) = false := decide_eq_false (by omega)
            have tc8 : (k < 600) = False := by simp; omega
            have tc9 : decide ((k : Int) < (n : Int)) = true := decide_eq_true tc1
            have hk9 : k ≤ 600 := by omega
            clear tc2
            go_wp2_with (first
              | (at_builtin; refine wpList_append_lies _ rfl _ _ 24 rfl (r + 2) 30 i1 (.slice none 0 0) 1 24 Try.underlying24 HI1.out HY0.out HY1.out HY2.out rfl (by decide) (.slice alv i clv) i vs rfl (World.ownsRow.alloc HRL.out _) ⟨wr.heap.size, 0, none⟩ 1 1 [.slice a13 k c13] rfl rfl ?c1 ?c2 ?c6 ?c3 ?c4 ?c5 _ rfl ?_))
            case c1 => exact one_newV _ _ _
            case c2 => intro u hu; rw [List.mem_singleton.1 hu]; rfl
            case c6 => omega
            case c3 => unfold maxLen; omega
            case c4 => omega
            case c5 => simp; omega
            intro g cap w4 hrow' hgrow hat hglt
            have hlvlt : ∀ q, (Value.slice alv i clv).ownBlock = some q → r + 2 ≤ q ∧ q < wr.heap.size := fun q hq => World.ownsRow.lt HRL.out q hq
            have hgrow2 := grown_from_alloc hgrow (fun q hq => (hlvlt q hq).2)
            have hbs4 := Box.kept HBS.out hgrow2 (fun e => by have := (hlvlt _ e.symm).1; omega)
            have hbr4 := Box.kept HBR.out hgrow2 (fun e => by have := (hlvlt _ e.symm).1; omega)
            have s4 : w4.cell? ⟨r + 1, 2, none⟩ = some (.slice alv i clv) := hbs4.cell 2
            have f4 := hbs4.fz 2
            have hset := hbs4.set 2 (.slice (some ⟨g, 0, none⟩) (i + 1) cap)
            have hsg := grown_set w4 (r + 1) 2 (.slice (some ⟨g, 0, none⟩) (i + 1) cap)
            have hal : wr.grownBy (wr.alloc (.cells #[.slice a13 k c13] 30)) none := grown_alloc (grown_refl _ _) _
            have hsub1 : Subs (wr.alloc (.cells #[.slice a13 k c13] 30)) (r + 2) (.slice alv i clv) vs xss := by
              have h1 := HSR.out
              exact ⟨ownsRow_kp h1.row (Kp.ofNone (S := fun _ => False) hal) (fun _ _ e => e), h1.len, fun j hj => (h1.own j hj).kp (Kp.ofNone (S := fun _ => False) hal) (fun _ _ e => e), h1.apartL, h1.apartV⟩
            have hsub4 := Subs.snoc HSU.out (w1 := wr.alloc (.cells #[.slice a13 k c13] 30)) (by have := hgq'.size; simp; omega) hsub1 (HOWN.out.alloc _) hro hgrow hat (by simp) (by rw [HVL.out]; exact hrow')
            rw [HVL.out] at hsub4
            have hsub5 := hsub4.kept hsg (by omega)
            have hgw4 : w.grownBy w4 none := grown_new (grown_trans hgo hgq') hgrow2 (fun q hq => by have := (hlvlt q hq).1; have := HR.out; omega)
            have hgw5 : w.grownBy (w4.setCell ⟨r + 1, 2, none⟩ (.slice (some ⟨g, 0, none⟩) (i + 1) cap)) none := grown_new hgw4 hsg (fun q e => by injection e with e; have := HR.out; omega)
            have hI5 : SoI w (w4.setCell ⟨r + 1, 2, none⟩ (.slice (some ⟨g, 0, none⟩) (i + 1) cap)) r rt bits k (i + 1) := by
              refine ⟨_, _, _, hgw5, hbr4.kept hsg (fun e => by injection e with e; omega), hset, hsub5, by rw [List.length_append, HXL.out]; rfl, ?_, fun d hd => ?_⟩
              · have h1 := hsg.size
                have h2 := hgrow2.size
                omega
              · rcases List.mem_append.1 hd with hd | hd
                · exact hall d hd
                · rw [List.mem_singleton.1 hd]
                  exact ⟨HXS.out, hfit⟩
            clear hset hsg hsub1 hsub4 hsub5 hgw4 hgw5 hbs4 hbr4 hrow' hgrow hgrow2 hat hglt s2 fz2 hall hfit
            go_wp2
            go_roundg (ko - 1)
            case measure => omega
            case rel => exact ⟨i + 1, by omega, by go_num, hI5⟩
    · have hic : i = cc := by omega
      subst hic
      obtain ⟨lv, vs, xss, hgo, hbr, hbs, hsubs, hxl, hro, hall⟩ := hI
      obtain ⟨alv, clv, hlv⟩ := row_slice hsubs.row
      subst hlv
      have q0 : wr.cell? ⟨r + 1, 0, none⟩ = some (.int .i64 rt) := hbs.cell 0
      have q1 : wr.cell? ⟨r + 1, 1, none⟩ = some (.int .i64 bits) := hbs.cell 1
      have q2 : wr.cell? ⟨r + 1, 2, none⟩ = some (.slice alv vs.length clv) := hbs.cell 2
      have p0 : wr.cell? ⟨r, 0, none⟩ = some (.int .i64 0) := hbr.cell 0
      have p1 : wr.cell? ⟨r, 1, none⟩ = some (.int .i64 0) := hbr.cell 1
      have p2 : wr.cell? ⟨r, 2, none⟩ = some (.slice none 0 0) := hbr.cell 2
      have y0 := hbr.fz 0
      have y1 := hbr.fz 1
      have y2 := hbr.fz 2
      have h3 := three_cells wr r _ _ _ _ (.int .i64 rt) (.int .i64 bits) (.slice alv vs.length clv) hbr
      have hfin : ∀ wf, wr.grownBy wf (some r) → SoundPost w m (.returned (.agg #[.int .i64 rt, .int .i64 bits, .slice alv vs.length clv])) wf := by
        intro wf hgf
        refine ⟨rt, bits, _, vs, xss, rfl, grown_new hgo hgf (fun q e => by injection e with e; have := HR.out; omega), (hsubs.kept hgf (by omega)).mono (by have := HR.out; omega), hr1.1, hr1.2, hb416.1, hb416.2, by rw [hxl]; omega, hall⟩
      have HFIN : Hid _ := hfin
      clear hfin hsubs hall hgk hxl
      go_wp2
      generalize (World.setCell _ _ (Value.slice alv vs.length clv)) = wf at h3 ⊢
      have x0 := h3.1.cell 0
      have x1 := h3.1.cell 1
      have x2 := h3.1.cell 2
      exact bodyPost_ret (v := .agg #[.int .i64 rt, .int .i64 bits, .slice alv vs.length clv]) (by simp [results, Try.results31, go_sem, x0, x1, x2]) rfl (HFIN.out wf h3.2)
end Go.Proofs.Ytncmgnmcggkhnaa
