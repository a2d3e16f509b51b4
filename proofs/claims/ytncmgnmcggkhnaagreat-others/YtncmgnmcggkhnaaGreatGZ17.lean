import Derived.Test.YtncmgnmcggkhnaaGreatGZ16
import Derived.Deep.LoopGhost
namespace Go.Proofs.YtncmgnmcggkhnaaGreat
open Go.RowKit

theorem bits_and_one (x : Int) : bits .and .i64 x 1 = x % 2 := by
  have h2 : (BitVec.ofInt 64 (1 : Int)).toNat = 1 := by decide
  show IntKind.i64.wrap ((BitVec.ofInt 64 x &&& BitVec.ofInt 64 (1 : Int)).toNat : Int) = _
  rw [BitVec.toNat_and, h2, Nat.and_one_is_mod, BitVec.toNat_ofInt]
  have e : (((x % 2 ^ 64).toNat % 2 : Nat) : Int) = x % 2 := by omega
  have e2 : IntKind.i64.wrap (((x % 2 ^ 64).toNat % 2 : Nat) : Int) = (((x % 2 ^ 64).toNat % 2 : Nat) : Int) := by
    rw [IntKind.wrap_i64]
    omega
  exact e2.trans e

theorem shift_far (v : Int) (j : Nat) (hv : -9223372036854775808 ≤ v ∧ v ≤ 9223372036854775807) : v / 2 ^ min j 64 = v / 2 ^ j := by
  rcases Nat.lt_or_ge 64 j with h | h
  · rw [Nat.min_eq_right (by omega)]
    obtain ⟨k, rfl⟩ : ∃ k, j = 64 + k := ⟨j - 64, by omega⟩
    have hk : (1 : Int) ≤ 2 ^ k := by
      have := Nat.two_pow_pos k
      have e : (2 : Int) ^ k = ((2 ^ k : Nat) : Int) := by simp
      omega
    rw [Int.pow_add, ← Int.ediv_ediv_of_nonneg (by decide)]
    by_cases h0 : 0 ≤ v
    · rw [Int.ediv_eq_zero_of_lt h0 (by omega), Int.zero_ediv]
    · have e1 : v / 2 ^ 64 = -1 := by omega
      rw [e1]
      exact (Int.ediv_eq_neg_one_of_neg_of_le (by omega) (by omega)).symm
  · rw [Nat.min_eq_left h]

theorem bit_of (v : Int) (j : Nat) (hv : -9223372036854775808 ≤ v ∧ v ≤ 9223372036854775807) : bits .and .i64 (v / 2 ^ min j 64) 1 = ((decide (v / 2 ^ j % 2 = 1)).toNat : Int) := by
  rw [bits_and_one, shift_far v j hv]
  rcases Int.emod_two_eq (v / 2 ^ j) with h | h <;> simp [h]

set_option maxHeartbeats 1000000 in
set_option maxRecDepth 20000 in
theorem qwnum (w : World) (gw base : Nat) (va : Value) (L : List Bool) (v : Int) (n : Nat) (h : WrS w gw base va L) (hb : base ≤ w.heap.size) (hL : L.length + n ≤ 1099511627776) (hn : n ≤ 128) (hv : -9223372036854775808 ≤ v ∧ v ≤ 9223372036854775807) :
    Calls Tryz.prog 35 #[.pointer (some ⟨gw, 0, none⟩), .int .i64 v, .int .i64 n] w (WPost w gw base va L (numBits v n)) := by
  go_enter Tryz.func35, Tryz.ntmps35
  go_wp2_with fail
  go_loopg [6] n (fun gk t6 wr => t6 = .int .i64 ((gk : Int) - 1) ∧ gk ≤ n ∧ ∃ D v', numBits v n = D ++ numBits v gk ∧ WrS wr gw base v' (L ++ D) ∧ Wrote w wr gw va v')
  case atStart => exact ⟨rfl, Nat.le_refl _, [], va, rfl, by rw [List.append_nil]; exact h, Wrote.refl _ _ _⟩
  case round =>
    obtain ⟨rfl, hgk, D, v', hD, hW, hwr⟩ := hrel
    have hDl : D.length + gk = n := by have := congrArg List.length hD; rw [List.length_append, numBits_length, numBits_length] at this; omega
    by_cases hg : 1 ≤ gk
    · obtain ⟨j, rfl⟩ : ∃ j, gk = j + 1 := ⟨gk - 1, by omega⟩
      have hbw := Nat.le_trans hb hwr.kp.size
      have HB := qwbit wr gw base v' (L ++ D) (decide (v / 2 ^ j % 2 = 1)) hW hbw (by rw [List.length_append]; omega)
      have HD : Hid (numBits v n = D ++ numBits v (j + 1)) := hD
      clear hD h
      have hbit := bit_of v j hv
      go_wp2_with (go_at_call 56; refine HB.mono ?_; rintro e w2 ⟨rfl, v2, hW2, hwr2⟩)
      go_roundg j
      case measure => omega
      case rel =>
        refine ⟨by go_num, by omega, D ++ [decide (v / 2 ^ j % 2 = 1)], v2, ?_, by rw [← List.append_assoc]; exact hW2, hwr.trans hwr2⟩
        rw [HD.out, List.append_assoc]
        rfl
    · have hg0 : gk = 0 := by omega
      subst hg0
      have hD0 : numBits v n = D := by rw [hD]; exact List.append_nil _
      have hpost : WPost w gw base va L (numBits v n) (.returned (.tuple #[])) wr := ⟨rfl, v', by rw [hD0]; exact hW, hwr⟩
      clear hD hD0 hW hwr h
      go_wp2
      exact bodyPost_end (v := .tuple #[]) (by simp [results, Tryz.results35, go_sem]) rfl hpost

set_option maxHeartbeats 1000000 in
set_option maxRecDepth 20000 in
theorem qwzeros (w : World) (gw base : Nat) (va : Value) (L : List Bool) (n : Nat) (h : WrS w gw base va L) (hb : base ≤ w.heap.size) (hL : L.length + n + 1 ≤ 1099511627776) :
    Calls Tryz.prog 75 #[.pointer (some ⟨gw, 0, none⟩), .int .i64 n] w (WPost w gw base va L (zerosBits n)) := by
  go_enter Tryz.func75, Tryz.ntmps75
  go_wp2_with fail
  go_loopg [5] n (fun gk t5 wr => ∃ k : Nat, gk + k = n ∧ t5 = .int .i64 k ∧ ∃ v', WrS wr gw base v' (L ++ List.replicate k false) ∧ Wrote w wr gw va v')
  case atStart => exact ⟨0, rfl, rfl, va, by simpa using h, Wrote.refl _ _ _⟩
  case round =>
    obtain ⟨k, hgk, rfl, v', hW, hwr⟩ := hrel
    have hbw := Nat.le_trans hb hwr.kp.size
    by_cases hg : k < n
    · have HB : Calls _ _ #[_, .int .i64 0] _ _ := qwbit wr gw base v' (L ++ List.replicate k false) false hW hbw (by rw [List.length_append, List.length_replicate]; omega)
      have tk : decide ((k : Int) < (n : Int)) = true := decide_eq_true (by omega)
      go_wp2_with (go_at_call 56; refine HB.mono ?_; rintro e w2 ⟨rfl, v2, hW2, hwr2⟩)
      go_roundg (gk - 1)
      case measure => omega
      case rel =>
        refine ⟨k + 1, by omega, by go_num, v2, ?_, hwr.trans hwr2⟩
        rw [List.replicate_succ', ← List.append_assoc]
        exact hW2
    · have hkn : k = n := by omega
      subst hkn
      have HB : Calls _ _ #[_, .int .i64 1] _ _ := qwbit wr gw base v' (L ++ List.replicate k false) true hW hbw (by rw [List.length_append, List.length_replicate]; omega)
      clear h hgk
      go_wp2_with (go_at_call 56; refine HB.mono ?_; rintro e w2 ⟨rfl, v2, hW2, hwr2⟩)
      exact bodyPost_end (v := .tuple #[]) (by simp [results, Tryz.results75, go_sem]) rfl ⟨rfl, v2, by unfold zerosBits; rw [← List.append_assoc]; exact hW2, hwr.trans hwr2⟩

theorem qwalign (w : World) (gw base : Nat) (va : Value) (L : List Bool) (h : WrS w gw base va L) (hL : L.length ≤ 1099511627776) :
    Calls Tryz.prog 41 #[.pointer (some ⟨gw, 0, none⟩)] w (WPost w gw base va L (List.replicate (padLen L.length) false)) := by
  obtain ⟨a, cp, rfl⟩ := row_slice h.row
  obtain ⟨n, hn⟩ : ∃ n, (L.length + 7) / 8 = n := ⟨_, rfl⟩
  have hbox := h.box
  have hrow := h.row
  rw [hn] at hbox hrow ⊢
  have k0 : w.cell? ⟨gw, 0, none⟩ = some (.slice a n cp) := hbox.cell 0
  have k1 : w.cell? ⟨gw, 1, none⟩ = some (.int .i64 L.length) := hbox.cell 1
  have y1 := hbox.fz 1
  have hn9 : n ≤ 1099511627776 := by omega
  have hs := grown_set w gw 1 (.int .i64 (8 * (n : Int)))
  have hb1 := hbox.set 1 (.int .i64 (8 * (n : Int)))
  have hlen : (L ++ List.replicate (padLen L.length) false).length = 8 * n := by rw [List.length_append, List.length_replicate]; unfold padLen; omega
  have hpost : WPost w gw base (.slice a n cp) L (List.replicate (padLen L.length) false) (.returned (.tuple #[])) (w.setCell ⟨gw, 1, none⟩ (.int .i64 (8 * (n : Int)))) := by
    refine ⟨rfl, .slice a n cp, ⟨?_, ?_, h.lt⟩, ⟨Kp.mono (Kp.of hs) (fun b hb => .inl (.inl (by injection hb))), fun _ hq => .inl hq⟩⟩
    · rw [hlen]
      exact hb1
    · rw [hlen, show (8 * n + 7) / 8 = n by omega, pack_pad]
      refine World.ownsRow.kept hrow hs ?_
      cases hq : (Value.slice a n cp).ownBlock with
      | none => exact .inl rfl
      | some q => exact .inr (fun e => by injection e with e; have := (World.ownsRow.lt hrow q hq).1; have := h.lt; omega)
  clear hb1 hs hlen hn h hbox hrow
  go_enter Tryz.func41, Tryz.ntmps41
  go_wp2
  exact bodyPost_end (v := .tuple #[]) (by simp [results, Tryz.results41, go_sem]) rfl hpost

theorem qwbits (w : World) (gw base : Nat) (va : Value) (L : List Bool) (h : WrS w gw base va L) :
    Calls Tryz.prog 62 #[.pointer (some ⟨gw, 0, none⟩)] w fun e w' => e = .returned (.int .i64 L.length) ∧ w' = w := by
  have k1 : w.cell? ⟨gw, 1, none⟩ = some (.int .i64 L.length) := h.box.cell 1
  clear h
  go_enter Tryz.func62, Tryz.ntmps62
  go_wp2
  exact bodyPost_ret (v := .int .i64 L.length) (by simp [results, Tryz.results62, go_sem]) rfl ⟨rfl, rfl⟩

theorem str_pack (l : List UInt8) : strOfNums (l.map fun x => (x.toNat : Int)) = ⟨l.toArray⟩ := by
  unfold strOfNums
  congr 1
  congr 1
  rw [List.map_map]
  conv => rhs; rw [← List.map_id l]
  refine List.map_congr_left (fun x _ => ?_)
  show UInt8.ofNat ((x.toNat : Int)).toNat = x
  rw [Int.toNat_natCast]
  simp

/-- the bytes that were written -/
theorem qwstring (w : World) (gw base : Nat) (va : Value) (L : List Bool) (h : WrS w gw base va L) (hL : 1 ≤ L.length) :
    Calls Tryz.prog 36 #[.pointer (some ⟨gw, 0, none⟩)] w fun e w' => e = .returned (.string ⟨(pack L).toArray⟩) ∧ w' = w := by
  obtain ⟨g, cap, rfl, hbg, hgl⟩ := World.ownsRow.form h.row (by omega)
  obtain ⟨n, hn⟩ : ∃ n, (L.length + 7) / 8 = n := ⟨_, rfl⟩
  have hbox := h.box
  have hrow := h.row
  rw [hn] at hbox hrow
  have hpl : (pack L).length = n := by rw [pack_length]; exact hn
  have hconv : (convert 30 9 (.slice (some ⟨g, 0, none⟩) n cap)).run Tryz.prog w = .ok (.string ⟨(pack L).toArray⟩) w := by
    have h1 := run_convert_bytes_arg w 30 5 Tryz.underlying30 Tryz.underlying5 g 0 n cap ((pack L).map fun x => (x.toNat : Int)) (by rw [List.length_map]; exact hpl) (fun i hi => by
      rw [Nat.zero_add, World.ownsRow.cellAt hrow i (by omega), List.getElem?_map, List.getElem?_eq_getElem (by omega)]
      simp [List.getD, hpl, hi, byteV]) 9 Tryz.underlying9
    rw [str_pack] at h1
    exact h1
  have k0 : w.cell? ⟨gw, 0, none⟩ = some (.slice (some ⟨g, 0, none⟩) n cap) := hbox.cell 0
  clear h hbox hn hpl hrow
  go_enter Tryz.func36, Tryz.ntmps36
  go_wp2
  exact bodyPost_ret (v := .string ⟨(pack L).toArray⟩) (by simp [results, Tryz.results36, go_sem]) rfl ⟨rfl, rfl⟩
end Go.Proofs.YtncmgnmcggkhnaaGreat

namespace Go.Proofs.YtncmgnmcggkhnaaGreat
open Go.RowKit

/-! ### the way that needs the fewest bits -/

def fixedOf (l : List Int) (o : Nat) : ESub := .fixed (l.take o) (miss (fixedFactors o) (l.take o).reverse (l.drop o))

def allAlike (l : List Int) : Bool := l.all (fun x => x == l.headD 0)

/-- what is tried beside the plain one -/
def others (l : List Int) : List ESub := (if allAlike l then [.alike (l.headD 0)] else []) ++ (List.range (min 4 l.length + 1)).map (fixedOf l)

def subCost (wide : Nat) (s : ESub) : Nat := (subBits wide s).length

def pickBest (cost : ESub → Nat) : ESub → List ESub → ESub
  | b, [] => b
  | b, s :: ss => pickBest cost (if cost s < cost b then s else b) ss

theorem pickBest_spec (cost : ESub → Nat) : ∀ (l : List ESub) (b : ESub), (pickBest cost b l = b ∨ pickBest cost b l ∈ l) ∧ cost (pickBest cost b l) ≤ cost b ∧ ∀ s ∈ l, cost (pickBest cost b l) ≤ cost s
  | [], b => ⟨.inl rfl, Nat.le_refl _, fun s hs => by simp at hs⟩
  | s :: ss, b => by
    obtain ⟨h1, h2, h3⟩ := pickBest_spec cost ss (if cost s < cost b then s else b)
    unfold pickBest
    have h4 : cost (if cost s < cost b then s else b) ≤ cost s ∧ cost (if cost s < cost b then s else b) ≤ cost b := by
      split <;> omega
    refine ⟨?_, by omega, fun t ht => ?_⟩
    · rcases h1 with h1 | h1
      · by_cases hc : cost s < cost b
        · rw [if_pos hc] at h1 ⊢; exact .inr (by rw [h1]; simp)
        · rw [if_neg hc] at h1 ⊢; exact .inl h1
      · exact .inr (List.mem_cons_of_mem _ h1)
    · rcases List.mem_cons.1 ht with rfl | ht
      · omega
      · exact h3 t ht

def shortest (wide : Nat) (l : List Int) : ESub := pickBest (subCost wide) (.plain l) (others l)

theorem edot_bound (M : Int) (hM : 0 ≤ M) : ∀ (fs bs : List Int), (∀ a ∈ bs, -M ≤ a ∧ a ≤ M) → -((fs.map (fun f => (f.natAbs : Int))).sum * M) ≤ dot fs bs ∧ dot fs bs ≤ (fs.map (fun f => (f.natAbs : Int))).sum * M
  | [], bs, _ => by simp [dot]
  | f :: fs, [], _ => by
    have h1 : 0 ≤ ((f :: fs).map (fun f => (f.natAbs : Int))).sum := by
      generalize f :: fs = g
      induction g with
      | nil => simp
      | cons a g ih => rw [List.map_cons, List.sum_cons]; omega
    have h2 := Int.mul_nonneg h1 hM
    show -_ ≤ (0 : Int) ∧ (0 : Int) ≤ _
    omega
  | f :: fs, a :: bs, h => by
    have ih := edot_bound M hM fs bs (fun x hx => h x (by simp [hx]))
    have ha := h a (by simp)
    have hfa : -((f.natAbs : Int) * M) ≤ f * a ∧ f * a ≤ (f.natAbs : Int) * M := by
      have h1 : (f * a).natAbs ≤ f.natAbs * M.natAbs := by
        rw [Int.natAbs_mul]
        exact Nat.mul_le_mul_left _ (by omega)
      have h2 : ((f.natAbs * M.natAbs : Nat) : Int) = (f.natAbs : Int) * M := by rw [Int.natCast_mul, Int.natAbs_of_nonneg hM]
      omega
    show -_ ≤ f * a + dot fs bs ∧ f * a + dot fs bs ≤ _
    rw [List.map_cons, List.sum_cons, Int.add_mul]
    omega

theorem factors_sum (o : Nat) : ((fixedFactors o).map (fun f => (f.natAbs : Int))).sum ≤ 15 ∧ 0 ≤ ((fixedFactors o).map (fun f => (f.natAbs : Int))).sum := by
  unfold fixedFactors
  split <;> decide

theorem miss_bound (M : Int) (hM : 0 ≤ M) (o : Nat) : ∀ (xs acc : List Int), (∀ a ∈ xs, -M ≤ a ∧ a ≤ M) → (∀ a ∈ acc, -M ≤ a ∧ a ≤ M) → ∀ v ∈ miss (fixedFactors o) acc xs, -(16 * M) ≤ v ∧ v ≤ 16 * M
  | [], acc, _, _, v, hv => by simp [miss] at hv
  | x :: xs, acc, h, ha, v, hv => by
    rcases List.mem_cons.1 hv with rfl | hv
    · have h1 := edot_bound M hM (fixedFactors o) acc ha
      have h2 := factors_sum o
      have h3 := h x (by simp)
      have h4 : ((fixedFactors o).map (fun f => (f.natAbs : Int))).sum * M ≤ 15 * M := Int.mul_le_mul_of_nonneg_right h2.1 hM
      omega
    · refine miss_bound M hM o xs (x :: acc) (fun a h1 => h a (by simp [h1])) (fun a h1 => ?_) v hv
      rcases List.mem_cons.1 h1 with rfl | h1
      · exact h a (by simp)
      · exact ha a h1

theorem fits_bound (wide : Nat) (hw : wide ≤ 16) (x : Int) (h : fitsB wide x = true) : -32768 ≤ x ∧ x ≤ 32768 := by
  unfold fitsB at h
  simp only [Bool.and_eq_true, decide_eq_true_eq] at h
  have : 2 ^ (wide - 1) ≤ 2 ^ 15 := Nat.pow_le_pow_right (by decide) (by omega)
  omega

theorem fold1_lt (v : Int) (h : -524288 ≤ v ∧ v ≤ 524288) : fold1 v < 2 ^ 32 := by
  unfold fold1
  split <;> omega

theorem fixedOf_small (wide o : Nat) (l : List Int) (hw : wide ≤ 16) (hf : ∀ x ∈ l, fitsB wide x = true) : ∀ v ∈ miss (fixedFactors o) (l.take o).reverse (l.drop o), -524288 ≤ v ∧ v ≤ 524288 := by
  intro v hv
  have := miss_bound 32768 (by decide) o (l.drop o) (l.take o).reverse (fun a ha => fits_bound wide hw a (hf a (List.mem_of_mem_drop ha))) (fun a ha => fits_bound wide hw a (hf a (List.mem_of_mem_take (List.mem_reverse.1 ha)))) v hv
  omega

theorem others_hold (wide : Nat) (l : List Int) (hw : wide ≤ 16) (hne : l ≠ []) (hf : ∀ x ∈ l, fitsB wide x = true) : ∀ s ∈ others l, Holds wide l s := by
  intro s hs
  unfold others at hs
  rcases List.mem_append.1 hs with hs | hs
  · by_cases ha : allAlike l = true
    · rw [if_pos ha] at hs
      have e := List.mem_singleton.1 hs
      subst e
      unfold allAlike at ha
      rw [List.all_eq_true] at ha
      refine ⟨?_, ?_⟩
      · rw [List.eq_replicate_iff]
        exact ⟨rfl, fun b hb => by have := ha b hb; simpa using this⟩
      · cases l with
        | nil => exact absurd rfl hne
        | cons a t => exact hf a (by simp)
    · rw [if_neg ha] at hs
      simp at hs
  · obtain ⟨o, ho, rfl⟩ := List.mem_map.1 hs
    rw [List.mem_range] at ho
    exact ⟨o, by omega, by omega, rfl, rfl, fun v hv => fold1_lt v (fixedOf_small wide o l hw hf v hv)⟩

theorem shortest_holds (wide : Nat) (l : List Int) (hw : wide ≤ 16) (hne : l ≠ []) (hf : ∀ x ∈ l, fitsB wide x = true) : Holds wide l (shortest wide l) := by
  rcases (pickBest_spec (subCost wide) (others l) (.plain l)).1 with h | h
  · unfold shortest; rw [h]; exact rfl
  · exact others_hold wide l hw hne hf _ h

theorem shortest_le (wide : Nat) (l : List Int) : subCost wide (shortest wide l) ≤ 8 + l.length * wide := by
  have h := (pickBest_spec (subCost wide) (others l) (.plain l)).2.1
  have e : subCost wide (.plain l) = 8 + l.length * wide := by
    show (kindBits 1 ++ listBits wide l).length = _
    rw [List.length_append, listBits_length]
    rfl
  unfold shortest
  omega

/-! ### the whole stream -/

def modeOf (c : Nat) : Nat := if c = 1 then 0 else 1

def frameOf (h : Head) (number : Nat) (chs : List (List Int)) : List UInt8 := frameBytes (modeOf h.channels) number (chs.headD []).length h.bits (chs.map (shortest h.bits))

/-- the samples of frame `i` -/
def chunk (b i : Nat) (chs : List (List Int)) : List (List Int) := chs.map (fun c => (c.drop (i * b)).take b)

def nFrames (h : Head) : Nat := (h.total + h.block - 1) / h.block

def encFr (h : Head) (chs : List (List Int)) (i : Nat) : List UInt8 := frameOf h i (chunk h.block i chs)

def infoBits (h : Head) : List Bool :=
  numBits (1 : Nat) 1 ++ (numBits (0 : Nat) 7 ++ (numBits (34 : Nat) 24 ++ (numBits h.block 16 ++ (numBits h.block 16 ++ (numBits (0 : Nat) 24 ++ (numBits (0 : Nat) 24 ++ (numBits h.rate 20 ++ (numBits ((h.channels - 1 : Nat) : Int) 3 ++
    (numBits ((h.bits - 1 : Nat) : Int) 5 ++ (numBits h.total 36 ++ numBits (0 : Nat) 128))))))))))

theorem infoBits_length (h : Head) : (infoBits h).length = 304 := by unfold infoBits; simp [numBits_length]

def headBytes (h : Head) : List UInt8 := [102, 76, 97, 67] ++ pack (infoBits h)

theorem headBytes_length (h : Head) : (headBytes h).length = 42 := by
  unfold headBytes
  rw [List.length_append, pack_length, infoBits_length]
  rfl

def encode (h : Head) (chs : List (List Int)) : List UInt8 := headBytes h ++ (List.range (nFrames h)).flatMap (encFr h chs)

/-- a sound that is right, and what its stream tells -/
structure RightS (h : Head) (chs : List (List Int)) : Prop where
  ok : headOk h = true
  ch : chs.length = h.channels
  ch1 : 1 ≤ h.channels
  len : ∀ c ∈ chs, c.length = h.total
  fit : ∀ c ∈ chs, ∀ x ∈ c, fitsB h.bits x = true

theorem headOk_parts {h : Head} (e : headOk h = true) : 16 ≤ h.block ∧ h.block ≤ 256 ∧ 1 ≤ h.rate ∧ h.rate ≤ 655350 ∧ h.channels ≤ 2 ∧ 4 ≤ h.bits ∧ h.bits ≤ 16 ∧ h.total ≤ 1200 := by
  unfold headOk at e
  simp only [Bool.and_eq_true, decide_eq_true_eq] at e
  omega

theorem pBlocks_head (h : Head) (rest : List UInt8) (hok : headOk h = true) (hc1 : 1 ≤ h.channels) : pBlocks (bitsOf (headBytes h ++ rest)) = some (h, bitsOf rest) := by
  obtain ⟨b1, b2, b3, b4, b5, b6, b7, b8⟩ := headOk_parts hok
  have hbits : bitsOf (headBytes h ++ rest) = numBits (102 : Nat) 8 ++ (numBits (76 : Nat) 8 ++ (numBits (97 : Nat) 8 ++ (numBits (67 : Nat) 8 ++ (infoBits h ++ bitsOf rest)))) := by
    unfold headBytes
    rw [bitsOf_append, bitsOf_append, bitsOf_pack', infoBits_length]
    have : padLen 304 = 0 := rfl
    rw [this]
    have e4 : bitsOf [102, 76, 97, 67] = numBits ((102 : Nat) : Int) 8 ++ (numBits ((76 : Nat) : Int) 8 ++ (numBits ((97 : Nat) : Int) 8 ++ numBits ((67 : Nat) : Int) 8)) := by decide
    rw [e4]
    simp [List.append_assoc]
  unfold pBlocks
  rw [hbits, pMust_bits 102 8 _ (by decide)]
  simp only [Option.bind_some]
  rw [pMust_bits 76 8 _ (by decide)]
  simp only [Option.bind_some]
  rw [pMust_bits 97 8 _ (by decide)]
  simp only [Option.bind_some]
  rw [pMust_bits 67 8 _ (by decide)]
  simp only [Option.bind_some]
  unfold infoBits
  simp only [List.append_assoc]
  unfold pBlock
  rw [pNum_bits_nat 1 1 _ (by decide)]
  simp only [Option.bind_some]
  rw [pNum_bits_nat 0 7 _ (by decide)]
  simp only [Option.bind_some]
  rw [pNum_bits_nat 34 24 _ (by decide)]
  simp only [Option.bind_some]
  rw [if_pos (by simp)]
  unfold pInfo
  rw [pNum_bits_nat h.block 16 _ (by show h.block < 65536; omega)]
  simp only [Option.bind_some]
  rw [pMust_bits h.block 16 _ (by show h.block < 65536; omega)]
  simp only [Option.bind_some]
  have e48 : ∀ r, pNum 48 (numBits ((0 : Nat) : Int) 24 ++ (numBits ((0 : Nat) : Int) 24 ++ r)) = some (0, r) := fun r => by
    have h1 := pNum_append (numBits ((0 : Nat) : Int) 24 ++ numBits ((0 : Nat) : Int) 24) r
    rw [List.length_append, numBits_length, List.append_assoc] at h1
    rw [h1]
    have : val (numBits ((0 : Nat) : Int) 24 ++ numBits ((0 : Nat) : Int) 24) = 0 := by decide
    rw [this]
  rw [e48]
  simp only [Option.bind_some]
  rw [pNum_bits_nat h.rate 20 _ (by show h.rate < 1048576; omega)]
  simp only [Option.bind_some]
  rw [pNum_bits_nat (h.channels - 1) 3 _ (by show h.channels - 1 < 8; omega)]
  simp only [Option.bind_some]
  rw [pNum_bits_nat (h.bits - 1) 5 _ (by show h.bits - 1 < 32; omega)]
  simp only [Option.bind_some]
  rw [pNum_bits_nat h.total 36 _ (by show h.total < 68719476736; omega)]
  simp only [Option.bind_some]
  rw [pNum_bits_nat 0 128 _ (by decide)]
  simp only [Option.bind_some]
  have eh : (⟨h.block, h.rate, h.channels - 1 + 1, h.bits - 1 + 1, h.total⟩ : Head) = h := by
    cases h
    simp only [Head.mk.injEq, true_and, and_true] at *
    omega
  rw [eh, if_pos hok]
  simp

section
variable {h : Head} {chs : List (List Int)}

theorem RightS.chunk_hold (hr : RightS h chs) (i : Nat) (hi : i * h.block < h.total) : HoldAll h.bits (min h.block (h.total - i * h.block)) (chunk h.block i chs) ((chunk h.block i chs).map (shortest h.bits)) := by
  obtain ⟨b1, b2, b3, b4, b5, b6, b7, b8⟩ := headOk_parts hr.ok
  have key : ∀ l : List (List Int), (∀ c ∈ l, c.length = h.total ∧ ∀ x ∈ c, fitsB h.bits x = true) → HoldAll h.bits (min h.block (h.total - i * h.block)) (chunk h.block i l) ((chunk h.block i l).map (shortest h.bits)) := by
    intro l
    induction l with
    | nil => intro _; exact trivial
    | cons c l ih =>
      intro hl
      have hc := hl c (by simp)
      have hlen : ((c.drop (i * h.block)).take h.block).length = min h.block (h.total - i * h.block) := by rw [List.length_take, List.length_drop, hc.1]
      have hfit : ∀ x ∈ (c.drop (i * h.block)).take h.block, fitsB h.bits x = true := fun x hx => hc.2 x (List.mem_of_mem_drop (List.mem_of_mem_take hx))
      exact ⟨hlen, hfit, shortest_holds h.bits _ b7 (fun e => by have h9 : ((c.drop (i * h.block)).take h.block).length = 0 := congrArg List.length e; omega) hfit, ih (fun d hd => hl d (by simp [hd]))⟩
  exact key chs (fun c hc => ⟨hr.len c hc, hr.fit c hc⟩)

theorem chunk_head (b i : Nat) (chs : List (List Int)) : (chunk b i chs).headD [] = ((chs.headD []).drop (i * b)).take b := by
  cases chs <;> simp [chunk]

theorem RightS.head_len (hr : RightS h chs) : (chs.headD []).length = h.total := by
  have := hr.ch
  have := hr.ch1
  cases chs with
  | nil => simp at this; omega
  | cons c l => exact hr.len c (by simp)

theorem RightS.chunk_len (hr : RightS h chs) (i : Nat) : ((chunk h.block i chs).headD []).length = min h.block (h.total - i * h.block) := by
  rw [chunk_head, List.length_take, List.length_drop, hr.head_len]

theorem RightS.nframes (hr : RightS h chs) (i : Nat) : i < nFrames h ↔ i * h.block < h.total := by
  obtain ⟨b1, b2, b3, b4, b5, b6, b7, b8⟩ := headOk_parts hr.ok
  unfold nFrames
  rw [Nat.lt_div_iff_mul_lt (by omega)]
  omega

theorem RightS.nframes_le (hr : RightS h chs) : nFrames h ≤ 75 := by
  obtain ⟨b1, b2, b3, b4, b5, b6, b7, b8⟩ := headOk_parts hr.ok
  rcases Nat.lt_or_ge 75 (nFrames h) with h1 | h1
  · have := (hr.nframes 75).1 h1
    omega
  · exact h1

theorem RightS.frame (hr : RightS h chs) (i : Nat) (hi : i < nFrames h) (rest : List UInt8) : pFrame h i (encFr h chs i ++ rest) = some (chunk h.block i chs, rest) := by
  obtain ⟨b1, b2, b3, b4, b5, b6, b7, b8⟩ := headOk_parts hr.ok
  have hi' := (hr.nframes i).1 hi
  have hn := hr.nframes_le
  unfold encFr frameOf
  rw [hr.chunk_len i]
  have hc1 := hr.ch1
  refine pFrame_bytes h (modeOf h.channels) i _ _ _ rest ?_ ?_ (by omega) (by omega) (by unfold chunk; rw [List.length_map]; exact hr.ch) (by omega) (by omega) (by omega) (hr.chunk_hold i hi')
  · unfold modeOf modeOk
    rcases (show h.channels = 1 ∨ h.channels = 2 by omega) with e | e <;> rw [e] <;> decide
  · unfold modeOf
    split <;> omega

theorem zip_chunk (b i : Nat) (chs : List (List Int)) : List.zipWith (· ++ ·) (chs.map (fun c => c.take (i * b))) (chunk b i chs) = chs.map (fun c => c.take ((i + 1) * b)) := by
  unfold chunk
  rw [List.zipWith_map_left, List.zipWith_map_right]
  induction chs with
  | nil => rfl
  | cons c l ih =>
    rw [List.zipWith_cons_cons, List.map_cons, ih, Nat.succ_mul, List.take_add]

theorem encFr_length (h : Head) (chs : List (List Int)) (i : Nat) : 10 ≤ (encFr h chs i).length := by
  unfold encFr frameOf
  rw [frameBytes_length]
  omega

theorem RightS.frames (hr : RightS h chs) : ∀ (m i fuel : Nat) (ended : Bool), i + m = nFrames h → (ended = true → m = 0) → ((List.range' i m).flatMap (encFr h chs)).length < fuel →
    frames h fuel i (min (i * h.block) h.total) ended (chs.map (fun c => c.take (i * h.block))) ((List.range' i m).flatMap (encFr h chs)) = .ok chs
  | m, i, 0, _, _, _, hf => by omega
  | 0, i, fuel + 1, ended, hi, _, _ => by
    obtain ⟨b1, b2, b3, b4, b5, b6, b7, b8⟩ := headOk_parts hr.ok
    have h1 : ¬ i * h.block < h.total := fun e => by have := (hr.nframes i).2 e; omega
    have e : chs.map (fun c => c.take (i * h.block)) = chs := by
      conv => rhs; rw [← List.map_id chs]
      refine List.map_congr_left (fun c hc => ?_)
      rw [List.take_of_length_le (by rw [hr.len c hc]; omega)]
      rfl
    unfold Go.Proofs.YtncmgnmcggkhnaaGreat.frames
    rw [if_pos (by simp), e]
  | m + 1, i, fuel + 1, ended, hi, he, hf => by
    obtain ⟨b1, b2, b3, b4, b5, b6, b7, b8⟩ := headOk_parts hr.ok
    have hi' : i < nFrames h := by omega
    have hlt := (hr.nframes i).1 hi'
    have hl := encFr_length h chs i
    have hen : ended = false := by
      cases ended
      · rfl
      · have := he rfl; omega
    subst hen
    rw [List.range'_succ, List.flatMap_cons] at hf ⊢
    rw [List.length_append] at hf
    unfold Go.Proofs.YtncmgnmcggkhnaaGreat.frames
    rw [if_neg (fun e => by have := congrArg List.length e; rw [List.length_append] at this; simp at this; rw [this.1] at hl; simp at hl), hr.frame i hi']
    have hcl := hr.chunk_len i
    show (if _ then _ else _) = _
    rw [hcl, if_neg (by simp; omega), zip_chunk]
    have e2 : min (i * h.block) h.total + min h.block (h.total - i * h.block) = min ((i + 1) * h.block) h.total := by rw [Nat.succ_mul]; omega
    rw [e2]
    refine RightS.frames hr m (i + 1) fuel _ (by omega) (fun hd => ?_) (by omega)
    have hd' := of_decide_eq_true hd
    have h3 : ¬ (i + 1) * h.block < h.total := by rw [Nat.succ_mul]; omega
    have h4 : ¬ i + 1 < nFrames h := fun e => h3 ((hr.nframes (i + 1)).1 e)
    omega

theorem RightS.decode_frames (hr : RightS h chs) (fuel : Nat) (hf : ((List.range (nFrames h)).flatMap (encFr h chs)).length < fuel) :
    Go.Proofs.YtncmgnmcggkhnaaGreat.frames h fuel 0 0 false (List.replicate h.channels []) ((List.range (nFrames h)).flatMap (encFr h chs)) = .ok chs := by
  have := hr.frames (nFrames h) 0 fuel false (by omega) (by simp) (by rw [← List.range_eq_range']; exact hf)
  rw [← List.range_eq_range', Nat.zero_mul, Nat.zero_min] at this
  have e : chs.map (fun c => c.take 0) = List.replicate h.channels [] := by
    rw [List.eq_replicate_iff]
    exact ⟨by rw [List.length_map]; exact hr.ch, fun b hb => by obtain ⟨c, _, rfl⟩ := List.mem_map.1 hb; rfl⟩
  rw [e] at this
  exact this

/-- how many bytes frames have -/
theorem encFr_len_eq (h : Head) (chs : List (List Int)) (i : Nat) : (encFr h chs i).length = 10 + (((chunk h.block i chs).map (fun c => subCost h.bits (shortest h.bits c))).sum + 7) / 8 := by
  unfold encFr frameOf
  rw [frameBytes_length, List.length_flatMap, List.map_map]
  rfl

theorem RightS.encFr_le (hr : RightS h chs) (i : Nat) : (encFr h chs i).length ≤ 13 + 4 * min h.block (h.total - i * h.block) := by
  obtain ⟨b1, b2, b3, b4, b5, b6, b7, b8⟩ := headOk_parts hr.ok
  rw [encFr_len_eq]
  have key : ∀ l : List (List Int), (∀ c ∈ l, c.length = h.total) → ((chunk h.block i l).map (fun c => subCost h.bits (shortest h.bits c))).sum ≤ l.length * (8 + 16 * min h.block (h.total - i * h.block)) := by
    intro l
    induction l with
    | nil => intro _; simp [chunk]
    | cons c l ih =>
      intro hl
      have h1 := ih (fun d hd => hl d (by simp [hd]))
      have h2 := shortest_le h.bits ((c.drop (i * h.block)).take h.block)
      rw [List.length_take, List.length_drop, hl c (by simp)] at h2
      have h3 : min h.block (h.total - i * h.block) * h.bits ≤ min h.block (h.total - i * h.block) * 16 := Nat.mul_le_mul_left _ b7
      unfold chunk at h1 ⊢
      rw [List.map_cons, List.map_cons, List.sum_cons, List.length_cons, Nat.succ_mul]
      omega
  have h1 := key chs hr.len
  rw [hr.ch] at h1
  have h2 : h.channels * (8 + 16 * min h.block (h.total - i * h.block)) ≤ 2 * (8 + 16 * min h.block (h.total - i * h.block)) := Nat.mul_le_mul_right _ b5
  omega

theorem RightS.frames_len (hr : RightS h chs) : ∀ n, ((List.range n).flatMap (encFr h chs)).length ≤ 13 * n + 4 * min (n * h.block) h.total
  | 0 => by simp
  | n + 1 => by
    have ih := hr.frames_len n
    have h1 := hr.encFr_le n
    rw [List.range_succ, List.flatMap_append, List.length_append]
    simp only [List.flatMap_cons, List.flatMap_nil, List.append_nil]
    rw [show (n + 1) * h.block = n * h.block + h.block from Nat.succ_mul _ _]
    generalize n * h.block = q at *
    simp only [Nat.min_def] at *
    split at ih <;> split at h1 <;> split <;> omega

theorem RightS.encode_len (hr : RightS h chs) : 42 ≤ (encode h chs).length ∧ (encode h chs).length ≤ 6000 := by
  obtain ⟨b1, b2, b3, b4, b5, b6, b7, b8⟩ := headOk_parts hr.ok
  have h1 := hr.frames_len (nFrames h)
  have h2 := hr.nframes_le
  unfold encode
  rw [List.length_append, headBytes_length]
  omega

theorem RightS.decode (hr : RightS h chs) : Go.Proofs.YtncmgnmcggkhnaaGreat.decode (encode h chs) = .sound h.rate h.bits chs := by
  have hl := hr.encode_len
  unfold Go.Proofs.YtncmgnmcggkhnaaGreat.decode
  rw [if_neg (by omega)]
  have e1 : pBlocks (bitsOf (encode h chs)) = some (h, bitsOf ((List.range (nFrames h)).flatMap (encFr h chs))) := pBlocks_head h _ hr.ok hr.ch1
  rw [e1]
  simp only
  have e2 : (encode h chs).drop ((encode h chs).length - (bitsOf ((List.range (nFrames h)).flatMap (encFr h chs))).length / 8) = (List.range (nFrames h)).flatMap (encFr h chs) := by
    rw [bitsOf_length, Nat.mul_div_cancel_left _ (by decide)]
    unfold encode
    rw [List.length_append, Nat.add_sub_cancel, List.drop_left]
  rw [e2, hr.decode_frames ((encode h chs).length + 1) (by unfold encode; rw [List.length_append]; omega)]
  simp only
  rw [if_pos hr.head_len]
end
end Go.Proofs.YtncmgnmcggkhnaaGreat
