import Derived.Test.YtodbbdknkffceaaDecProofJ7
namespace Go.Proofs.Ytodbbdknkffceaa
open Go.RowKit

/-- the first `i` are of `A`, the rest of `xs` -/
def part (A xs : List Int) (i : Nat) : List Int := A.take i ++ xs.drop i

theorem part_zero (A xs : List Int) : part A xs 0 = xs := by simp [part]
theorem part_all (A xs : List Int) (i : Nat) (h1 : A.length ≤ i) (h2 : xs.length ≤ i) : part A xs i = A := by
  unfold part
  rw [List.take_of_length_le h1, List.drop_of_length_le h2, List.append_nil]
theorem part_get (A xs : List Int) (i : Nat) (h : i ≤ A.length) : (part A xs i).getD i 0 = xs.getD i 0 := by
  unfold part
  have e : (A.take i).length = i := by rw [List.length_take]; omega
  simp only [List.getD]
  rw [List.getElem?_append_right (by omega), e, Nat.sub_self, List.getElem?_drop, Nat.add_zero]
theorem part_set (A xs : List Int) (i : Nat) (h1 : i < A.length) (h2 : i < xs.length) : (part A xs i).set i (A.getD i 0) = part A xs (i + 1) := by
  unfold part
  have e : (A.take i).length = i := by rw [List.length_take]; omega
  rw [List.set_append_right _ _ (by omega), e, Nat.sub_self, List.drop_eq_getElem_cons h2, List.set_cons_zero, List.take_succ_eq_append_getElem h1, List.append_assoc]
  simp [List.getD, List.getElem?_eq_getElem h1]

theorem zip_get (f : Int → Int → Int × Int) (xs ys : List Int) (i : Nat) (h1 : i < xs.length) (h2 : i < ys.length) :
    ((List.zipWith f xs ys).map (·.1)).getD i 0 = (f (xs.getD i 0) (ys.getD i 0)).1 ∧ ((List.zipWith f xs ys).map (·.2)).getD i 0 = (f (xs.getD i 0) (ys.getD i 0)).2 := by
  have e : (List.zipWith f xs ys)[i]? = some (f xs[i] ys[i]) := by
    rw [List.getElem?_zipWith, List.getElem?_eq_getElem h1, List.getElem?_eq_getElem h2]
  simp only [List.getD, List.getElem?_map, e, List.getElem?_eq_getElem h1, List.getElem?_eq_getElem h2, Option.map_some, Option.getD_some]
  exact ⟨trivial, trivial⟩

theorem pair8 (a b : Int) : pair 8 a b = (a, a - b) := rfl
theorem pair9 (a b : Int) : pair 9 a b = (a + b, b) := rfl
theorem pair10 (a b : Int) : pair 10 a b = ((2 * a + b % 2 + b) / 2, (2 * a + b % 2 - b) / 2) := rfl

theorem odd_t (b : Int) : (b.tmod 2 != 0) = decide (b % 2 = 1) := by
  rcases Int.lt_or_le b 0 with h | h
  · rw [tmod2 b h, Bool.eq_iff_iff, bne_iff_ne, decide_eq_true_eq]; omega
  · rw [Int.tmod_eq_emod_of_nonneg h, Bool.eq_iff_iff, bne_iff_ne, decide_eq_true_eq]; omega

theorem mid_val (x : Int) (h : x % 2 = 0) : x.tdiv 2 = x / 2 := by
  rcases Int.lt_or_le x 0 with h1 | h1
  · rw [tdiv2 x h1]; omega
  · rw [Int.tdiv_eq_ediv_of_nonneg h1]

/-- all up to there are of so many bits -/
def fitUpto (bits : Nat) (A B : List Int) (i : Nat) : Prop := ∀ j, j < i → fitsB bits (A.getD j 0) = true ∧ fitsB bits (B.getD j 0) = true

def ApartPost (w : World) (base b : Nat) (s : ByteArray) (l : List Bool) (lv : Value) (g0 g1 n cap0 cap1 bits : Nat) (A B : List Int) (e : Ending) (w' : World) : Prop :=
  ∃ (σ' : Option (List Bool)), e = .returned lv ∧ St 64 w' b s σ' ∧ w'.os = w.os ∧ w'.tape = w.tape ∧ w'.output = w.output ∧ w.heap.size ≤ w'.heap.size ∧
    (∀ k, k < w.heap.size → k ≠ b → k ≠ g0 → k ≠ g1 → w'.heap[k]? = w.heap[k]?) ∧
    ((σ' = some l ∧ fitUpto bits A B n ∧ Row w' base g0 n cap0 A ∧ Row w' base g1 n cap1 B) ∨ (σ' = none ∧ ¬ fitUpto bits A B n))

/-- but for three blocks nothing has turned -/
structure Three (w w' : World) (b g0 g1 : Nat) : Prop where
  os : w'.os = w.os
  tape : w'.tape = w.tape
  output : w'.output = w.output
  size : w.heap.size ≤ w'.heap.size
  block : ∀ k, k < w.heap.size → k ≠ b → k ≠ g0 → k ≠ g1 → w'.heap[k]? = w.heap[k]?

theorem Three.refl (w : World) (b g0 g1 : Nat) : Three w w b g0 g1 := ⟨rfl, rfl, rfl, Nat.le_refl _, fun _ _ _ _ _ => rfl⟩
theorem Three.step {w w' w'' : World} {b g0 g1 g : Nat} (h : Three w w' b g0 g1) (k : w'.grownBy w'' (some g)) (hg : g = b ∨ g = g0 ∨ g = g1) : Three w w'' b g0 g1 :=
  ⟨k.os.trans h.os, k.tape.trans h.tape, k.output.trans h.output, Nat.le_trans h.size k.size,
    fun i hi h1 h2 h3 => (k.block i (Nat.lt_of_lt_of_le hi h.size) (fun e => by injection e with e; omega)).trans (h.block i hi h1 h2 h3)⟩


theorem lt_of_cell {w : World} {g o : Nat} {v : Value} (h : w.cell? ⟨g, o, none⟩ = some v) : g < w.heap.size := by
  rcases Nat.lt_or_ge g w.heap.size with h1 | h1
  · exact h1
  · simp [World.cell?, Array.getElem?_eq_none h1] at h

/-- three stores: the mark, and one sample of each channel -/
theorem three_stores {w wr : World} {base b : Nat} {s : ByteArray} {g0 g1 n cap0 cap1 k : Nat} {ys0 ys1 : List Int} {l : List Bool} {a1 b1 : Int} (m : Bool) (hs : s.size ≤ 6000) (hb : b < base)
    (hr0 : Row wr base g0 n cap0 ys0) (hr1 : Row wr base g1 n cap1 ys1) (hne : g0 ≠ g1) (ht : Three w wr b g0 g1) (hst : St 64 wr b s (some l)) :
    Row (((wr.setCell ⟨b, 2, none⟩ (.bool m)).setCell ⟨g0, k, none⟩ (.int .i64 a1)).setCell ⟨g1, k, none⟩ (.int .i64 b1)) base g0 n cap0 (ys0.set k a1) ∧
    Row (((wr.setCell ⟨b, 2, none⟩ (.bool m)).setCell ⟨g0, k, none⟩ (.int .i64 a1)).setCell ⟨g1, k, none⟩ (.int .i64 b1)) base g1 n cap1 (ys1.set k b1) ∧
    Three w (((wr.setCell ⟨b, 2, none⟩ (.bool m)).setCell ⟨g0, k, none⟩ (.int .i64 a1)).setCell ⟨g1, k, none⟩ (.int .i64 b1)) b g0 g1 ∧
    St 64 (((wr.setCell ⟨b, 2, none⟩ (.bool m)).setCell ⟨g0, k, none⟩ (.int .i64 a1)).setCell ⟨g1, k, none⟩ (.int .i64 b1)) b s (if m then none else some l) := by
  have h0 := hr0.lt
  have h1 := hr1.lt
  have w1 := grown_set wr b 2 (.bool m)
  have w2 := grown_set (wr.setCell ⟨b, 2, none⟩ (.bool m)) g0 k (.int .i64 a1)
  have w3 := grown_set ((wr.setCell ⟨b, 2, none⟩ (.bool m)).setCell ⟨g0, k, none⟩ (.int .i64 a1)) g1 k (.int .i64 b1)
  refine ⟨?_, ?_, ?_, ?_⟩
  · exact ((hr0.kept w1 (fun e => by injection e with e; omega)).stored k a1).kept w3 (fun e => by injection e with e; omega)
  · exact ((hr1.kept w1 (fun e => by injection e with e; omega)).kept w2 (fun e => by injection e with e; omega)).stored k b1
  · exact ((ht.step w1 (.inl rfl)).step w2 (.inr (.inl rfl))).step w3 (.inr (.inr rfl))
  · have hq : St 64 (wr.setCell ⟨b, 2, none⟩ (.bool m)) b s (if m then none else some l) := by
      cases m with
      | true => exact hst.kill hs
      | false => exact hst.same
    exact (hq.kept w2 (fun e => by injection e with e; omega)).kept w3 (fun e => by injection e with e; omega)

theorem Abs.of_row {B : Int} {xs : List Int} (h : Abs B xs) (hB : 0 ≤ B) (j : Nat) (a : Int) (e : xs.getD j 0 = a) : -B ≤ a ∧ a ≤ B := by
  rw [← e]; exact h.get hB j

set_option maxHeartbeats 2000000 in
set_option maxRecDepth 20000 in
theorem rapart (w : World) (b : Nat) (s : ByteArray) (base lg lcap g0 g1 n cap0 cap1 bits mode : Nat) (xs0 xs1 : List Int) (l : List Bool)
    (hs : s.size ≤ 6000) (hn : n ≤ 256) (hbits1 : 1 ≤ bits) (hbits : bits ≤ 16) (hm8 : 8 ≤ mode) (hm10 : mode ≤ 10) (hb : b < base) (hlg : base ≤ lg)
    (hc0 : w.cell? ⟨lg, 0, none⟩ = some (.slice (some ⟨g0, 0, none⟩) n cap0)) (hc1 : w.cell? ⟨lg, 1, none⟩ = some (.slice (some ⟨g1, 0, none⟩) n cap1))
    (hr0 : Row w base g0 n cap0 xs0) (hr1 : Row w base g1 n cap1 xs1) (hne : g0 ≠ g1) (hl0 : lg ≠ g0) (hl1 : lg ≠ g1) (ha0 : Abs 4294967296 xs0) (ha1 : Abs 4294967296 xs1)
    (h : St 64 w b s (some l)) :
    Calls Try.prog 54 #[.pointer (some ⟨b, 0, none⟩), .slice (some ⟨lg, 0, none⟩) 2 lcap, .int .i64 mode, .int .i64 bits, .int .i64 n] w
      (ApartPost w base b s l (.slice (some ⟨lg, 0, none⟩) 2 lcap) g0 g1 n cap0 cap1 bits ((List.zipWith (pair mode) xs0 xs1).map (·.1)) ((List.zipWith (pair mode) xs0 xs1).map (·.2))) := by
  obtain ⟨A, hA⟩ : ∃ A, (List.zipWith (pair mode) xs0 xs1).map (·.1) = A := ⟨_, rfl⟩
  obtain ⟨B, hB⟩ : ∃ B, (List.zipWith (pair mode) xs0 xs1).map (·.2) = B := ⟨_, rfl⟩
  rw [hA, hB]
  have hx0 := hr0.len
  have hx1 := hr1.len
  have HA : Hid ((∀ i, i < n → A.getD i 0 = (pair mode (xs0.getD i 0) (xs1.getD i 0)).1 ∧ B.getD i 0 = (pair mode (xs0.getD i 0) (xs1.getD i 0)).2) ∧ A.length = n ∧ B.length = n) := by
    refine ⟨fun i hi => ?_, ?_, ?_⟩
    · rw [← hA, ← hB]
      exact zip_get _ _ _ i (by omega) (by omega)
    · rw [← hA, List.length_map, List.length_zipWith]; omega
    · rw [← hB, List.length_map, List.length_zipWith]; omega
  have HX : Hid (xs0.length = n ∧ xs1.length = n) := ⟨hx0, hx1⟩
  clear hA hB hx0 hx1
  go_enter Try.func54, Try.ntmps54
  go_wp2
  go_loopw [11] (fun i wr => ∃ (k : Nat) (ys0 ys1 : List Int) (σ' : Option (List Bool)), k ≤ n ∧ i = .int .i64 k ∧ Row wr base g0 n cap0 ys0 ∧ Row wr base g1 n cap1 ys1 ∧ Hid (ys0 = part A xs0 k ∧ ys1 = part B xs1 k) ∧ Three w wr b g0 g1 ∧ St 64 wr b s σ' ∧
      ((σ' = some l ∧ fitUpto bits A B k) ∨ (σ' = none ∧ ¬ fitUpto bits A B n)))
    (fun i _ => n - (intOf i).toNat)
  case atStart => exact ⟨0, xs0, xs1, some l, Nat.zero_le _, rfl, hr0, hr1, (⟨by rw [part_zero], by rw [part_zero]⟩ : _ ∧ _), Three.refl _ _ _ _, h, .inl ⟨rfl, fun j hj => by omega⟩⟩
  case round =>
    obtain ⟨k, ys0, ys1, σ', hk, rfl, hrow0, hrow1, HYS, hthree, hst, hfit⟩ := hrel
    have hm := hst.mark
    have hfz := hst.fz 2
    by_cases hlt : k < n
    · rcases hfit with ⟨rfl, hup⟩ | ⟨rfl, hno⟩
      · have hm' : wr.cell? ⟨b, 2, none⟩ = some (.bool false) := hm
        clear hm
        have hlt0 := hr0.lt
        have hlt1 := hr1.lt
        have e0 : wr.cell? ⟨lg, 0, none⟩ = some (.slice (some ⟨g0, 0, none⟩) n cap0) := by
          rw [← hc0]
          exact World.cell?_of_block (hthree.block lg (lt_of_cell hc0) (by omega) hl0 hl1)
        have e1 : wr.cell? ⟨lg, 1, none⟩ = some (.slice (some ⟨g1, 0, none⟩) n cap1) := by
          rw [← hc1]
          exact World.cell?_of_block (hthree.block lg (lt_of_cell hc0) (by omega) hl0 hl1)
        obtain ⟨p, hp⟩ : ∃ p, xs0.getD k 0 = p := ⟨_, rfl⟩
        obtain ⟨q, hq⟩ : ∃ q, xs1.getD k 0 = q := ⟨_, rfl⟩
        have hpb := ha0.of_row (by omega) k p hp
        have hqb := ha1.of_row (by omega) k q hq
        have hcp : wr.cell? ⟨g0, k, none⟩ = some (.int .i64 p) := by
          rw [hrow0.cell k hlt, HYS.out.1, part_get A xs0 k (by have := HA.out.2.1; omega), hp]
        have hcq : wr.cell? ⟨g1, k, none⟩ = some (.int .i64 q) := by
          rw [hrow1.cell k hlt, HYS.out.2, part_get B xs1 k (by have := HA.out.2.2; omega), hq]
        have hAB := HA.out.1 k hlt
        rw [hp, hq] at hAB
        have hklt : (k : Int) < (n : Int) := by omega
        obtain ⟨a1, ha1d⟩ : ∃ a1, A.getD k 0 = a1 := ⟨_, rfl⟩
        obtain ⟨b1, hb1d⟩ : ∃ b1, B.getD k 0 = b1 := ⟨_, rfl⟩
        rw [ha1d, hb1d] at hAB
        have hf0 := hrow0.fz k
        have hf1 := hrow1.fz k
        have hrg0 := hrow0.lt
        have hrg1 := hrow1.lt
        have HS : Hid (ys0.set k a1 = part A xs0 (k + 1) ∧ ys1.set k b1 = part B xs1 (k + 1)) := by
          refine ⟨?_, ?_⟩
          · rw [HYS.out.1, ← ha1d]
            exact part_set A xs0 k (by have := HA.out.2.1; omega) (by have := HX.out.1; omega)
          · rw [HYS.out.2, ← hb1d]
            exact part_set B xs1 k (by have := HA.out.2.2; omega) (by have := HX.out.2; omega)
        have HFY : Hid (fitsB bits a1 = true → fitsB bits b1 = true → fitUpto bits A B (k + 1)) := by
          intro f1 f2 j hj
          rcases (show j < k ∨ j = k by omega) with hj | rfl
          · exact hup j hj
          · rw [ha1d, hb1d]; exact ⟨f1, f2⟩
        have HFN : Hid (¬ (fitsB bits a1 = true ∧ fitsB bits b1 = true) → ¬ fitUpto bits A B n) := by
          intro hn' hall
          apply hn'
          have := hall k hlt
          rw [ha1d, hb1d] at this
          exact this
        have T3 := fun m => three_stores (k := k) (a1 := a1) (b1 := b1) m hs hb hrow0 hrow1 hne hthree hst
        clear ha1d hb1d hp hq HA HX HYS hup
        have key : (a1 = p ∧ p - q = b1 ∧ mode < 9) ∨ (p + q = a1 ∧ b1 = q ∧ 9 ≤ mode ∧ mode < 10) ∨ (10 ≤ mode ∧ a1 - q = b1 ∧ ((q % 2 = 1 ∧ (2 * p + 1 + q).tdiv 2 = a1) ∨ (q % 2 = 0 ∧ (2 * p + q).tdiv 2 = a1)) ∧ -17179869184 ≤ a1 ∧ a1 ≤ 17179869184) := by
          rcases (show mode = 8 ∨ mode = 9 ∨ mode = 10 by omega) with rfl | rfl | rfl
          · rw [pair8] at hAB
            exact .inl ⟨hAB.1, hAB.2.symm, by omega⟩
          · rw [pair9] at hAB
            exact .inr (.inl ⟨hAB.1.symm, hAB.2, by omega, by omega⟩)
          · rw [pair10] at hAB
            refine .inr (.inr ⟨by omega, by have := hAB.1; have := hAB.2; simp only at *; omega, ?_, by have := hAB.1; simp only at *; omega, by have := hAB.1; simp only at *; omega⟩)
            rcases (show q % 2 = 1 ∨ q % 2 = 0 by omega) with hq2 | hq2
            · refine .inl ⟨hq2, ?_⟩
              rw [mid_val _ (by omega)]
              have := hAB.1; simp only at *; omega
            · refine .inr ⟨hq2, ?_⟩
              rw [mid_val _ (by omega)]
              have := hAB.1; simp only at *; omega
        clear hAB
        rcases key with ⟨rfl, r1, hmd⟩ | ⟨r1, rfl, hmd⟩ | ⟨hmd, r2, ⟨hodd, r1⟩ | ⟨hodd, r1⟩, hb3, hb4⟩
        · have t1 : ((mode : Int) == 8) = true := by simp; omega
          go_wp2_with fail
          refine (rfits _ a1 bits hbits1 (by omega)).mono ?_
          rintro e w' ⟨rfl, hw'⟩
          subst hw'
          go_wp2_with fail
          refine (rfits _ b1 bits hbits1 (by omega)).mono ?_
          rintro e w' ⟨rfl, hw'⟩
          subst hw'
          rcases f1 : fitsB bits a1 with _ | _
          · have T := T3 true
            clear T3 hrow0 hrow1 hst hthree
            go_wp2
            go_roundw
            case rel => exact ⟨k + 1, _, _, none, by omega, by go_num, T.1, T.2.1, HS, T.2.2.1, T.2.2.2, .inr ⟨rfl, HFN.out (fun h => by rw [f1] at h; cases h.1)⟩⟩
            case measure => simp [intOf]; omega
          · rcases f2 : fitsB bits b1 with _ | _
            · have T := T3 true
              clear T3 hrow0 hrow1 hst hthree
              go_wp2
              go_roundw
              case rel => exact ⟨k + 1, _, _, none, by omega, by go_num, T.1, T.2.1, HS, T.2.2.1, T.2.2.2, .inr ⟨rfl, HFN.out (fun h => by rw [f2] at h; cases h.2)⟩⟩
              case measure => simp [intOf]; omega
            · have T := T3 false
              clear T3 hrow0 hrow1 hst hthree
              go_wp2
              go_roundw
              case rel => exact ⟨k + 1, _, _, some l, by omega, by go_num, T.1, T.2.1, HS, T.2.2.1, T.2.2.2, .inl ⟨rfl, HFY.out f1 f2⟩⟩
              case measure => simp [intOf]; omega
        · have t1 : ((mode : Int) == 8) = false := by simp; omega
          have t2 : ((mode : Int) == 9) = true := by simp; omega
          go_wp2_with fail
          refine (rfits _ a1 bits hbits1 (by omega)).mono ?_
          rintro e w' ⟨rfl, hw'⟩
          subst hw'
          go_wp2_with fail
          refine (rfits _ b1 bits hbits1 (by omega)).mono ?_
          rintro e w' ⟨rfl, hw'⟩
          subst hw'
          rcases f1 : fitsB bits a1 with _ | _
          · have T := T3 true
            clear T3 hrow0 hrow1 hst hthree
            go_wp2
            go_roundw
            case rel => exact ⟨k + 1, _, _, none, by omega, by go_num, T.1, T.2.1, HS, T.2.2.1, T.2.2.2, .inr ⟨rfl, HFN.out (fun h => by rw [f1] at h; cases h.1)⟩⟩
            case measure => simp [intOf]; omega
          · rcases f2 : fitsB bits b1 with _ | _
            · have T := T3 true
              clear T3 hrow0 hrow1 hst hthree
              go_wp2
              go_roundw
              case rel => exact ⟨k + 1, _, _, none, by omega, by go_num, T.1, T.2.1, HS, T.2.2.1, T.2.2.2, .inr ⟨rfl, HFN.out (fun h => by rw [f2] at h; cases h.2)⟩⟩
              case measure => simp [intOf]; omega
            · have T := T3 false
              clear T3 hrow0 hrow1 hst hthree
              go_wp2
              go_roundw
              case rel => exact ⟨k + 1, _, _, some l, by omega, by go_num, T.1, T.2.1, HS, T.2.2.1, T.2.2.2, .inl ⟨rfl, HFY.out f1 f2⟩⟩
              case measure => simp [intOf]; omega
        · have t1 : ((mode : Int) == 8) = false := by simp; omega
          have t2 : ((mode : Int) == 9) = false := by simp; omega
          have t4 : (q.tmod 2 != 0) = true := by rw [odd_t]; exact decide_eq_true hodd
          clear hodd
          go_wp2_with fail
          refine (rfits _ a1 bits hbits1 (by omega)).mono ?_
          rintro e w' ⟨rfl, hw'⟩
          subst hw'
          go_wp2_with fail
          refine (rfits _ b1 bits hbits1 (by omega)).mono ?_
          rintro e w' ⟨rfl, hw'⟩
          subst hw'
          rcases f1 : fitsB bits a1 with _ | _
          · have T := T3 true
            clear T3 hrow0 hrow1 hst hthree
            go_wp2
            go_roundw
            case rel => exact ⟨k + 1, _, _, none, by omega, by go_num, T.1, T.2.1, HS, T.2.2.1, T.2.2.2, .inr ⟨rfl, HFN.out (fun h => by rw [f1] at h; cases h.1)⟩⟩
            case measure => simp [intOf]; omega
          · rcases f2 : fitsB bits b1 with _ | _
            · have T := T3 true
              clear T3 hrow0 hrow1 hst hthree
              go_wp2
              go_roundw
              case rel => exact ⟨k + 1, _, _, none, by omega, by go_num, T.1, T.2.1, HS, T.2.2.1, T.2.2.2, .inr ⟨rfl, HFN.out (fun h => by rw [f2] at h; cases h.2)⟩⟩
              case measure => simp [intOf]; omega
            · have T := T3 false
              clear T3 hrow0 hrow1 hst hthree
              go_wp2
              go_roundw
              case rel => exact ⟨k + 1, _, _, some l, by omega, by go_num, T.1, T.2.1, HS, T.2.2.1, T.2.2.2, .inl ⟨rfl, HFY.out f1 f2⟩⟩
              case measure => simp [intOf]; omega
        · have t1 : ((mode : Int) == 8) = false := by simp; omega
          have t2 : ((mode : Int) == 9) = false := by simp; omega
          have t4 : (q.tmod 2 != 0) = false := by rw [odd_t]; exact decide_eq_false (by omega)
          clear hodd
          go_wp2_with fail
          refine (rfits _ a1 bits hbits1 (by omega)).mono ?_
          rintro e w' ⟨rfl, hw'⟩
          subst hw'
          go_wp2_with fail
          refine (rfits _ b1 bits hbits1 (by omega)).mono ?_
          rintro e w' ⟨rfl, hw'⟩
          subst hw'
          rcases f1 : fitsB bits a1 with _ | _
          · have T := T3 true
            clear T3 hrow0 hrow1 hst hthree
            go_wp2
            go_roundw
            case rel => exact ⟨k + 1, _, _, none, by omega, by go_num, T.1, T.2.1, HS, T.2.2.1, T.2.2.2, .inr ⟨rfl, HFN.out (fun h => by rw [f1] at h; cases h.1)⟩⟩
            case measure => simp [intOf]; omega
          · rcases f2 : fitsB bits b1 with _ | _
            · have T := T3 true
              clear T3 hrow0 hrow1 hst hthree
              go_wp2
              go_roundw
              case rel => exact ⟨k + 1, _, _, none, by omega, by go_num, T.1, T.2.1, HS, T.2.2.1, T.2.2.2, .inr ⟨rfl, HFN.out (fun h => by rw [f2] at h; cases h.2)⟩⟩
              case measure => simp [intOf]; omega
            · have T := T3 false
              clear T3 hrow0 hrow1 hst hthree
              go_wp2
              go_roundw
              case rel => exact ⟨k + 1, _, _, some l, by omega, by go_num, T.1, T.2.1, HS, T.2.2.1, T.2.2.2, .inl ⟨rfl, HFY.out f1 f2⟩⟩
              case measure => simp [intOf]; omega
      · have hm' : wr.cell? ⟨b, 2, none⟩ = some (.bool true) := hm
        clear hm
        go_wp2
        go_ret
        exact ⟨none, rfl, hst, hthree.os, hthree.tape, hthree.output, hthree.size, hthree.block, .inr ⟨rfl, hno⟩⟩
    · obtain rfl : k = n := by omega
      go_wp2
      go_ret
      refine ⟨σ', rfl, hst, hthree.os, hthree.tape, hthree.output, hthree.size, hthree.block, ?_⟩
      rcases hfit with ⟨rfl, hup⟩ | ⟨rfl, hno⟩
      · refine .inl ⟨rfl, hup, ?_, ?_⟩
        · rw [HYS.out.1, part_all A xs0 k (by have := HA.out.2.1; omega) (by have := HX.out.1; omega)] at hrow0
          exact hrow0
        · rw [HYS.out.2, part_all B xs1 k (by have := HA.out.2.2; omega) (by have := HX.out.2; omega)] at hrow1
          exact hrow1
      · exact .inr ⟨rfl, hno⟩

end Go.Proofs.Ytodbbdknkffceaa
