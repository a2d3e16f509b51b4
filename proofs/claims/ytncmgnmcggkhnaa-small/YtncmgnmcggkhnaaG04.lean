import Derived.Test.YtncmgnmcggkhnaaG03
namespace Go.Proofs.Ytncmgnmcggkhnaa
open Go.RowKit

theorem Own.mono {w : World} {base base' : Nat} {v : Value} {xs : List Int} (h : Own w base v xs) (hb : base' ≤ base) : Own w base' v xs := by
  refine ⟨h.1, ?_⟩
  rcases h.2 with h2 | ⟨g, cap, cur, hv, hg, r⟩
  · exact .inl h2
  · exact .inr ⟨g, cap, cur, hv, by omega, r⟩

theorem Row.mono {w : World} {base base' g n cap : Nat} {xs : List Int} (h : Row w base g n cap xs) (hb : base' ≤ base) : Row w base' g n cap xs := by
  have := Own.mono h.own hb
  unfold Own at this
  rw [h.len] at this
  exact this

theorem fixed_len (o : Nat) (h : o ≤ 4) : (fixedFactors o).length = o := by
  rcases (show o = 0 ∨ o = 1 ∨ o = 2 ∨ o = 3 ∨ o = 4 by omega) with rfl | rfl | rfl | rfl | rfl <;> rfl

theorem fixed_abs (o : Nat) (h : o ≤ 4) : Abs 32768 (fixedFactors o) := by
  rcases (show o = 0 ∨ o = 1 ∨ o = 2 ∨ o = 3 ∨ o = 4 by omega) with rfl | rfl | rfl | rfl | rfl <;> intro x hx <;> simp [fixedFactors] at hx <;> omega

theorem list_len {f : P Int} {n : Nat} {xs : List Int} {σ : Option (List Bool)} {l : List Bool} (h : Ends (pList f n) σ xs (some l)) : xs.length = n := by
  cases σ with
  | none => cases h
  | some l0 =>
    rcases h.cases with ⟨r, hp, _⟩ | ⟨_, h⟩
    · exact pList_length _ _ _ _ _ hp
    · cases h

theorem fixed_ends {n wide order : Nat} {first xs : List Int} {σ σ1 σ2 : Option (List Bool)} (ho : order ≤ n) (h1 : Ends (pList (pSigned wide) order) σ first σ1)
    (h2 : Ends (pForetold n wide first (fixedFactors order) 0) σ1 xs σ2) : Ends (pFixed n wide order) σ xs σ2 := by
  have e : pFixed n wide order = fun l => (pList (pSigned wide) order l).bind fun (first, r) => pForetold n wide first (fixedFactors order) 0 r := by
    funext l
    unfold pFixed
    rw [if_pos ho]
  rw [e]
  exact Ends.bind h1 (q := fun first r => pForetold n wide first (fixedFactors order) 0 r) h2

theorem fixed_fail {n wide order : Nat} {xs : List Int} {σ : Option (List Bool)} (ho : ¬ order ≤ n) : Ends (pFixed n wide order) σ xs none :=
  Ends.fail (fun l _ => by unfold pFixed; rw [if_neg ho])

set_option maxHeartbeats 400000 in
set_option maxRecDepth 20000 in
theorem rforetold (w : World) (b : Nat) (s : ByteArray) (base fg fcap n wide order : Nat) (a : Int) (σ : Option (List Bool)) (ha : a = order)
    (hs : s.size ≤ 6000) (hn : n ≤ 256) (hn1 : 1 ≤ n) (hw1 : 1 ≤ wide) (hw : wide ≤ 17) (ho4 : order ≤ 4) (hb : b < base) (hbase : base ≤ w.heap.size)
    (hf : Row w base fg order fcap (fixedFactors order)) (h : St 86 w b s σ) :
    Calls Try.prog 95 #[.pointer (some ⟨b, 0, none⟩), .int .i64 n, .int .i64 wide, .int .i64 a, .slice (some ⟨fg, 0, none⟩) order fcap, .int .i64 0] w
      (GoPost w base b s σ (pFixed n wide order) fun xs => Abs 65536 xs) := by
  subst ha
  have hfz := h.fz 2
  have hm0 := h.mark
  have hflt := hf.lt
  by_cases hon : order ≤ n
  · go_enter Try.func95, Try.ntmps95
    go_wp2_with fail
    refine (rplain _ _ _ _ _ _ hs (by omega) (by omega) h).mono ?_
    rintro e w1 ⟨v, first, σ1, rfl, hown, ⟨hfl, hsg⟩, hg1, hst1, hends1⟩
    have hm1 := hst1.mark
    clear hfz hm0
    rcases σ1 with _ | l1
    · have hm' : w1.cell? ⟨b, 2, none⟩ = some (.bool true) := hm1
      clear hm1
      go_wp2
      go_ret
      exact ⟨_, [], none, rfl, Own.nil _ _, (fun x hx => by cases hx), Chg.of hg1 hbase, hst1, fixed_ends hon hends1 Ends.dead⟩
    · have hm' : w1.cell? ⟨b, 2, none⟩ = some (.bool false) := hm1
      clear hm1
      have hfo := list_len hends1
      have hf1 : Row w1 base fg order fcap (fixedFactors order) := hf.kept hg1 (fun e => by injection e with e; omega)
      have hgo := rgo1 w1 b s base v first (fixedFactors order) fg fcap n wide 0 (some l1) hs hn hn1 hw1 hw (by omega) (by rw [fixed_len order ho4, hfo]) (by omega) (by omega) (hsg.abs hw1 hw) (fixed_abs order ho4) hb
        (by have := hg1.size; omega) (hown.mono hbase) (by rw [hfo]; exact hf1) (fun e => by have := (hown.lt fg e).1; omega) hst1
      rw [hfo] at hgo
      clear hfo
      go_wp2_with fail
      refine hgo.mono ?_
      rintro e w2 ⟨v2, xs, σ2, rfl, hown2, hab, hchg, hst2, hends2⟩
      go_wp2
      go_ret
      exact ⟨v2, xs, σ2, rfl, hown2, hab, (Chg.of hg1 hbase).trans hchg, hst2, fixed_ends hon hends1 hends2⟩
  · go_enter Try.func95, Try.ntmps95
    go_wp2
    go_ret
    exact ⟨_, [], none, rfl, Own.nil _ _, (fun x hx => by cases hx), Chg.of (grown_set _ _ _ _) hbase, h.kill hs, fixed_fail hon⟩

theorem linear_ends {n wide order fb : Nat} {shift : Int} {first factors xs : List Int} {σ σ1 σ2 σ3 σ4 σ5 : Option (List Bool)} (ho : order ≤ n) (h1 : Ends (pList (pSigned wide) order) σ first σ1)
    (h2 : Ends (pNum 4) σ1 fb σ2) (h3 : Ends (pSigned 5) σ2 shift σ3) (hc : ¬ (fb = 15 ∨ shift < 0)) (h4 : Ends (pList (pSigned (fb + 1)) order) σ3 factors σ4)
    (h5 : Ends (pForetold n wide first factors shift.toNat) σ4 xs σ5) : Ends (pLinear n wide order) σ xs σ5 := by
  have e : pLinear n wide order = fun l => (pList (pSigned wide) order l).bind fun (first, r) => (pNum 4 r).bind fun (fb, r1) => (pSigned 5 r1).bind fun (shift, r2) =>
      if fb = 15 ∨ shift < 0 then none else (pList (pSigned (fb + 1)) order r2).bind fun (factors, r3) => pForetold n wide first factors shift.toNat r3 := by
    funext l
    unfold pLinear
    rw [if_pos ho]
  rw [e]
  refine Ends.bind h1 (q := fun first r => (pNum 4 r).bind fun (fb, r1) => (pSigned 5 r1).bind fun (shift, r2) =>
      if fb = 15 ∨ shift < 0 then none else (pList (pSigned (fb + 1)) order r2).bind fun (factors, r3) => pForetold n wide first factors shift.toNat r3) ?_
  refine Ends.bind h2 (q := fun fb r1 => (pSigned 5 r1).bind fun (shift, r2) =>
      if fb = 15 ∨ shift < 0 then none else (pList (pSigned (fb + 1)) order r2).bind fun (factors, r3) => pForetold n wide first factors shift.toNat r3) ?_
  refine Ends.bind h3 (q := fun (shift : Int) r2 =>
      if fb = 15 ∨ shift < 0 then none else (pList (pSigned (fb + 1)) order r2).bind fun (factors, r3) => pForetold n wide first factors shift.toNat r3) ?_
  have e2 : (fun r2 => if fb = 15 ∨ shift < 0 then none else (pList (pSigned (fb + 1)) order r2).bind fun (factors, r3) => pForetold n wide first factors shift.toNat r3)
      = fun r2 => (pList (pSigned (fb + 1)) order r2).bind fun (factors, r3) => pForetold n wide first factors shift.toNat r3 := by
    funext r2; rw [if_neg hc]
  rw [e2]
  exact Ends.bind h4 (q := fun factors r3 => pForetold n wide first factors shift.toNat r3) h5

theorem linear_no {n wide order fb : Nat} {shift : Int} {first xs : List Int} {σ σ1 σ2 σ3 : Option (List Bool)} (ho : order ≤ n) (h1 : Ends (pList (pSigned wide) order) σ first σ1)
    (h2 : Ends (pNum 4) σ1 fb σ2) (h3 : Ends (pSigned 5) σ2 shift σ3) (hc : fb = 15 ∨ shift < 0) : Ends (pLinear n wide order) σ xs none := by
  have e : pLinear n wide order = fun l => (pList (pSigned wide) order l).bind fun (first, r) => (pNum 4 r).bind fun (fb, r1) => (pSigned 5 r1).bind fun (shift, r2) =>
      if fb = 15 ∨ shift < 0 then none else (pList (pSigned (fb + 1)) order r2).bind fun (factors, r3) => pForetold n wide first factors shift.toNat r3 := by
    funext l
    unfold pLinear
    rw [if_pos ho]
  rw [e]
  refine Ends.bind h1 (q := fun first r => (pNum 4 r).bind fun (fb, r1) => (pSigned 5 r1).bind fun (shift, r2) =>
      if fb = 15 ∨ shift < 0 then none else (pList (pSigned (fb + 1)) order r2).bind fun (factors, r3) => pForetold n wide first factors shift.toNat r3) ?_
  refine Ends.bind h2 (q := fun fb r1 => (pSigned 5 r1).bind fun (shift, r2) =>
      if fb = 15 ∨ shift < 0 then none else (pList (pSigned (fb + 1)) order r2).bind fun (factors, r3) => pForetold n wide first factors shift.toNat r3) ?_
  refine Ends.bind h3 (q := fun (shift : Int) r2 =>
      if fb = 15 ∨ shift < 0 then none else (pList (pSigned (fb + 1)) order r2).bind fun (factors, r3) => pForetold n wide first factors shift.toNat r3) ?_
  exact Ends.fail (fun l _ => if_pos hc)

theorem linear_fail {n wide order : Nat} {xs : List Int} {σ : Option (List Bool)} (ho : ¬ order ≤ n) : Ends (pLinear n wide order) σ xs none :=
  Ends.fail (fun l _ => by unfold pLinear; rw [if_neg ho])

end Go.Proofs.Ytncmgnmcggkhnaa

namespace Go.Proofs.Ytncmgnmcggkhnaa
open Go.RowKit

theorem rsignedI (w : World) (b : Nat) (s : ByteArray) (a : Int) (n : Nat) (σ : Option (List Bool)) (hs : s.size ≤ 6000) (hn : n ≤ 32) (ha : a = n) (h : St 86 w b s σ) :
    Calls Try.prog 93 #[.pointer (some ⟨b, 0, none⟩), .int .i64 a] w fun e w' =>
      ∃ (v : Nat) (σ' : Option (List Bool)), e = .returned (.int .i64 (sign n v)) ∧ v < 2 ^ n ∧ w.grownBy w' (some b) ∧ St 86 w' b s σ' ∧ Ends (pSigned n) σ (sign n v) σ' := by
  subst ha
  exact rsigned w b s n σ hs hn h

theorem rplainI (w : World) (b : Nat) (s : ByteArray) (a : Int) (n wide : Nat) (σ : Option (List Bool)) (hs : s.size ≤ 6000) (hn : n ≤ 256) (hw : wide ≤ 32) (ha : a = n) (h : St 86 w b s σ) :
    Calls Try.prog 94 #[.pointer (some ⟨b, 0, none⟩), .int .i64 a, .int .i64 wide] w (ListPost w b s σ (pList (pSigned wide) n) fun xs => xs.length ≤ n ∧ Signs wide xs) := by
  subst ha
  exact rplain w b s n wide σ hs hn hw h

theorem rgo1I (w : World) (b : Nat) (s : ByteArray) (base : Nat) (lv fv : Value) (first factors : List Int) (n wide : Nat) (sh : Int) (order : Nat) (σ : Option (List Bool))
    (hs : s.size ≤ 6000) (hn : n ≤ 256) (hn1 : 1 ≤ n) (hw1 : 1 ≤ wide) (hw : wide ≤ 17) (hsh0 : 0 ≤ sh) (hsh : sh ≤ 15) (hlen : factors.length = order) (hfl : first.length = order) (ho : order ≤ n) (ho8 : order ≤ 8) (ho1 : 1 ≤ order)
    (habs : Abs 65536 first) (hfab : Abs 32768 factors) (hb : b < base) (hbase : base ≤ w.heap.size)
    (hl : Own w base lv first) (hf : Own w base fv factors) (hne : ∀ g, fv.ownBlock = some g → lv.ownBlock ≠ some g) (h : St 86 w b s σ) :
    Calls Try.prog 114 #[.pointer (some ⟨b, 0, none⟩), lv, .int .i64 n, .int .i64 wide, fv, .int .i64 sh] w
      (GoPost w base b s σ (pForetold n wide first factors sh.toNat) fun xs => Abs 65536 xs) := by
  rcases hf.row with ⟨_, rfl⟩ | ⟨g, cap, rfl, hrow⟩
  · simp at hlen
    omega
  · have e : sh = (sh.toNat : Nat) := by omega
    have hgo := rgo1 w b s base lv first factors g cap n wide sh.toNat σ hs hn hn1 hw1 hw (by omega) (by rw [hlen, hfl]) (by omega) (by omega) habs hfab hb hbase hl (by rw [hfl, ← hlen]; exact hrow) (hne g rfl) h
    rw [← e, hfl, ← hlen] at hgo
    exact hgo

theorem sign5 (v : Nat) (hv : v < 2 ^ 5) : -16 ≤ sign 5 v ∧ sign 5 v ≤ 15 := by
  have h := (fitsB_iff _ _).1 (sign_fits 5 v (by omega) hv)
  have e : (2 : Int) ^ (5 - 1) = 16 := rfl
  omega

set_option maxHeartbeats 1000000 in
set_option maxRecDepth 20000 in
theorem rlinear (w : World) (b : Nat) (s : ByteArray) (n wide order : Nat) (a : Int) (σ : Option (List Bool)) (ha : a = order)
    (hs : s.size ≤ 6000) (hn : n ≤ 256) (hn1 : 1 ≤ n) (hw1 : 1 ≤ wide) (hw : wide ≤ 17) (ho1 : 1 ≤ order) (ho8 : order ≤ 8) (h : St 86 w b s σ) :
    Calls Try.prog 97 #[.pointer (some ⟨b, 0, none⟩), .int .i64 n, .int .i64 wide, .int .i64 a] w
      (ListPost w b s σ (pLinear n wide order) fun xs => Abs 65536 xs) := by
  subst ha
  obtain ⟨i0, hi, hz0, hz1, hz2⟩ := info_parts Try.info3
  have hfz := h.fz 2
  have hm0 := h.mark
  have hblt := h.lt
  by_cases hon : order ≤ n
  · go_enter Try.func97, Try.ntmps97
    go_wp2_with fail
    refine (rplain _ _ _ _ _ _ hs (by omega) (by omega) h).mono ?_
    rintro e w1 ⟨fv, first, σ1, rfl, hown1, ⟨hfl, hsg⟩, hg1, hst1, hends1⟩
    clear hfz hm0
    go_wp2_with fail
    refine (rnum _ _ _ 4 _ hs (by omega) hst1).mono ?_
    rintro e w2 ⟨fb, σ2, rfl, hfb0, hg2, hst2, hends2⟩
    have hfb : fb < 16 := hfb0
    clear hfb0
    go_wp2_with fail
    refine (rsigned _ _ _ 5 _ hs (by omega) hst2).mono ?_
    rintro e w3 ⟨sv, σ3, rfl, hsv, hg3, hst3, hends3⟩
    have hsb := sign5 sv hsv
    generalize sign 5 sv = sh at hsb hends3 ⊢
    have hown3 : Own w3 w.heap.size fv first := (hown1.kept hg2 hblt).kept hg3 hblt
    have hgg : w.grownBy w3 (some b) := grown_trans (grown_trans hg1 hg2) hg3
    clear hown1 hg1 hg2 hg3 hst1 hst2
    have hfz := hst3.fz 2
    have hm3 := hst3.mark
    have hone : ¬ order < 1 := by omega
    by_cases hc : fb = 15 ∨ sh < 0
    · have fin : ∀ w5, w.grownBy w5 (some b) → St 86 w5 b s none → ListPost w b s σ (pLinear n wide order) (fun xs => Abs 65536 xs) (.returned (.slice none 0 0)) w5 := fun w5 hg5 hs5 =>
        ⟨_, [], none, rfl, Own.nil _ _, (fun x hx => by cases hx), hg5, hs5, linear_no hon hends1 hends2 hends3 hc⟩
      have hg5 : w.grownBy (w3.setCell ⟨b, 2, none⟩ (.bool true)) (some b) := grown_trans hgg (grown_set _ _ _ _)
      have hs5 := hst3.kill hs
      have hm5 : (w3.setCell ⟨b, 2, none⟩ (.bool true)).cell? ⟨b, 2, none⟩ = some (.bool true) := hs5.mark
      rcases (show 15 ≤ fb ∨ (fb < 15 ∧ sh < 0) by omega) with hc1 | ⟨hc1, hc2⟩
      all_goals
        clear hc
        go_wp2
        go_loop [12, 13] (fun v i => v = .slice none 0 0 ∧ i = .int .i64 0) (fun _ _ => 0)
        case atStart => exact ⟨rfl, rfl⟩
        case round =>
          obtain ⟨rfl, rfl⟩ := hrel
          go_wp2
          go_ret
          exact fin _ hg5 hs5
    · have hc1 : fb < 15 := by omega
      have hc2 : 0 ≤ sh := by omega
      have HC : Hid (¬ (fb = 15 ∨ sh < 0)) := hc
      clear hc
      have hb16 : (((fb : Int) + 1) == 16) = false := by simp; omega
      have hd0 : decide (sh < 0) = false := decide_eq_false (by omega)
      go_wp2
      go_loopw [12, 13] (fun v i wr => ∃ (k : Nat) (xs : List Int) (σ' : Option (List Bool)), k ≤ order ∧ i = .int .i64 k ∧ Own wr w.heap.size v xs ∧ xs.length ≤ k ∧ Signs (fb + 1) xs ∧ w.grownBy wr (some b) ∧ St 86 wr b s σ' ∧ Upto (pSigned (fb + 1)) order k xs σ3 σ' ∧
          Own wr w.heap.size fv first ∧ (∀ g, v.ownBlock = some g → fv.ownBlock ≠ some g))
        (fun _ i _ => order - (intOf i).toNat)
      case atStart => exact ⟨0, [], σ3, Nat.zero_le _, rfl, Own.nil _ _, Nat.le_refl _, Signs.nil _, hgg, hst3, Upto.start _ _ _, hown3, fun g hg => by cases hg⟩
      case round =>
        obtain ⟨k, xs, σ', hk, rfl, hown, hxl, hsm, hg, hst, hup, hfirst, hdis⟩ := hrel
        have hm := hst.mark
        have hdead : ∀ w5, w.grownBy w5 (some b) → St 86 w5 b s none → Ends (pList (pSigned (fb + 1)) order) σ3 xs none → ListPost w b s σ (pLinear n wide order) (fun xs => Abs 65536 xs) (.returned (.slice none 0 0)) w5 := fun w5 hg5 hs5 he =>
          ⟨_, [], none, rfl, Own.nil _ _, (fun x hx => by cases hx), hg5, hs5, linear_ends hon hends1 hends2 hends3 HC.out he Ends.dead⟩
        by_cases hlt : k < order
        · rcases σ' with _ | l'
          · have hm' : wr.cell? ⟨b, 2, none⟩ = some (.bool true) := hm
            clear hm
            go_wp2
            go_ret
            exact hdead _ hg hst (hup.dead xs)
          · have hm' : wr.cell? ⟨b, 2, none⟩ = some (.bool false) := hm
            clear hm
            go_wp2_with fail
            refine (rsignedI _ _ _ _ (fb + 1) _ hs (by omega) (by omega) hst).mono ?_
            rintro e w4 ⟨v, σ4, rfl, hv, hg4, hst4, hends4⟩
            have hown4 := hown.kept hg4 hblt
            have hfirst4 := hfirst.kept hg4 hblt
            clear hdead
            go_wp2_with (first
              | (at_builtin; refine wpList_append_lies _ rfl _ _ 30 rfl w.heap.size 3 i0 (.int .i64 0) 1 8 Try.underlying30 hi hz0 hz1 hz2 rfl (by decide) _ _ _ rfl (hown4.alloc _) ⟨w4.heap.size, 0, none⟩ 1 1 [.int .i64 (sign (fb + 1) v)] rfl rfl ?c1 ?c2 ?c6 ?c3 ?c4 ?c5 _ rfl ?_))
            case c1 => exact one_new _ _ _
            case c2 => exact one_cell _
            case c6 => omega
            case c3 => unfold maxLen; omega
            case c4 => omega
            case c5 => have := hg.size; have := hg4.size; simp; omega
            intro g' cap' w5 hown' hgrow hat hglt
            have hown5 : Own w5 w.heap.size (.slice (some ⟨g', 0, none⟩) (xs.length + 1) cap') (xs ++ [sign (fb + 1) v]) := hown4.step hown'
            have hgrow2 := grown_from_alloc hgrow (fun g hg' => (hown4.lt g hg').2)
            have hg5 : w.grownBy w5 (some b) := grown_own (grown_trans hg hg4) hgrow2 (fun g hg' => (hown4.lt g hg').1)
            have hst5 : St 86 w5 b s σ4 := hst4.kept hgrow2 (fun e => by have := (hown4.lt b e.symm).1; omega)
            have hfirst5 : Own w5 w.heap.size fv first := World.ownsRow.kept hfirst4 hgrow2 (by
              cases hfo : fv.ownBlock with
              | none => exact .inl rfl
              | some q => exact .inr (fun e => hdis q e.symm hfo))
            have hdis5 : ∀ g, (Value.slice (some ⟨g', 0, none⟩) (xs.length + 1) cap').ownBlock = some g → fv.ownBlock ≠ some g := by
              intro g hgq e
              have e' : g' = g := by simpa [Value.ownBlock] using hgq
              subst e'
              rcases hat with hat | hat
              · exact hdis g' hat e
              · have := (hfirst4.lt g' e).2; omega
            clear hown' hgrow hgrow2 hown hown4 hst hst4 hfirst hfirst4 hdis hat
            go_wp2
            go_roundw
            case rel => exact ⟨k + 1, xs ++ [sign (fb + 1) v], σ4, by omega, by go_num, hown5, by simp; omega, hsm.snoc hv, hg5, hst5, hup.next hlt (by simp) hends4, hfirst5, hdis5⟩
            case measure => simp [intOf]; omega
        · obtain rfl : k = order := by omega
          have hends5 := hup.ends
          rcases σ' with _ | l'
          · have hm' : wr.cell? ⟨b, 2, none⟩ = some (.bool true) := hm
            clear hm
            go_wp2
            go_ret
            exact hdead _ hg hst hends5
          · have hm' : wr.cell? ⟨b, 2, none⟩ = some (.bool false) := hm
            clear hm hdead
            have hl5 := list_len hends5
            have hl1 : first.length = k := by
              cases σ1 with
              | none => exfalso; cases hends2; cases hends3; cases hends5
              | some l1 => exact list_len hends1
            have hgo := rgo1I wr b s w.heap.size fv _ first xs n wide sh k (some l') hs hn hn1 hw1 hw hc2 hsb.2 hl5 hl1 hon ho8 ho1 (hsg.abs hw1 hw) (hsm.abs15 (by omega) (by omega)) hblt hg.size hfirst hown (fun g hg => hdis g hg) hst
            clear hl5 hl1
            go_wp2_with fail
            refine hgo.mono ?_
            rintro e w6 ⟨v6, ys, σ6, rfl, hown6, hab6, hchg6, hst6, hends6⟩
            go_wp2
            go_ret
            exact ⟨v6, ys, σ6, rfl, hown6, hab6, ((Chg.of hg (Nat.le_refl _)).trans hchg6).grown, hst6, linear_ends hon hends1 hends2 hends3 HC.out hends5 hends6⟩
  · go_enter Try.func97, Try.ntmps97
    go_wp2
    go_ret
    exact ⟨_, [], none, rfl, Own.nil _ _, (fun x hx => by cases hx), grown_set _ _ _ _, h.kill hs, linear_fail hon⟩
end Go.Proofs.Ytncmgnmcggkhnaa

namespace Go.Proofs.Ytncmgnmcggkhnaa
open Go.RowKit

theorem less_none {σ σ' : Option (List Bool)} {c : Nat} (h : Ends (pNum 1) σ c σ') (hc : ¬ c = 1) : Ends pLess σ 0 σ' := by
  refine Ends.bind h (q := fun c r => if c = 1 then (pNoughts r).map fun (q, r') => (q + 1, r') else some (0, r)) ?_
  have e : (fun r : List Bool => if c = 1 then (pNoughts r).map fun (q, r') => (q + 1, r') else some (0, r)) = fun r => some (0, r) := by funext r; rw [if_neg hc]
  rw [e]
  unfold Ends
  cases σ' with
  | none => rfl
  | some l => simp

theorem less_some {σ σ1 σ2 : Option (List Bool)} {c q : Nat} (h : Ends (pNum 1) σ c σ1) (hc : c = 1) (h2 : Ends pNoughts σ1 q σ2) : Ends pLess σ (q + 1) σ2 := by
  refine Ends.bind h (q := fun c r => if c = 1 then (pNoughts r).map fun (q, r') => (q + 1, r') else some (0, r)) ?_
  have e : (fun r : List Bool => if c = 1 then (pNoughts r).map fun (q, r') => (q + 1, r') else some (0, r)) = fun r => (pNoughts r).map fun (q, r') => (q + 1, r') := by funext r; rw [if_pos hc]
  rw [e]
  exact Ends.map h2

theorem sub_ends {n wide kind less : Nat} {xs : List Int} {σ σ1 σ2 σ3 σ4 : Option (List Bool)} (h1 : Ends (pMust 1 0) σ () σ1) (h2 : Ends (pNum 6) σ1 kind σ2) (h3 : Ends pLess σ2 less σ3) (hl : less < wide)
    (h4 : Ends (pKind kind n (wide - less)) σ3 xs σ4) : Ends (pSubframe n wide) σ (xs.map (· * 2 ^ less)) σ4 := by
  refine Ends.bind h1 (q := fun _ r => (pNum 6 r).bind fun (kind, r1) => (pLess r1).bind fun (less, r2) =>
    if less < wide then (pKind kind n (wide - less) r2).map fun (xs, r3) => (xs.map (· * 2 ^ less), r3) else none) ?_
  refine Ends.bind h2 (q := fun kind r1 => (pLess r1).bind fun (less, r2) =>
    if less < wide then (pKind kind n (wide - less) r2).map fun (xs, r3) => (xs.map (· * 2 ^ less), r3) else none) ?_
  refine Ends.bind h3 (q := fun less r2 =>
    if less < wide then (pKind kind n (wide - less) r2).map fun (xs, r3) => (xs.map (· * 2 ^ less), r3) else none) ?_
  have e : (fun r2 => if less < wide then (pKind kind n (wide - less) r2).map fun (xs, r3) => (xs.map (· * 2 ^ less), r3) else none) = fun r2 => (pKind kind n (wide - less) r2).map fun (xs, r3) => (xs.map (· * 2 ^ less), r3) := by
    funext r2; rw [if_pos hl]
  rw [e]
  exact Ends.map (f := fun xs => xs.map (· * 2 ^ less)) h4

theorem sub_no {n wide kind less : Nat} {xs : List Int} {σ σ1 σ2 σ3 : Option (List Bool)} (h1 : Ends (pMust 1 0) σ () σ1) (h2 : Ends (pNum 6) σ1 kind σ2) (h3 : Ends pLess σ2 less σ3) (hl : ¬ less < wide ∨ σ3 = none) :
    Ends (pSubframe n wide) σ xs none := by
  refine Ends.bind h1 (q := fun _ r => (pNum 6 r).bind fun (kind, r1) => (pLess r1).bind fun (less, r2) =>
    if less < wide then (pKind kind n (wide - less) r2).map fun (xs, r3) => (xs.map (· * 2 ^ less), r3) else none) ?_
  refine Ends.bind h2 (q := fun kind r1 => (pLess r1).bind fun (less, r2) =>
    if less < wide then (pKind kind n (wide - less) r2).map fun (xs, r3) => (xs.map (· * 2 ^ less), r3) else none) ?_
  refine Ends.bind h3 (q := fun less r2 =>
    if less < wide then (pKind kind n (wide - less) r2).map fun (xs, r3) => (xs.map (· * 2 ^ less), r3) else none) ?_
  rcases hl with hl | hl
  · exact Ends.fail (fun _ _ => if_neg hl)
  · subst hl; exact Ends.dead

theorem kind0 {n wide : Nat} {x : Int} {σ σ' : Option (List Bool)} (h : Ends (pSigned wide) σ x σ') : Ends (pKind 0 n wide) σ (List.replicate n x) σ' :=
  Ends.map (f := fun x => List.replicate n x) h

theorem kind1 {n wide kind : Nat} {xs : List Int} {σ σ' : Option (List Bool)} (hk : kind = 1) (h : Ends (pList (pSigned wide) n) σ xs σ') : Ends (pKind kind n wide) σ xs σ' := by
  subst hk
  exact h

theorem kindF {n wide kind : Nat} {xs : List Int} {σ σ' : Option (List Bool)} (hk : 8 ≤ kind ∧ kind ≤ 12) (h : Ends (pFixed n wide (kind - 8)) σ xs σ') : Ends (pKind kind n wide) σ xs σ' := by
  have e : pKind kind n wide = pFixed n wide (kind - 8) := by
    funext l
    unfold pKind
    rw [if_neg (by omega), if_neg (by omega), if_pos hk]
  rw [e]
  exact h

theorem kindL {n wide kind : Nat} {xs : List Int} {σ σ' : Option (List Bool)} (hk : 32 ≤ kind ∧ kind ≤ 39) (h : Ends (pLinear n wide (kind - 31)) σ xs σ') : Ends (pKind kind n wide) σ xs σ' := by
  have e : pKind kind n wide = pLinear n wide (kind - 31) := by
    funext l
    unfold pKind
    rw [if_neg (by omega), if_neg (by omega), if_neg (by omega), if_pos hk]
  rw [e]
  exact h

theorem kindN {n wide kind : Nat} {xs : List Int} {σ : Option (List Bool)} (h0 : ¬ kind = 0) (h1 : ¬ kind = 1) (h2 : ¬ (8 ≤ kind ∧ kind ≤ 12)) (h3 : ¬ (32 ≤ kind ∧ kind ≤ 39)) : Ends (pKind kind n wide) σ xs none :=
  Ends.fail (fun l _ => by unfold pKind; rw [if_neg h0, if_neg h1, if_neg h2, if_neg h3])

/-! a list that is doubled in its place -/

def doubled (xs : List Int) (less i : Nat) : List Int := (xs.take i).map (· * 2 ^ less) ++ xs.drop i

theorem doubled_zero (xs : List Int) (less : Nat) : doubled xs less 0 = xs := by simp [doubled]
theorem doubled_all (xs : List Int) (less i : Nat) (h : xs.length ≤ i) : doubled xs less i = xs.map (· * 2 ^ less) := by
  unfold doubled
  rw [List.take_of_length_le h, List.drop_of_length_le h, List.append_nil]
theorem doubled_length (xs : List Int) (less i : Nat) : (doubled xs less i).length = xs.length := by
  unfold doubled
  rw [List.length_append, List.length_map, List.length_take, List.length_drop]
  omega
theorem doubled_get (xs : List Int) (less i : Nat) (h : i < xs.length) : (doubled xs less i).getD i 0 = xs.getD i 0 := by
  unfold doubled
  have e : ((xs.take i).map (· * 2 ^ less)).length = i := by rw [List.length_map, List.length_take]; omega
  simp only [List.getD]
  rw [List.getElem?_append_right (by omega), e, Nat.sub_self, List.getElem?_drop, Nat.add_zero]
theorem doubled_set (xs : List Int) (less i : Nat) (h : i < xs.length) : (doubled xs less i).set i (xs.getD i 0 * 2 ^ less) = doubled xs less (i + 1) := by
  unfold doubled
  have e : ((xs.take i).map (· * 2 ^ less)).length = i := by rw [List.length_map, List.length_take]; omega
  rw [List.set_append_right _ _ (by omega), e, Nat.sub_self, List.drop_eq_getElem_cons h, List.set_cons_zero, List.take_succ_eq_append_getElem h, List.map_append, List.append_assoc]
  simp [List.getD, List.getElem?_eq_getElem h]

theorem Row.stored {w : World} {base g n cap : Nat} {xs : List Int} (h : Row w base g n cap xs) (j : Nat) (x : Int) : Row (w.setCell ⟨g, j, none⟩ (.int .i64 x)) base g n cap (xs.set j x) := by
  unfold Row
  rw [List.map_set]
  exact (World.ownsRow.stored h j _).1

theorem Row.le_max {w : World} {base g n cap : Nat} {xs : List Int} (h : Row w base g n cap xs) : n ≤ 9223372036854775807 := by
  rcases h.2 with ⟨h1, h2⟩ | ⟨g', cap', cur, hv, _, _, hn, hc, _⟩
  · omega
  · simp only [maxLen] at hc
    omega

theorem pow16 (k : Nat) (h : k ≤ 16) : (1 : Int) ≤ 2 ^ k ∧ (2 : Int) ^ k ≤ 65536 := by
  have h1 : 2 ^ k ≤ 2 ^ 16 := Nat.pow_le_pow_right (by omega) h
  have h2 := Nat.two_pow_pos k
  rw [show (2 : Int) ^ k = ((2 ^ k : Nat) : Int) by simp]
  omega

theorem mul_pow_bound (x : Int) (k : Nat) (h : k ≤ 16) (hx : -65536 ≤ x ∧ x ≤ 65536) : -4294967296 ≤ x * 2 ^ k ∧ x * 2 ^ k ≤ 4294967296 := by
  have hp := pow16 k h
  have hm : (x * 2 ^ k).natAbs ≤ 65536 * 65536 := by
    rw [Int.natAbs_mul]
    exact Nat.mul_le_mul (by omega) (by omega)
  omega

theorem mul_pow_succ (x : Int) (k : Nat) : 2 * (x * 2 ^ k) = x * 2 ^ (k + 1) := by
  rw [Int.pow_succ, ← Int.mul_assoc x, Int.mul_comm 2]

theorem Upto_replicate (x : Int) (k : Nat) : List.replicate k x ++ [x] = List.replicate (k + 1) x := by
  rw [List.replicate_succ']

end Go.Proofs.Ytncmgnmcggkhnaa
