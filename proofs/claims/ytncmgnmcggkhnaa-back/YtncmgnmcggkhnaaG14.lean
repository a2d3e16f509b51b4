import Derived.Test.YtncmgnmcggkhnaaG13
import Derived.Deep.DeepCutAuto
import Derived.Deep.CutBlock
namespace Go.Proofs.Ytncmgnmcggkhnaa
open Go.RowKit

set_option maxHeartbeats 1000000 in
set_option maxRecDepth 20000 in
theorem qalike (w : World) (x : Int) (n : Nat) (hn : n ≤ 256) (hn1 : 1 ≤ n) :
    Calls Try.prog 154 #[.agg #[.int .i64 x], .int .i64 n] w (SampPost w n fun ys => ys = List.replicate n x) := by
  have hg1 : w.grownBy ((w.alloc (.cells #[Value.int .i64 x] 157)).alloc (.cells #[Value.int .i64 x] 3)) none := grown_alloc (grown_alloc (grown_refl _ _) _) _
  have hsrc : Srcs ((w.alloc (.cells #[Value.int .i64 x] 157)).alloc (.cells #[Value.int .i64 x] 3)) (w.heap.size + 1) [x] := by
    intro i hi
    have hb := Box.new (w.alloc (.cells #[Value.int .i64 x] 157)) #[Value.int .i64 x] 3
    have : i = 0 := by simpa using hi
    subst this
    have e : (w.alloc (.cells #[Value.int .i64 x] 157)).heap.size = w.heap.size + 1 := by simp
    rw [e] at hb
    exact hb.cell 0
  go_enter Try.func154, Try.ntmps154
  go_wp2_with fail
  refine (qrepeat _ (w.heap.size + 1) 1 n x hn hn1 hsrc).mono ?_
  rintro e w1 ⟨v, xs, rfl, hown, hg2, hlen, rfl⟩
  have hown' := hown.mono (show w.heap.size ≤ ((w.alloc (.cells #[Value.int .i64 x] 157)).alloc (.cells #[Value.int .i64 x] 3)).heap.size by simp; omega)
  have hgg := grown_trans hg1 hg2
  clear hown hg1 hg2 hlen hsrc
  go_wp2
  go_ret
  exact ⟨_, _, rfl, hown', hgg, by simp, rfl⟩

theorem m_alike (v : Value) (w : World) : (method 308 157 v "piccolo/frames.samples").run Try.prog w = .ok (154, v) w := by kernel_rfl
theorem m_plain (v : Value) (w : World) : (method 308 161 v "piccolo/frames.samples").run Try.prog w = .ok (159, v) w := by kernel_rfl
theorem m_fixed (v : Value) (w : World) : (method 308 164 v "piccolo/frames.samples").run Try.prog w = .ok (161, v) w := by kernel_rfl
theorem m_linear (v : Value) (w : World) : (method 308 185 v "piccolo/frames.samples").run Try.prog w = .ok (164, v) w := by kernel_rfl

/-- the samples of a subframe, of whatever kind -/
def SubSamp (n wide : Nat) (sub : Sub) (xs : List Int) : Prop := samplesOf n wide sub = if xs.all (fitsB wide) = true then some xs else none

theorem all_fits {wide : Nat} {xs : List Int} (h : ∀ x ∈ xs, fitsB wide x = true) : xs.all (fitsB wide) = true := List.all_eq_true.2 h

theorem samp_alike {n wide : Nat} {x : Int} (h : fitsB wide x = true) : SubSamp n wide (.alike x) (List.replicate n x) := by
  unfold SubSamp
  rw [if_pos (all_fits (fun y hy => by rw [List.eq_of_mem_replicate hy]; exact h))]
  rfl
theorem samp_plain {n wide : Nat} {xs : List Int} (h : ∀ x ∈ xs, fitsB wide x = true) : SubSamp n wide (.plain xs) xs := by
  unfold SubSamp
  rw [if_pos (all_fits h)]
  rfl

def DoSamp (w : World) (n wide : Nat) (sub : Sub) : Ending → World → Prop := SampPost w n (SubSamp n wide sub)

def SubfPost (w : World) (b : Nat) (s : ByteArray) (σ : Option (List Bool)) (n wide : Nat) (e : Ending) (w' : World) : Prop :=
  ∃ (v : Value) (ok : Bool), e = .returned (.tuple #[v, .bool ok]) ∧ w.grownBy w' (some b) ∧
    ((ok = true ∧ ∃ (xs : List Int) (l' : List Bool), Own w' w.heap.size v xs ∧ xs.length = n ∧ (∀ x ∈ xs, fitsB wide x = true) ∧ Sp w' b s (some l') ∧ Ends (pSubframe n wide) σ xs (some l')) ∨
     (ok = false ∧ ∀ xs, Ends (pSubframe n wide) σ xs none))

/-- behind the less bits -/
def subTail (n wide kind less : Nat) : P (List Int) := fun r2 => if less < wide then (pKind kind n (wide - less) r2).map fun (xs, r3) => (xs.map (· * 2 ^ less), r3) else none

theorem subf_head {n wide kind less : Nat} {xs : List Int} {σ σ1 σ2 σ3 σ4 : Option (List Bool)} (h1 : Ends (pMust 1 0) σ () σ1) (h2 : Ends (pNum 6) σ1 kind σ2) (h3 : Ends pLess σ2 less σ3) (h4 : Ends (subTail n wide kind less) σ3 xs σ4) :
    Ends (pSubframe n wide) σ xs σ4 := by
  refine Ends.bind (p := pMust 1 0) (q := fun _ r => (pNum 6 r).bind fun (kind, r1) => (pLess r1).bind fun (less, r2) => subTail n wide kind less r2) h1 ?_
  refine Ends.bind (p := pNum 6) (q := fun kind r1 => (pLess r1).bind fun (less, r2) => subTail n wide kind less r2) h2 ?_
  exact Ends.bind (p := pLess) (q := fun less r2 => subTail n wide kind less r2) h3 h4

theorem less_zero {c : Nat} {σ σ1 : Option (List Bool)} (h : Ends (pNum 1) σ c σ1) (hc : c ≠ 1) : Ends pLess σ 0 σ1 := by
  refine Ends.bind (p := pNum 1) (q := fun c r => if c = 1 then (pNoughts r).map fun (q, r') => (q + 1, r') else some (0, r)) h ?_
  have e : (fun r => if c = 1 then (pNoughts r).map fun (q, r') => (q + 1, r') else some (0, r)) = fun r => some ((0 : Nat), r) := by funext r; rw [if_neg hc]
  rw [e]
  cases σ1 with
  | none => rfl
  | some l => exact ⟨rfl, rfl⟩

theorem less_more {c q : Nat} {σ σ1 σ2 : Option (List Bool)} (h : Ends (pNum 1) σ c σ1) (hc : c = 1) (h2 : Ends pNoughts σ1 q σ2) : Ends pLess σ (q + 1) σ2 := by
  refine Ends.bind (p := pNum 1) (q := fun c r => if c = 1 then (pNoughts r).map fun (q, r') => (q + 1, r') else some (0, r)) h ?_
  have e : (fun r => if c = 1 then (pNoughts r).map fun (q, r') => (q + 1, r') else some (0, r)) = fun r => (pNoughts r).map fun (q, r') => (q + 1, r') := by funext r; rw [if_pos hc]
  rw [e]
  exact Ends.map (f := fun q => q + 1) h2

theorem tail_big {n wide kind less : Nat} {xs : List Int} {σ : Option (List Bool)} (h : ¬ less < wide) : Ends (subTail n wide kind less) σ xs none :=
  Ends.fail (fun l _ => by unfold subTail; rw [if_neg h])

theorem tail_none {n wide kind less : Nat} {xs : List Int} {σ : Option (List Bool)} (h : less < wide) (h2 : ∀ l, σ = some l → pKind kind n (wide - less) l = none) : Ends (subTail n wide kind less) σ xs none :=
  Ends.fail (fun l e => by unfold subTail; rw [if_pos h, h2 l e]; rfl)

theorem tail_yes {n wide kind less : Nat} {xs : List Int} {l l' : List Bool} (h : less < wide) (h2 : pKind kind n (wide - less) l = some (xs, l')) : Ends (subTail n wide kind less) (some l) (xs.map (· * 2 ^ less)) (some l') :=
  Ends.of (by unfold subTail; rw [if_pos h, h2]; rfl)

theorem kind_of_sub {kind n wide : Nat} {l l' : List Bool} {sub : Sub} {xs : List Int} (h : Ends (pSub kind n wide) (some l) sub (some l')) (hs : SubSamp n wide sub xs) : pKind kind n wide l = if xs.all (fitsB wide) = true then some (xs, l') else none := by
  rw [pKind_sub]
  rcases h.cases with ⟨r, e, e2⟩ | ⟨_, e⟩
  · injection e2 with e2
    subst e2
    rw [e]
    simp only [Option.bind_some]
    rw [hs]
    split <;> rfl
  · cases e

theorem kind_dead {kind n wide : Nat} {l : List Bool} {sub : Sub} (h : Ends (pSub kind n wide) (some l) sub none) : pKind kind n wide l = none := by
  rw [pKind_sub]
  rcases h.cases with ⟨r, _, e⟩ | ⟨e, _⟩
  · cases e
  · rw [e]; rfl

set_option maxHeartbeats 8000000 in
set_option maxRecDepth 20000 in
theorem qsubframe (w : World) (b : Nat) (s : ByteArray) (n wide : Nat) (σ : Option (List Bool)) (hs : s.size ≤ 6000) (hn : n ≤ 256) (hn1 : 1 ≤ n) (hw1 : 1 ≤ wide) (hw : wide ≤ 17) (h : Sp w b s σ) :
    Calls Try.prog 108 #[.pointer (some ⟨b, 0, none⟩), .int .i64 wide, .int .i64 n] w (SubfPost w b s σ n wide) := by
  have hblt := h.lt
  go_enter Try.func108, Try.ntmps108
  go_wp2_with fail
  refine (qnum _ _ _ 1 _ hs (by omega) h).mono ?_
  rintro e w1 ⟨nought, σ1, rfl, hno0, -, hg1, hsp1, hends1⟩
  have hno : nought < 2 := hno0
  clear hno0
  go_wp2_with fail
  refine (qnum _ _ _ 6 _ hs (by omega) hsp1).mono ?_
  rintro e w2 ⟨kind, σ2, rfl, hk0, -, hg2, hsp2, hends2⟩
  have hk : kind < 64 := hk0
  have hgg2 := grown_trans hg1 hg2
  clear hk0 hg1 hg2 hsp1 h
  go_wp2_with fail
  refine (qnum _ _ _ 1 _ hs (by omega) hsp2).mono ?_
  rintro e w3 ⟨c, σ3, rfl, hc0, -, hg3, hsp3, hends3⟩
  have hc : c < 2 := hc0
  have hgg3 := grown_trans hgg2 hg3
  clear hc0 hg3 hgg2 hsp2
  go_upto_if 21 with fail
  go_cut [10] (fun s10 wx => ∃ (less : Nat) (σ4 : Option (List Bool)), s10 = .int .i64 less ∧ less ≤ 48001 ∧ w.grownBy wx (some b) ∧ Sp wx b s σ4 ∧ Ends pLess σ2 less σ4)
  case first =>
    by_cases hc1 : c = 1
    · have t1 : ((c : Int) == 1) = true := by simp; omega
      have HC1 : Hid (c = 1) := hc1
      clear hc1
      go_wp2_with fail
      refine (qzeros _ _ _ _ hs hsp3).mono ?_
      rintro e w4 ⟨q, σ4, rfl, hq, -, hg4, hsp4, hends4⟩
      have hl := less_more hends3 HC1.out hends4
      have hgg4 := grown_trans hgg3 hg4
      clear hends3 hends4
      go_wp2
      go_meet
      case rel => exact ⟨q + 1, σ4, by go_num, by omega, hgg4, hsp4, hl⟩
    · have t1 : ((c : Int) == 1) = false := by simp; omega
      have hl := less_zero hends3 hc1
      clear hc1 hends3
      go_wp2
      go_meet
      case rel => exact ⟨0, σ3, rfl, by omega, hgg3, hsp3, hl⟩
  case rest =>
    obtain ⟨less, σ4, hs10, hless, hgg4, hsp4, hends4⟩ := hcut
    subst hs10
    clear hends3 hsp3 hgg3
    by_cases hok : nought = 0 ∧ less < wide
    rotate_left
    · have hbad : ∀ xs, Ends (pSubframe n wide) σ xs none := by
        intro xs
        by_cases h0 : nought = 0
        · exact subf_head (must_yes hends1 h0) hends2 hends4 (tail_big (fun hh => hok ⟨h0, hh⟩))
        · exact subf_head (kind := 0) (less := 0) (must_no hends1 h0) (σ2 := none) rfl (σ3 := none) rfl Ends.dead
      have hpost : SubfPost w b s σ n wide (.returned (.tuple #[.slice none 0 0, .bool false])) wc := ⟨_, false, rfl, hgg4, .inr ⟨rfl, hbad⟩⟩
      clear hbad hends1 hends2 hends4
      by_cases h0 : nought = 0
      · have d1 : ((nought : Int) != 0) = false := by simp; omega
        have d2 : decide (wide ≤ less) = true := decide_eq_true (by omega)
        clear hok h0
        go_wp2
        exact bodyPost_ret (v := .tuple #[.slice none 0 0, .bool false]) (by simp [results, Try.results108, go_sem]) rfl hpost
      · have d1 : ((nought : Int) != 0) = true := by simp; omega
        clear hok h0
        go_wp2
        exact bodyPost_ret (v := .tuple #[.slice none 0 0, .bool false]) (by simp [results, Try.results108, go_sem]) rfl hpost
    · obtain ⟨h0, hlw⟩ := hok
      have d1 : ((nought : Int) != 0) = false := by simp; omega
      have d2 : decide (wide ≤ less) = false := decide_eq_false (by omega)
      have hhead := fun xs σ5 h5 => subf_head (n := n) (wide := wide) (xs := xs) (σ4 := σ5) (must_yes hends1 h0) hends2 hends4 h5
      have HHEAD : Hid (∀ xs σ5, Ends (subTail n wide kind less) σ4 xs σ5 → Ends (pSubframe n wide) σ xs σ5) := hhead
      have hsub : (wide : Int) - (less : Int) = ((wide - less : Nat) : Int) := by omega
      obtain ⟨W, hW⟩ : ∃ W, wide - less = W := ⟨_, rfl⟩
      have HW : Hid (wide - less = W) := hW
      have hW1 : 1 ≤ W := by omega
      have hW2 : W ≤ 17 := by omega
      rw [hW] at hsub
      have hq := qreadkind wc b s kind W n σ4 hs hn hn1 hk hW1 hW2 hsp4
      clear hhead hends1 hends2 hends4 h0 hW
      go_wp2_with fail
      refine hq.mono ?_
      rintro e w5 ⟨v, ok, rfl, hg5, hcase⟩
      have hgg5 := grown_trans hgg4 hg5
      clear hq
      rcases hcase with ⟨rfl, sub, σ5, hsubv, hsubok, hsp5, hends5⟩ | ⟨rfl, hbad⟩
      · go_wp2_with fail
        refine (qover _ _ _ _ hsp5).mono ?_
        rintro e w6 ⟨rfl, rfl⟩
        rcases σ5 with _ | l5
        · have hb2 : ∀ xs, Ends (pSubframe n wide) σ xs none := fun xs => HHEAD.out xs none (tail_none hlw (fun l e => by
            subst e
            rw [HW.out]
            exact kind_dead hends5))
          have hpost : SubfPost w b s σ n wide (.returned (.tuple #[.slice none 0 0, .bool false])) w6 := ⟨_, false, rfl, hgg5, .inr ⟨rfl, hb2⟩⟩
          clear hb2 hends5 hsubv hsubok
          go_wp2
          exact bodyPost_ret (v := .tuple #[.slice none 0 0, .bool false]) (by simp [results, Try.results108, go_sem]) rfl hpost
        · obtain ⟨l4, rfl⟩ := hends5.alive
          have hwc := hgg4.size
          go_upto_region 11 with fail
          go_cut [13] (fun s13 wx => ∃ xs, Own wx w.heap.size s13 xs ∧ xs.length = n ∧ SubSamp n W sub xs ∧ w.grownBy wx (some b) ∧ Sp wx b s (some l5))
          case first =>
            cases sub using Sub.each with
            | alike x =>
              obtain rfl : v = .iface 157 (.agg #[.int .i64 x]) := hsubv
              have hm := m_alike
              have hq : Calls Try.prog 154 #[.agg #[.int .i64 x], .int .i64 n] w6 (DoSamp w6 n W (.alike x)) := (qalike w6 x n hn hn1).mono (by
                rintro e w7 ⟨v7, xs7, rfl, hown, hg7, hlen, rfl⟩
                exact ⟨v7, _, rfl, hown, hg7, hlen, samp_alike hsubok⟩)
              clear hsubok
              go_wp2_with fail
              refine hq.mono ?_
              rintro e w7 ⟨v7, xs7, rfl, hown, hg7, hlen, hsamp⟩
              have hsp7 := hsp5.kept hg7 (by simp)
              have hgg7 : w.grownBy w7 (some b) := grown_own hgg5 hg7 (fun q e => by cases e)
              have hown7 := hown.mono (show w.heap.size ≤ w6.heap.size from hgg5.size)
              have HL7 : Hid _ := hlen
              clear hown hlen hg7 hq
              go_wp2
              go_meet
              case rel => exact ⟨xs7, hown7, HL7.out, hsamp, hgg7, hsp7⟩
            | plain xs =>
              obtain ⟨g, rfl, hrow⟩ := hsubv
              have hm := m_plain
              have hq : Calls Try.prog 159 #[.agg #[.slice (some ⟨g, 0, none⟩) xs.length xs.length], .int .i64 n] w6 (DoSamp w6 n W (.plain xs)) := (qplain w6 g xs.length xs n rfl (by rw [hsubok.1]; exact hn) hrow.srcs).mono (by
                rintro e w7 ⟨v7, xs7, rfl, hown, hg7, hlen, rfl⟩
                exact ⟨v7, _, rfl, hown, hg7, by rw [hlen]; exact hsubok.1, samp_plain hsubok.2⟩)
              clear hsubok hrow
              go_wp2_with fail
              refine hq.mono ?_
              rintro e w7 ⟨v7, xs7, rfl, hown, hg7, hlen, hsamp⟩
              have hsp7 := hsp5.kept hg7 (by simp)
              have hgg7 : w.grownBy w7 (some b) := grown_own hgg5 hg7 (fun q e => by cases e)
              have hown7 := hown.mono (show w.heap.size ≤ w6.heap.size from hgg5.size)
              have HL7 : Hid _ := hlen
              clear hown hlen hg7 hq
              go_wp2
              go_meet
              case rel => exact ⟨xs7, hown7, HL7.out, hsamp, hgg7, hsp7⟩
            | fixed first res =>
              obtain ⟨g, vr, rfl, hrow, hownr⟩ := hsubv
              have hm := m_fixed
              have hq : Calls Try.prog 161 #[.agg #[.slice (some ⟨g, 0, none⟩) first.length first.length, vr], .int .i64 n] w6 (DoSamp w6 n W (.fixed first res)) := by
                obtain ⟨hf4, hfit, hnl, hab⟩ := hsubok
                refine (qfixed w6 g first.length first.length vr first res n rfl hf4 (by omega) hab hrow.srcs hownr.lo).mono ?_
                rintro e w7 ⟨v7, xs7, rfl, hown, hg7, hlen, htold⟩
                exact ⟨v7, xs7, rfl, hown, hg7, by rw [hlen]; exact hnl, htold.all W hW2 hfit (fixed_abs2 _ hf4).1 (by rw [(fixed_abs2 _ hf4).2]; omega)⟩
              obtain ⟨ar, cr, rfl⟩ := own_slice hownr
              clear hsubok hrow hownr
              go_wp2_with fail
              refine hq.mono ?_
              rintro e w7 ⟨v7, xs7, rfl, hown, hg7, hlen, hsamp⟩
              have hsp7 := hsp5.kept hg7 (by simp)
              have hgg7 : w.grownBy w7 (some b) := grown_own hgg5 hg7 (fun q e => by cases e)
              have hown7 := hown.mono (show w.heap.size ≤ w6.heap.size from hgg5.size)
              have HL7 : Hid _ := hlen
              clear hown hlen hg7 hq
              go_wp2
              go_meet
              case rel => exact ⟨xs7, hown7, HL7.out, hsamp, hgg7, hsp7⟩
            | linear first fs shift res =>
              obtain ⟨g, g2, vr, rfl, hrow, hrow2, hownr⟩ := hsubv
              have hm := m_linear
              have hq : Calls Try.prog 164 #[.agg #[.slice (some ⟨g, 0, none⟩) first.length first.length, .slice (some ⟨g2, 0, none⟩) fs.length fs.length, .int .i64 shift, vr], .int .i64 n] w6 (DoSamp w6 n W (.linear first fs shift res)) := by
                obtain ⟨hf8, hfl, hfit, hfab, hsh, hnl, hab⟩ := hsubok
                refine (qlinear w6 g first.length first.length g2 fs.length fs.length shift vr first fs res n rfl rfl hsh (by omega) (by omega) (by omega) hab hrow.srcs hrow2.srcs hownr.lo).mono ?_
                rintro e w7 ⟨v7, xs7, rfl, hown, hg7, hlen, htold⟩
                exact ⟨v7, xs7, rfl, hown, hg7, by rw [hlen]; exact hnl, htold.all W hW2 hfit hfab (by omega)⟩
              obtain ⟨ar, cr, rfl⟩ := own_slice hownr
              clear hsubok hrow hrow2 hownr
              go_wp2_with fail
              refine hq.mono ?_
              rintro e w7 ⟨v7, xs7, rfl, hown, hg7, hlen, hsamp⟩
              have hsp7 := hsp5.kept hg7 (by simp)
              have hgg7 : w.grownBy w7 (some b) := grown_own hgg5 hg7 (fun q e => by cases e)
              have hown7 := hown.mono (show w.heap.size ≤ w6.heap.size from hgg5.size)
              have HL7 : Hid _ := hlen
              clear hown hlen hg7 hq
              go_wp2
              go_meet
              case rel => exact ⟨xs7, hown7, HL7.out, hsamp, hgg7, hsp7⟩
          case rest =>
            obtain ⟨xs, hown, hxl, hsamp, hgg7, hsp7⟩ := hcut
            obtain ⟨g, cap, rfl, hrow⟩ := hown.full (by omega)
            have hkind := kind_of_sub hends5 hsamp
            have hq := qfit wc (.slice (some ⟨g, 0, none⟩) xs.length cap) xs W hW1 (by omega) (by omega) hrow.lo
            have HXL : Hid (xs.length = n) := hxl
            rw [hxl] at hrow hq ⊢
            clear hends5 hsamp hsubv hsubok hxl hown hsp5 hgg5 hsp4 hgg4 hg5
            go_wp2_with fail
            refine hq.mono ?_
            rintro e w8 ⟨rfl, rfl⟩
            clear hq
            cases hall : xs.all (fitsB W) with
            | false =>
              have hb2 : ∀ ys, Ends (pSubframe n wide) σ ys none := fun ys => HHEAD.out ys none (tail_none hlw (fun l e => by
                injection e with e
                rw [HW.out, ← e, hkind, hall]
                rfl))
              have hpost : SubfPost w b s σ n wide (.returned (.tuple #[.slice none 0 0, .bool false])) w8 := ⟨_, false, rfl, hgg7, .inr ⟨rfl, hb2⟩⟩
              clear hb2 hkind hall
              go_wp2
              exact bodyPost_ret (v := .tuple #[.slice none 0 0, .bool false]) (by simp [results, Try.results108, go_sem]) rfl hpost
            | true =>
              rw [hall, if_pos rfl] at hkind
              have hfin : Ends (pSubframe n wide) σ (xs.map (· * 2 ^ less)) (some l5) := HHEAD.out _ _ (tail_yes hlw (by rw [HW.out]; exact hkind))
              have hfx : ∀ x ∈ xs, fitsB W x = true := List.all_eq_true.1 hall
              have hfd : ∀ y ∈ xs.map (· * 2 ^ less), fitsB wide y = true := by
                intro y hy
                obtain ⟨x, hx, rfl⟩ := List.mem_map.1 hy
                exact fits_double hlw (by rw [HW.out]; exact hfx x hx)
              obtain ⟨A, hA⟩ : ∃ A, xs.map (· * 2 ^ less) = A := ⟨_, rfl⟩
              have hAl : A.length = n := by rw [← hA, List.length_map, HXL.out]
              have hAx : ∀ k, k < n → A.getD k 0 = xs.getD k 0 * 2 ^ less := by
                intro k hk
                have : k < xs.length := by rw [HXL.out]; exact hk
                rw [← hA]
                simp [List.getD, this]
              rw [hA] at hfin hfd
              have HAL : Hid (A.length = n) := hAl
              have HAX : Hid (∀ k, k < n → A.getD k 0 = xs.getD k 0 * 2 ^ less) := hAx
              have HFIN : Hid _ := hfin
              have HFD : Hid (∀ y ∈ A, fitsB wide y = true) := hfd
              clear hA hAl hAx hkind hall hfx hfin hfd
              have hwg : w.heap.size ≤ g := hrow.lt.1
              have hbg : b < g := by omega
              go_wp2_with fail
              go_loopw [59] (fun i wr => ∃ k : Nat, k ≤ n ∧ i = .int .i64 k ∧ Row wr w.heap.size g n cap (part A xs k) ∧ w.grownBy wr (some b) ∧ Sp wr b s (some l5)) (fun i _ => n - (intOf i).toNat)
              case atStart => exact ⟨0, Nat.zero_le _, rfl, by rw [part_zero]; exact hrow, hgg7, hsp7⟩
              case round =>
                obtain ⟨k, hk, rfl, hrowk, hgrk, hspk⟩ := hrel
                clear hrow hgg7 hsp7
                by_cases hlt : k < n
                · have hck := hrowk.cell k hlt
                  have hfk := hrowk.fz k
                  rw [part_get A xs k (by rw [HAL.out]; exact hk)] at hck
                  have hax := HAX.out k hlt
                  have hab := fits_abs wide hw (A.getD k 0) (HFD.out _ (by
                    have h1 : k < A.length := by rw [HAL.out]; exact hlt
                    rw [show A.getD k 0 = A[k] by simp [List.getD, h1]]
                    exact List.getElem_mem h1))
                  rw [hax] at hab
                  obtain ⟨x, hx⟩ : ∃ x, xs.getD k 0 = x := ⟨_, rfl⟩
                  rw [hx] at hck hax hab
                  have hst := grown_set wr g k (.int .i64 (x * 2 ^ less))
                  have hrow2 := hrowk.stored k (x * 2 ^ less)
                  rw [← hax, part_set A xs k (by rw [HAL.out]; exact hlt) (by rw [HXL.out]; exact hlt), hax] at hrow2
                  have hgr2 : w.grownBy (wr.setCell ⟨g, k, none⟩ (.int .i64 (x * 2 ^ less))) (some b) := grown_own hgrk hst (fun q e => by injection e with e; omega)
                  have hsp2 := hspk.kept hst (fun e => by injection e with e; omega)
                  clear hax hx hst hrowk hgrk hspk
                  go_wp2
                  go_roundw
                  case rel => exact ⟨k + 1, by omega, by go_num, hrow2, hgr2, hsp2⟩
                  case measure => simp [intOf]; omega
                · obtain rfl : k = n := by omega
                  rw [part_all A xs k (by rw [HAL.out]; exact Nat.le_refl _) (by rw [HXL.out]; exact Nat.le_refl _)] at hrowk
                  have hown := hrowk.own
                  have hpost : SubfPost w b s σ k wide (.returned (.tuple #[.slice (some ⟨g, 0, none⟩) k cap, .bool true])) wr := ⟨_, true, rfl, hgrk, .inl ⟨rfl, A, l5, hown, HAL.out, HFD.out, hspk, HFIN.out⟩⟩
                  clear hown hrowk hgrk hspk
                  go_wp2
                  exact bodyPost_ret (v := .tuple #[.slice (some ⟨g, 0, none⟩) k cap, .bool true]) (by simp [results, Try.results108, go_sem]) rfl hpost
      · have hb2 : ∀ xs, Ends (pSubframe n wide) σ xs none := fun xs => HHEAD.out xs none (tail_none hlw (fun l e => by
          subst e
          rw [HW.out]
          exact kind_dead (hbad (.alike 0))))
        have hpost : SubfPost w b s σ n wide (.returned (.tuple #[.slice none 0 0, .bool false])) w5 := ⟨_, false, rfl, hgg5, .inr ⟨rfl, hb2⟩⟩
        clear hb2 hbad
        go_wp2
        exact bodyPost_ret (v := .tuple #[.slice none 0 0, .bool false]) (by simp [results, Try.results108, go_sem]) rfl hpost
end Go.Proofs.Ytncmgnmcggkhnaa

namespace Go.Proofs.Ytncmgnmcggkhnaa
open Go.RowKit

/-- how many channels a mode has -/
def chOf (m : Nat) : Nat := if m = 0 then 1 else if m = 1 ∨ m = 8 ∨ m = 9 ∨ m = 10 then 2 else 0

theorem chOf_ok (c m : Nat) (hc : c = 1 ∨ c = 2) : (chOf m = c) ↔ modeOk c m = true := by
  unfold chOf modeOk
  rcases hc with rfl | rfl
  · split
    · rename_i h; simp [h]
    · split
      · rename_i h1 h2; simp; omega
      · rename_i h1 h2; simp; omega
  · split
    · rename_i h; simp [h]
    · split
      · rename_i h1 h2; simp; omega
      · rename_i h1 h2; simp; omega

set_option maxHeartbeats 1000000 in
theorem qchannels (w : World) (m : Nat) (_hm : m < 16) :
    Calls Try.prog 107 #[.int .i64 m] w fun e w' => e = .returned (.int .i64 (chOf m : Nat)) ∧ w' = w := by
  by_cases h0 : m = 0
  · subst h0
    go_enter Try.func107, Try.ntmps107
    go_wp2
    go_ret
    exact ⟨rfl, rfl⟩
  by_cases h1 : m = 1
  · subst h1
    go_enter Try.func107, Try.ntmps107
    go_wp2
    go_ret
    exact ⟨rfl, rfl⟩
  by_cases h8 : m = 8
  · subst h8
    go_enter Try.func107, Try.ntmps107
    go_wp2
    go_ret
    exact ⟨rfl, rfl⟩
  by_cases h9 : m = 9
  · subst h9
    go_enter Try.func107, Try.ntmps107
    go_wp2
    go_ret
    exact ⟨rfl, rfl⟩
  by_cases h10 : m = 10
  · subst h10
    go_enter Try.func107, Try.ntmps107
    go_wp2
    go_ret
    exact ⟨rfl, rfl⟩
  have hc : chOf m = 0 := by unfold chOf; rw [if_neg h0, if_neg (by omega)]
  rw [hc]
  have t0 : ((m : Int) == 0) = false := by simp; omega
  have t1 : ((m : Int) == 1) = false := by simp; omega
  have t8 : ((m : Int) == 8) = false := by simp; omega
  have t9 : ((m : Int) == 9) = false := by simp; omega
  have t10 : ((m : Int) == 10) = false := by simp; omega
  clear h0 h1 h8 h9 h10 hc
  go_enter Try.func107, Try.ntmps107
  go_wp2
  go_ret
  exact ⟨rfl, rfl⟩

set_option maxHeartbeats 1000000 in
theorem qwide (w : World) (m i bits : Nat) (hi : i ≤ 1) (_hb : bits ≤ 16) :
    Calls Try.prog 109 #[.int .i64 m, .int .i64 i, .int .i64 bits] w fun e w' => e = .returned (.int .i64 ((bits + extra m i : Nat) : Int)) ∧ w' = w := by
  by_cases h8 : m = 8
  · subst h8
    rcases (show i = 0 ∨ i = 1 by omega) with rfl | rfl
    · go_enter Try.func109, Try.ntmps109
      go_wp2
      go_ret
      exact ⟨rfl, rfl⟩
    · go_enter Try.func109, Try.ntmps109
      go_wp2
      go_ret
      exact ⟨rfl, rfl⟩
  by_cases h10 : m = 10
  · subst h10
    rcases (show i = 0 ∨ i = 1 by omega) with rfl | rfl
    · go_enter Try.func109, Try.ntmps109
      go_wp2
      go_ret
      exact ⟨rfl, rfl⟩
    · go_enter Try.func109, Try.ntmps109
      go_wp2
      go_ret
      exact ⟨rfl, rfl⟩
  by_cases h9 : m = 9
  · subst h9
    rcases (show i = 0 ∨ i = 1 by omega) with rfl | rfl
    · go_enter Try.func109, Try.ntmps109
      go_wp2
      go_ret
      exact ⟨rfl, rfl⟩
    · go_enter Try.func109, Try.ntmps109
      go_wp2
      go_ret
      exact ⟨rfl, rfl⟩
  have he : extra m i = 0 := by unfold extra; rw [if_neg (by omega)]
  rw [he]
  have t8 : ((m : Int) == 8) = false := by simp; omega
  have t9 : ((m : Int) == 9) = false := by simp; omega
  have t10 : ((m : Int) == 10) = false := by simp; omega
  have ti : ((i : Int) == -1) = false := by rw [beq_eq_false_iff_ne]; omega
  clear h8 h9 h10 he
  go_enter Try.func109, Try.ntmps109
  go_wp2
  go_ret
  exact ⟨rfl, rfl⟩

theorem and_one (b : Int) : bits .and .i64 b 1 = b % 2 := by
  show IntKind.i64.wrap ((BitVec.ofInt 64 b &&& BitVec.ofInt 64 1).toNat : Int) = _
  have h2 : (BitVec.ofInt 64 (1 : Int)).toNat = 1 := by decide
  have h1 : ((BitVec.ofInt 64 b).toNat : Int) = b % 18446744073709551616 := by
    rw [BitVec.toNat_ofInt]
    omega
  have h3 : (BitVec.ofInt 64 b).toNat &&& 1 = (BitVec.ofInt 64 b).toNat % 2 := Nat.and_one_is_mod _
  rw [BitVec.toNat_and, h2, h3, IntKind.wrap_i64]
  omega

set_option maxHeartbeats 1000000 in
theorem qpair (w : World) (m : Nat) (a b : Int) (ha : -65536 ≤ a ∧ a ≤ 65536) (hb : -65536 ≤ b ∧ b ≤ 65536) :
    Calls Try.prog 124 #[.int .i64 m, .int .i64 a, .int .i64 b] w fun e w' => e = .returned (.tuple #[.int .i64 (pair m a b).1, .int .i64 (pair m a b).2]) ∧ w' = w := by
  by_cases h8 : m = 8
  · subst h8
    go_enter Try.func124, Try.ntmps124
    go_wp2
    exact bodyPost_ret (v := .tuple #[.int .i64 (pair 8 a b).1, .int .i64 (pair 8 a b).2]) (by simp [results, Try.results124, go_sem, pair]) rfl ⟨rfl, rfl⟩
  by_cases h9 : m = 9
  · subst h9
    go_enter Try.func124, Try.ntmps124
    go_wp2
    exact bodyPost_ret (v := .tuple #[.int .i64 (pair 9 a b).1, .int .i64 (pair 9 a b).2]) (by simp [results, Try.results124, go_sem, pair]) rfl ⟨rfl, rfl⟩
  by_cases h10 : m = 10
  · subst h10
    have hand := and_one b
    have hm := Int.emod_two_eq b
    have e1 : (2 * a + b % 2 + b).tdiv 2 = (2 * a + b % 2 + b) / 2 := mid_val _ (by omega)
    have e2 : (2 * a + b % 2 - b).tdiv 2 = (2 * a + b % 2 - b) / 2 := mid_val _ (by omega)
    have hp : pair 10 a b = ((2 * a + b % 2 + b) / 2, (2 * a + b % 2 - b) / 2) := pair10 a b
    have HE1 : Hid _ := e1
    have HE2 : Hid _ := e2
    clear e1 e2
    rw [hp]
    go_enter Try.func124, Try.ntmps124
    go_wp2
    exact bodyPost_ret (v := .tuple #[.int .i64 ((2 * a + b % 2 + b) / 2), .int .i64 ((2 * a + b % 2 - b) / 2)]) (by simp [results, Try.results124, go_sem, HE1.out, HE2.out]) rfl ⟨rfl, rfl⟩
  have hp : pair m a b = (a, b) := by unfold pair; rw [if_neg h8, if_neg h9, if_neg h10]
  rw [hp]
  have t8 : ((m : Int) == 8) = false := by simp; omega
  have t9 : ((m : Int) == 9) = false := by simp; omega
  have t10 : ((m : Int) == 10) = false := by simp; omega
  clear h8 h9 h10 hp
  go_enter Try.func124, Try.ntmps124
  go_wp2
  exact bodyPost_ret (v := .tuple #[.int .i64 a, .int .i64 b]) (by simp [results, Try.results124, go_sem]) rfl ⟨rfl, rfl⟩

/-- but for two blocks nothing has turned -/
structure Two (w w' : World) (g0 g1 : Nat) : Prop where
  os : w'.os = w.os
  tape : w'.tape = w.tape
  output : w'.output = w.output
  size : w.heap.size ≤ w'.heap.size
  block : ∀ k, k < w.heap.size → k ≠ g0 → k ≠ g1 → w'.heap[k]? = w.heap[k]?

theorem Two.refl (w : World) (g0 g1 : Nat) : Two w w g0 g1 := ⟨rfl, rfl, rfl, Nat.le_refl _, fun _ _ _ _ => rfl⟩
theorem Two.step {w w' w'' : World} {g0 g1 g : Nat} (h : Two w w' g0 g1) (k : w'.grownBy w'' (some g)) (hg : g = g0 ∨ g = g1) : Two w w'' g0 g1 :=
  ⟨k.os.trans h.os, k.tape.trans h.tape, k.output.trans h.output, Nat.le_trans h.size k.size,
    fun i hi h1 h2 => (k.block i (Nat.lt_of_lt_of_le hi h.size) (fun e => by injection e with e; omega)).trans (h.block i hi h1 h2)⟩
theorem Two.drew {w w' : World} {g0 g1 : Nat} (h : Two w w' g0 g1) : Two w w'.drew g0 g1 := ⟨h.os, h.tape, h.output, h.size, h.block⟩

def PartPost (w : World) (base g0 g1 n cap0 cap1 : Nat) (A B : List Int) (e : Ending) (w' : World) : Prop :=
  e = .returned (.tuple #[]) ∧ Two w w' g0 g1 ∧ Row w' base g0 n cap0 A ∧ Row w' base g1 n cap1 B

set_option maxHeartbeats 4000000 in
set_option maxRecDepth 20000 in
theorem qpartm (w : World) (base m g0 g1 n cap0 cap1 : Nat) (xs ys : List Int) (hn : n ≤ 256) (hx : Abs 65536 xs) (hy : Abs 65536 ys) (hne : g0 ≠ g1) (h0 : Row w base g0 n cap0 xs) (h1 : Row w base g1 n cap1 ys) :
    Calls Try.prog 110 #[.int .i64 m, .slice (some ⟨g0, 0, none⟩) n cap0, .slice (some ⟨g1, 0, none⟩) n cap1] w
      (PartPost w base g0 g1 n cap0 cap1 ((List.zipWith (pair m) xs ys).map (·.1)) ((List.zipWith (pair m) xs ys).map (·.2))) := by
  have hxl := h0.len
  have hyl := h1.len
  obtain ⟨A, hA⟩ : ∃ A, (List.zipWith (pair m) xs ys).map (·.1) = A := ⟨_, rfl⟩
  obtain ⟨B, hB⟩ : ∃ B, (List.zipWith (pair m) xs ys).map (·.2) = B := ⟨_, rfl⟩
  have HAB : Hid (A.length = n ∧ B.length = n ∧ ∀ k, k < n → A.getD k 0 = (pair m (xs.getD k 0) (ys.getD k 0)).1 ∧ B.getD k 0 = (pair m (xs.getD k 0) (ys.getD k 0)).2) := by
    refine ⟨by rw [← hA, List.length_map, List.length_zipWith]; omega, by rw [← hB, List.length_map, List.length_zipWith]; omega, fun k hk => ?_⟩
    have hz := zip_get (pair m) xs ys k (by omega) (by omega)
    rw [← hA, ← hB]
    exact hz
  rw [hA, hB]
  have HXL : Hid (xs.length = n) := hxl
  have HYL : Hid (ys.length = n) := hyl
  clear hA hB hxl hyl
  go_enter Try.func110, Try.ntmps110
  go_wp2_with fail
  go_loopw [9] (fun i wr => ∃ k : Nat, k ≤ n ∧ i = .int .i64 k ∧ Two w wr g0 g1 ∧ Row wr base g0 n cap0 (part A xs k) ∧ Row wr base g1 n cap1 (part B ys k)) (fun i _ => n - (intOf i).toNat)
  case atStart => exact ⟨0, Nat.zero_le _, rfl, Two.refl _ _ _, by rw [part_zero]; exact h0, by rw [part_zero]; exact h1⟩
  case round =>
    obtain ⟨k, hk, rfl, htwo, hr0, hr1⟩ := hrel
    by_cases hlt : k < n
    · have c0 := hr0.cell k hlt
      have c1 := hr1.cell k hlt
      rw [part_get A xs k (by rw [HAB.out.1]; exact hk)] at c0
      rw [part_get B ys k (by rw [HAB.out.2.1]; exact hk)] at c1
      have f0 := hr0.fz k
      have f1 := hr1.fz k
      have ba := hx.get (by omega) k
      have bb := hy.get (by omega) k
      have hab := HAB.out.2.2 k hlt
      obtain ⟨x, hxx⟩ : ∃ x, xs.getD k 0 = x := ⟨_, rfl⟩
      obtain ⟨y, hyy⟩ : ∃ y, ys.getD k 0 = y := ⟨_, rfl⟩
      rw [hxx] at c0 ba hab
      rw [hyy] at c1 bb hab
      obtain ⟨p, hp⟩ : ∃ p, (pair m x y).1 = p := ⟨_, rfl⟩
      obtain ⟨q, hq⟩ : ∃ q, (pair m x y).2 = q := ⟨_, rfl⟩
      have hcall := fun w => qpair w m x y ba bb
      rw [hp, hq] at hab hcall
      have wd := hr0.kept (grown_drew (grown_refl wr none)) (by simp)
      have we := hr1.kept (grown_drew (grown_refl wr none)) (by simp)
      have s1 := grown_set wr.drew g0 k (.int .i64 p)
      have s2 := grown_set (wr.drew.setCell ⟨g0, k, none⟩ (.int .i64 p)) g1 k (.int .i64 q)
      have r0 := (wd.stored k p).kept s2 (fun e => by injection e with e; omega)
      have r1 := (we.kept s1 (fun e => by injection e with e; omega)).stored k q
      rw [← hab.1, part_set A xs k (by rw [HAB.out.1]; exact hlt) (by rw [HXL.out]; exact hlt), hab.1] at r0
      rw [← hab.2, part_set B ys k (by rw [HAB.out.2.1]; exact hlt) (by rw [HYL.out]; exact hlt), hab.2] at r1
      have ht2 := (htwo.drew.step s1 (.inl rfl)).step s2 (.inr rfl)
      have HFIN : Hid (Two w ((wr.drew.setCell ⟨g0, k, none⟩ (.int .i64 p)).setCell ⟨g1, k, none⟩ (.int .i64 q)) g0 g1 ∧ Row ((wr.drew.setCell ⟨g0, k, none⟩ (.int .i64 p)).setCell ⟨g1, k, none⟩ (.int .i64 q)) base g0 n cap0 (part A xs (k + 1)) ∧ Row ((wr.drew.setCell ⟨g0, k, none⟩ (.int .i64 p)).setCell ⟨g1, k, none⟩ (.int .i64 q)) base g1 n cap1 (part B ys (k + 1))) := ⟨ht2, r0, r1⟩
      clear hab hxx hyy hp hq wd we s1 s2 r0 r1 ht2 htwo hr0 hr1 h0 h1 hx hy
      go_upto_region 3 with fail
      go_region_with (go_at_call 124; refine (hcall _).mono ?_; rintro e w1 ⟨rfl, rfl⟩)
      all_goals
        go_wp2
        go_roundw
        case rel => exact ⟨k + 1, by omega, by go_num, HFIN.out.1, HFIN.out.2.1, HFIN.out.2.2⟩
        case measure => simp [intOf]; omega
    · obtain rfl : k = n := by omega
      rw [part_all A xs k (by rw [HAB.out.1]; exact Nat.le_refl _) (by rw [HXL.out]; exact Nat.le_refl _)] at hr0
      rw [part_all B ys k (by rw [HAB.out.2.1]; exact Nat.le_refl _) (by rw [HYL.out]; exact Nat.le_refl _)] at hr1
      go_wp2
      go_end0
      exact ⟨rfl, htwo, hr0, hr1⟩
end Go.Proofs.Ytncmgnmcggkhnaa
