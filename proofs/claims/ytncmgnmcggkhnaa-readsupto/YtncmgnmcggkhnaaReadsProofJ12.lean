import Derived.Test.YtncmgnmcggkhnaaReadsProofJ11
import Derived.Deep.DeepCutAuto
import Derived.Deep.CutBlock
namespace Go.Proofs.Ytncmgnmcggkhnaa
open Go.RowKit

set_option maxHeartbeats 8000000 in
set_option maxRecDepth 20000 in
theorem qfixed (w : World) (g1 o c1 : Nat) (vr : Value) (first res : List Int) (m : Int) (h1 : first.length = o) (ho : o ≤ 4) (hrl : res.length ≤ 256) (hab : Abs 2147483648 res) (hfirst : Srcs w g1 first) (hres : Lo w vr res) :
    Calls Try.prog 161 #[.agg #[.slice (some ⟨g1, 0, none⟩) o c1, vr], .int .i64 m] w (SampPost w (first.length + res.length) fun xs => Told first res (fixedFactors o) 0 res.length xs) := by
  obtain ⟨ar, cr, rfl⟩ := hres.slice
  obtain ⟨wa, hwa⟩ : ∃ wa, w.alloc (.cells #[Value.slice (some ⟨g1, 0, none⟩) o c1, .slice ar res.length cr] 164) = wa := ⟨_, rfl⟩
  have hga : w.grownBy wa none := by rw [← hwa]; exact grown_alloc (grown_refl _ _) _
  have hbox : Box wa w.heap.size #[Value.slice (some ⟨g1, 0, none⟩) o c1, .slice ar res.length cr] 164 := by rw [← hwa]; exact Box.new _ _ _
  have k0 : wa.cell? ⟨w.heap.size, 0, none⟩ = some (.slice (some ⟨g1, 0, none⟩) o c1) := hbox.cell 0
  have k1 : wa.cell? ⟨w.heap.size, 1, none⟩ = some (.slice ar res.length cr) := hbox.cell 1
  have K0 : Hid (wa.cell? ⟨w.heap.size, 0, none⟩ = some (.slice (some ⟨g1, 0, none⟩) o c1)) := k0
  have K1 : Hid (wa.cell? ⟨w.heap.size, 1, none⟩ = some (.slice ar res.length cr)) := k1
  have hgd : w.grownBy wa.drew none := grown_drew hga
  have hfirst1 := hfirst.kept hgd (by simp)
  have hres1 := hres.kept hgd
  have hfl := (fixed_abs2 o ho).2
  have HFL : Hid ((fixedFactors o).length = o) := hfl
  have H1 : Hid (first.length = o) := h1
  have hle : first.length ≤ 256 := by omega
  have HWA : Hid _ := hwa
  have HT : ∀ w1 vf, wa.drew.grownBy w1 none → Lo w1 vf (fixedFactors o) → Calls Try.prog 162 #[.slice (some ⟨g1, 0, none⟩) o c1, .slice ar res.length cr, vf, .int .i64 0] w1 (ForePost w1 first res (fixedFactors o) 0) := fun w1 vf hg1 hlo =>
    qtold _ g1 o c1 _ _ first res (fixedFactors o) 0 (by omega) H1.out (by rw [HFL.out, H1.out]; exact Nat.le_refl _) hle hrl hab (hfirst1.kept hg1 (by simp)) (hres1.kept hg1) hlo
  have HQ := fun w => qfactors w o ho
  clear h1 hfl hbox hwa hfirst1 hres1 hab hfirst hres hle hrl hga H1 HFL
  go_enter Try.func161, Try.ntmps161
  go_upto_region 1 with fail
  rw [HWA.out]
  clear HWA
  go_region_with (first
    | (go_at_call 128; refine (HQ _).mono ?_; rintro e w1 ⟨vf, rfl, hlo, hg1⟩; have j0 := hg1.cell K0.out (by simp); have j1 := hg1.cell K1.out (by simp))
    | (go_at_call 162; refine (HT _ _ hg1 hlo).mono ?_; rintro e w2 ⟨v, xs, rfl, hown, hg2, hlen, htold⟩; have hfin := (⟨v, xs, rfl, hown.mono (Nat.le_trans hgd.size hg1.size), grown_trans (grown_trans hgd hg1) hg2, hlen, htold⟩ : SampPost w (first.length + res.length) (fun xs => Told first res (fixedFactors o) 0 res.length xs) (.returned v) w2); clear hown hg2 hlen htold hg1 hlo j0 j1))
  all_goals
    go_wp2
    go_ret
    exact hfin
end Go.Proofs.Ytncmgnmcggkhnaa

namespace Go.Proofs.Ytncmgnmcggkhnaa
open Go.RowKit

/-- what a subframe holds -/
inductive Sub where
  | alike (x : Int)
  | plain (xs : List Int)
  | fixed (first res : List Int)
  | linear (first fs : List Int) (shift : Nat) (res : List Int)

def pSubFixed (n wide order : Nat) : P Sub := fun l =>
  if order ≤ n then (pList (pSigned wide) order l).bind fun (first, r) => (pResidue n order r).map fun (res, r') => (.fixed first res, r') else none

def pSubLin (n wide order : Nat) : P Sub := fun l =>
  if order ≤ n then
    (pList (pSigned wide) order l).bind fun (first, r) => (pNum 4 r).bind fun (fb, r1) => (pSigned 5 r1).bind fun (shift, r2) =>
      if fb = 15 ∨ shift < 0 then none
      else (pList (pSigned (fb + 1)) order r2).bind fun (fs, r3) => (pResidue n order r3).map fun (res, r4) => (.linear first fs shift.toNat res, r4)
  else none

def pSub (kind n wide : Nat) : P Sub := fun l =>
  if kind = 0 then (pSigned wide l).map fun (x, r) => (.alike x, r)
  else if kind = 1 then (pList (pSigned wide) n l).map fun (xs, r) => (.plain xs, r)
  else if 8 ≤ kind ∧ kind ≤ 12 then pSubFixed n wide (kind - 8) l
  else if 32 ≤ kind ∧ kind ≤ 39 then pSubLin n wide (kind - 31) l
  else none

def samplesOf (n wide : Nat) : Sub → Option (List Int)
  | .alike x => some (List.replicate n x)
  | .plain xs => some xs
  | .fixed first res => predict wide (fixedFactors first.length) 0 first.reverse res
  | .linear first fs shift res => predict wide fs shift first.reverse res

theorem pFixed_sub (n wide order : Nat) (l : List Bool) : pFixed n wide order l = (pSubFixed n wide order l).bind fun (sub, r) => (samplesOf n wide sub).map fun xs => (xs, r) := by
  unfold pFixed pSubFixed
  split
  · cases e1 : pList (pSigned wide) order l with
    | none => rfl
    | some x =>
      obtain ⟨first, r⟩ := x
      have hl := pList_length _ _ _ _ _ e1
      simp only [Option.bind_some]
      unfold pForetold
      rw [hl]
      cases e2 : pResidue n order r with
      | none => rfl
      | some y =>
        obtain ⟨res, r2⟩ := y
        simp only [Option.bind_some, Option.map_some, samplesOf, hl]
  · rfl

theorem pLinear_sub (n wide order : Nat) (l : List Bool) : pLinear n wide order l = (pSubLin n wide order l).bind fun (sub, r) => (samplesOf n wide sub).map fun xs => (xs, r) := by
  unfold pLinear pSubLin
  split
  · cases e1 : pList (pSigned wide) order l with
    | none => rfl
    | some x =>
      obtain ⟨first, r⟩ := x
      have hl := pList_length _ _ _ _ _ e1
      simp only [Option.bind_some]
      cases e2 : pNum 4 r with
      | none => rfl
      | some y =>
        obtain ⟨fb, r1⟩ := y
        simp only [Option.bind_some]
        cases e3 : pSigned 5 r1 with
        | none => rfl
        | some z =>
          obtain ⟨shift, r2⟩ := z
          simp only [Option.bind_some]
          split
          · rfl
          · cases e4 : pList (pSigned (fb + 1)) order r2 with
            | none => rfl
            | some u =>
              obtain ⟨fs, r3⟩ := u
              simp only [Option.bind_some]
              unfold pForetold
              rw [hl]
              cases e5 : pResidue n order r3 with
              | none => rfl
              | some y =>
                obtain ⟨res, r4⟩ := y
                simp only [Option.bind_some, Option.map_some, samplesOf]
  · rfl

theorem pKind_sub (kind n wide : Nat) (l : List Bool) : pKind kind n wide l = (pSub kind n wide l).bind fun (sub, r) => (samplesOf n wide sub).map fun xs => (xs, r) := by
  unfold pKind pSub
  split
  · cases pSigned wide l <;> rfl
  · split
    · cases pList (pSigned wide) n l <;> rfl
    · split
      · exact pFixed_sub _ _ _ _
      · split
        · exact pLinear_sub _ _ _ _
        · rfl

/-- a subframe in memory -/
def SubV (w : World) (base : Nat) (v : Value) : Sub → Prop
  | .alike x => v = .iface 157 (.agg #[.int .i64 x])
  | .plain xs => ∃ g, v = .iface 161 (.agg #[.slice (some ⟨g, 0, none⟩) xs.length xs.length]) ∧ Row w base g xs.length xs.length xs
  | .fixed first res => ∃ g vr, v = .iface 164 (.agg #[.slice (some ⟨g, 0, none⟩) first.length first.length, vr]) ∧ Row w base g first.length first.length first ∧ Own w base vr res
  | .linear first fs shift res => ∃ g g2 vr, v = .iface 185 (.agg #[.slice (some ⟨g, 0, none⟩) first.length first.length, .slice (some ⟨g2, 0, none⟩) fs.length fs.length, .int .i64 shift, vr]) ∧
      Row w base g first.length first.length first ∧ Row w base g2 fs.length fs.length fs ∧ Own w base vr res

/-- what its numbers keep to -/
def SubOk (n wide : Nat) : Sub → Prop
  | .alike x => fitsB wide x = true
  | .plain xs => xs.length = n ∧ ∀ x ∈ xs, fitsB wide x = true
  | .fixed first res => first.length ≤ 4 ∧ (∀ x ∈ first, fitsB wide x = true) ∧ first.length + res.length = n ∧ Abs 2147483648 res
  | .linear first fs shift res => first.length ≤ 8 ∧ fs.length = first.length ∧ (∀ x ∈ first, fitsB wide x = true) ∧ Abs 32768 fs ∧ shift ≤ 31 ∧ first.length + res.length = n ∧ Abs 2147483648 res

def KindPost (w : World) (b : Nat) (s : ByteArray) (σ : Option (List Bool)) (n wide : Nat) (p : P Sub) (e : Ending) (w' : World) : Prop :=
  ∃ (v : Value) (ok : Bool), e = .returned (.tuple #[v, .bool ok]) ∧ w.grownBy w' (some b) ∧
    ((ok = true ∧ ∃ (sub : Sub) (σ' : Option (List Bool)), SubV w' w.heap.size v sub ∧ SubOk n wide sub ∧ Sp w' b s σ' ∧ Ends p σ sub σ') ∨ (ok = false ∧ ∀ sub, Ends p σ sub none))

theorem Signs.fits {wide : Nat} {xs : List Int} (h : Signs wide xs) (hw : 1 ≤ wide) : ∀ x ∈ xs, fitsB wide x = true := by
  intro x hx
  obtain ⟨v, hv, rfl⟩ := h x hx
  exact sign_fits wide v hw hv

theorem fixed_yes {n wide order : Nat} {first res : List Int} {σ σ1 σ2 : Option (List Bool)} (ho : order ≤ n) (h1 : Ends (pList (pSigned wide) order) σ first σ1) (h2 : Ends (pResidue n order) σ1 res σ2) : Ends (pSubFixed n wide order) σ (.fixed first res) σ2 := by
  have e : pSubFixed n wide order = fun l => (pList (pSigned wide) order l).bind fun (first, r) => (pResidue n order r).map fun (res, r') => (Sub.fixed first res, r') := by
    funext l; unfold pSubFixed; rw [if_pos ho]
  rw [e]
  exact Ends.bind (p := pList (pSigned wide) order) (q := fun first r => (pResidue n order r).map fun (res, r') => (Sub.fixed first res, r')) h1 (Ends.map (f := fun res => Sub.fixed first res) h2)

theorem fixed_no {n wide order : Nat} {first : List Int} {sub : Sub} {σ σ1 : Option (List Bool)} (ho : order ≤ n) (h1 : Ends (pList (pSigned wide) order) σ first σ1) (h2 : ∀ res, Ends (pResidue n order) σ1 res none) : Ends (pSubFixed n wide order) σ sub none :=
  (fixed_yes ho h1 (h2 [])).dead_any sub

theorem fixed_big {n wide order : Nat} {sub : Sub} {σ : Option (List Bool)} (ho : ¬ order ≤ n) : Ends (pSubFixed n wide order) σ sub none :=
  Ends.fail (fun l _ => by unfold pSubFixed; rw [if_neg ho])

set_option maxHeartbeats 1000000 in
set_option maxRecDepth 20000 in
theorem qreadfixed (w : World) (b : Nat) (s : ByteArray) (order wide n : Nat) (σ : Option (List Bool)) (hs : s.size ≤ 6000) (hn : n ≤ 256) (hn1 : 1 ≤ n) (ho4 : order ≤ 4) (hw1 : 1 ≤ wide) (hw : wide ≤ 17) (h : Sp w b s σ) :
    Calls Try.prog 132 #[.pointer (some ⟨b, 0, none⟩), .int .i64 order, .int .i64 wide, .int .i64 n] w (KindPost w b s σ n wide (pSubFixed n wide order)) := by
  have hblt := h.lt
  by_cases ho : order ≤ n
  rotate_left
  · have t0 : decide (n < order) = true := decide_eq_true (by omega)
    have HB : Hid (∀ sub, Ends (pSubFixed n wide order) σ sub none) := fun sub => fixed_big ho
    clear ho
    go_enter Try.func132, Try.ntmps132
    go_wp2
    exact bodyPost_ret (v := .tuple #[.nilIface, .bool false]) (by simp [results, Try.results132, go_sem]) rfl ⟨_, false, rfl, grown_refl _ _, .inr ⟨rfl, HB.out⟩⟩
  have t0 : decide (n < order) = false := decide_eq_false (by omega)
  go_enter Try.func132, Try.ntmps132
  go_wp2_with fail
  refine (qlist _ _ _ order wide _ hs (by omega) (by omega) h).mono ?_
  rintro e w1 ⟨g, first, σ1, rfl, hrow, hsg, hg1, hsp1, hends1⟩
  have hlen := hrow.len
  go_wp2_with fail
  refine (qresidue _ _ _ n order _ hs hn hn1 ho hsp1).mono ?_
  rintro e w2 ⟨vr, ok, rfl, hg2, hcase⟩
  have hgg := grown_trans hg1 hg2
  have hrow2 := hrow.kept hg2 (fun e => by injection e with e; have := hrow.lt; omega)
  have hfit := hsg.fits hw1
  rcases hcase with ⟨rfl, res, σ2, hown, hrl, hab, hsp2, hends2⟩ | ⟨rfl, rfl, hbad⟩
  · obtain ⟨ar, cr, rfl⟩ := own_slice hown
    have hown2 := hown.mono hg1.size
    have hends := fixed_yes ho hends1 hends2
    have hpost : KindPost w b s σ n wide (pSubFixed n wide order) (.returned (.tuple #[.iface 164 (.agg #[.slice (some ⟨g, 0, none⟩) order order, .slice ar res.length cr]), .bool true])) w2 :=
      ⟨_, true, rfl, hgg, .inl ⟨rfl, .fixed first res, σ2, ⟨g, _, by rw [hlen], by rw [hlen]; exact hrow2, hown2⟩, ⟨by omega, hfit, by omega, hab⟩, hsp2, hends⟩⟩
    clear hends1 hends2 hends hrow hrow2 hown hown2 hsp1 hsp2 hlen hrl hg1 hg2 hgg
    go_wp2
    exact bodyPost_ret (v := .tuple #[.iface 164 (.agg #[.slice (some ⟨g, 0, none⟩) order order, .slice ar res.length cr]), .bool true]) (by simp [results, Try.results132, go_sem]) rfl hpost
  · have hends : ∀ sub, Ends (pSubFixed n wide order) σ sub none := fun sub => fixed_no ho hends1 hbad
    clear hends1 hbad hrow hrow2 hsp1 hlen hg1 hg2
    go_wp2
    exact bodyPost_ret (v := .tuple #[.iface 164 (.agg #[.slice (some ⟨g, 0, none⟩) order order, .slice none 0 0]), .bool false]) (by simp [results, Try.results132, go_sem]) rfl ⟨_, false, rfl, hgg, .inr ⟨rfl, hends⟩⟩
end Go.Proofs.Ytncmgnmcggkhnaa

namespace Go.Proofs.Ytncmgnmcggkhnaa
open Go.RowKit

/-- behind the first samples: how many bits a factor has, the shift -/
def linTail (n order : Nat) (first : List Int) : P Sub := fun r => (pNum 4 r).bind fun (fb, r1) => (pSigned 5 r1).bind fun (shift, r2) =>
  if fb = 15 ∨ shift < 0 then none
  else (pList (pSigned (fb + 1)) order r2).bind fun (fs, r3) => (pResidue n order r3).map fun (res, r4) => (Sub.linear first fs shift.toNat res, r4)

theorem lin_head {n wide order : Nat} {first : List Int} {sub : Sub} {σ σ1 σ2 : Option (List Bool)} (ho : order ≤ n) (h1 : Ends (pList (pSigned wide) order) σ first σ1) (h2 : Ends (linTail n order first) σ1 sub σ2) : Ends (pSubLin n wide order) σ sub σ2 := by
  have e : pSubLin n wide order = fun l => (pList (pSigned wide) order l).bind fun (first, r) => linTail n order first r := by
    funext l; unfold pSubLin linTail; rw [if_pos ho]
  rw [e]
  exact Ends.bind (p := pList (pSigned wide) order) (q := fun first r => linTail n order first r) h1 h2

theorem lin_big {n wide order : Nat} {sub : Sub} {σ : Option (List Bool)} (ho : ¬ order ≤ n) : Ends (pSubLin n wide order) σ sub none :=
  Ends.fail (fun l _ => by unfold pSubLin; rw [if_neg ho])

theorem lin_no {n order fb : Nat} {shift : Int} {first : List Int} {sub : Sub} {σ1 σ2 σ3 : Option (List Bool)} (h2 : Ends (pNum 4) σ1 fb σ2) (h3 : Ends (pSigned 5) σ2 shift σ3) (hc : fb = 15 ∨ shift < 0) : Ends (linTail n order first) σ1 sub none := by
  unfold linTail
  refine Ends.bind (p := pNum 4) (q := fun fb r1 => (pSigned 5 r1).bind fun (shift, r2) => if fb = 15 ∨ shift < 0 then none else (pList (pSigned (fb + 1)) order r2).bind fun (fs, r3) => (pResidue n order r3).map fun (res, r4) => (Sub.linear first fs shift.toNat res, r4)) h2 ?_
  refine Ends.bind (p := pSigned 5) (q := fun shift r2 => if fb = 15 ∨ shift < 0 then none else (pList (pSigned (fb + 1)) order r2).bind fun (fs, r3) => (pResidue n order r3).map fun (res, r4) => (Sub.linear first fs shift.toNat res, r4)) h3 ?_
  exact Ends.fail (fun l _ => if_pos hc)

theorem lin_yes {n order fb : Nat} {shift : Int} {first fs res : List Int} {σ1 σ2 σ3 σ4 σ5 : Option (List Bool)} (h2 : Ends (pNum 4) σ1 fb σ2) (h3 : Ends (pSigned 5) σ2 shift σ3) (hc : ¬ (fb = 15 ∨ shift < 0)) (h4 : Ends (pList (pSigned (fb + 1)) order) σ3 fs σ4)
    (h5 : Ends (pResidue n order) σ4 res σ5) : Ends (linTail n order first) σ1 (.linear first fs shift.toNat res) σ5 := by
  unfold linTail
  refine Ends.bind (p := pNum 4) (q := fun fb r1 => (pSigned 5 r1).bind fun (shift, r2) => if fb = 15 ∨ shift < 0 then none else (pList (pSigned (fb + 1)) order r2).bind fun (fs, r3) => (pResidue n order r3).map fun (res, r4) => (Sub.linear first fs shift.toNat res, r4)) h2 ?_
  refine Ends.bind (p := pSigned 5) (q := fun shift r2 => if fb = 15 ∨ shift < 0 then none else (pList (pSigned (fb + 1)) order r2).bind fun (fs, r3) => (pResidue n order r3).map fun (res, r4) => (Sub.linear first fs shift.toNat res, r4)) h3 ?_
  have e : (fun r2 => if fb = 15 ∨ shift < 0 then none else (pList (pSigned (fb + 1)) order r2).bind fun (fs, r3) => (pResidue n order r3).map fun (res, r4) => (Sub.linear first fs shift.toNat res, r4)) = fun r2 => (pList (pSigned (fb + 1)) order r2).bind fun (fs, r3) => (pResidue n order r3).map fun (res, r4) => (Sub.linear first fs shift.toNat res, r4) := by
    funext r; rw [if_neg hc]
  rw [e]
  exact Ends.bind (p := pList (pSigned (fb + 1)) order) (q := fun fs r3 => (pResidue n order r3).map fun (res, r4) => (Sub.linear first fs shift.toNat res, r4)) h4 (Ends.map (f := fun res => Sub.linear first fs shift.toNat res) h5)

set_option maxHeartbeats 1000000 in
set_option maxRecDepth 20000 in
theorem qreadlinear (w : World) (b : Nat) (s : ByteArray) (order wide n : Nat) (σ : Option (List Bool)) (hs : s.size ≤ 6000) (hn : n ≤ 256) (hn1 : 1 ≤ n) (ho8 : order ≤ 8) (hw1 : 1 ≤ wide) (hw : wide ≤ 17) (h : Sp w b s σ) :
    Calls Try.prog 133 #[.pointer (some ⟨b, 0, none⟩), .int .i64 order, .int .i64 wide, .int .i64 n] w (KindPost w b s σ n wide (pSubLin n wide order)) := by
  have hblt := h.lt
  by_cases ho : order ≤ n
  rotate_left
  · have t0 : decide (n < order) = true := decide_eq_true (by omega)
    have HB : Hid (∀ sub, Ends (pSubLin n wide order) σ sub none) := fun sub => lin_big ho
    clear ho
    go_enter Try.func133, Try.ntmps133
    go_wp2
    exact bodyPost_ret (v := .tuple #[.nilIface, .bool false]) (by simp [results, Try.results133, go_sem]) rfl ⟨_, false, rfl, grown_refl _ _, .inr ⟨rfl, HB.out⟩⟩
  have t0 : decide (n < order) = false := decide_eq_false (by omega)
  go_enter Try.func133, Try.ntmps133
  go_wp2_with fail
  refine (qlist _ _ _ order wide _ hs (by omega) (by omega) h).mono ?_
  rintro e w1 ⟨g, first, σ1, rfl, hrow, hsg, hg1, hsp1, hends1⟩
  have hlen := hrow.len
  have hfit := hsg.fits hw1
  have HLEN : Hid (first.length = order) := hlen
  clear hlen
  go_wp2_with fail
  refine (qnum _ _ _ 4 _ hs (by omega) hsp1).mono ?_
  rintro e w2 ⟨fb, σ2, rfl, hfb0, -, hg2, hsp2, hends2⟩
  have hfb : fb < 16 := hfb0
  go_wp2_with fail
  refine (qsigned _ _ _ 5 _ hs (by omega) hsp2).mono ?_
  rintro e w3 ⟨sv, σ3, rfl, hsv, -, hg3, hsp3, hends3⟩
  have hsb := sign_bounds 5 sv (by omega) hsv
  have hsb2 : sign 5 sv ≤ 31 := by unfold sign; have : sv < 32 := hsv; split <;> omega
  obtain ⟨sh, hsh⟩ : ∃ sh, sign 5 sv = sh := ⟨_, rfl⟩
  rw [hsh] at hsb hsb2 hends3
  rw [hsh]
  have hgg3 := grown_trans (grown_trans hg1 hg2) hg3
  have hrow3 := (hrow.kept hg2 (fun e => by injection e with e; have := hrow.lt; omega)).kept hg3 (fun e => by injection e with e; have := hrow.lt; omega)
  clear hsh hsv hfb0 hsp1 hsp2 hrow hg1 hg2 hg3 h
  by_cases hc : fb = 15 ∨ sh < 0
  · have hends : ∀ sub, Ends (pSubLin n wide order) σ sub none := fun sub => lin_head ho hends1 (lin_no hends2 hends3 hc)
    have hpost : KindPost w b s σ n wide (pSubLin n wide order) (.returned (.tuple #[.nilIface, .bool false])) w3 := ⟨_, false, rfl, hgg3, .inr ⟨rfl, hends⟩⟩
    clear hends hends1 hends2 hends3
    by_cases h15 : fb = 15
    · have d1 : decide ((15 : Int) < (fb : Int) + 1) = true := decide_eq_true (by omega)
      clear hc h15
      go_wp2
      exact bodyPost_ret (v := .tuple #[.nilIface, .bool false]) (by simp [results, Try.results133, go_sem]) rfl hpost
    · have d1 : decide ((15 : Int) < (fb : Int) + 1) = false := decide_eq_false (by omega)
      have d2 : decide (sh < 0) = true := decide_eq_true (by omega)
      clear hc h15
      go_wp2
      exact bodyPost_ret (v := .tuple #[.nilIface, .bool false]) (by simp [results, Try.results133, go_sem]) rfl hpost
  · have d1 : decide ((15 : Int) < (fb : Int) + 1) = false := decide_eq_false (by omega)
    have d2 : decide (sh < 0) = false := decide_eq_false (by omega)
    have HC : Hid (¬ (fb = 15 ∨ sh < 0)) := hc
    have hsh0 : 0 ≤ sh := by omega
    have hfb15 : fb + 1 ≤ 15 := by omega
    clear hc
    have hq := qlist w3 b s order (fb + 1) σ3 hs (by omega) (by omega) hsp3
    go_wp2_with fail
    refine hq.mono ?_
    rintro e w4 ⟨g4, fs, σ4, rfl, hrow4, hsg4, hg4, hsp4, hends4⟩
    have hlen4 := hrow4.len
    have HLEN4 : Hid (fs.length = order) := hlen4
    have hfab := hsg4.abs15 (by omega) (by omega)
    clear hlen4 hq
    go_wp2_with fail
    refine (qresidue _ _ _ n order _ hs hn hn1 ho hsp4).mono ?_
    rintro e w5 ⟨vr, ok, rfl, hg5, hcase⟩
    have hgg5 := grown_trans (grown_trans hgg3 hg4) hg5
    have hlt3 := hrow3.lt
    have hlt4 := hrow4.lt
    have hblt3 := hsp3.lt
    have hrow5 := (hrow3.kept hg4 (fun e => by injection e with e; omega)).kept hg5 (fun e => by injection e with e; omega)
    have hrowF := (hrow4.kept hg5 (fun e => by injection e with e; omega)).mono hgg3.size
    rcases hcase with ⟨rfl, res, σ5, hown, hrl, hab, hsp5, hends5⟩ | ⟨rfl, rfl, hbad⟩
    · obtain ⟨ar, cr, rfl⟩ := own_slice hown
      have hown2 := hown.mono (Nat.le_trans hgg3.size hg4.size)
      have hends := lin_head (wide := wide) ho hends1 (lin_yes hends2 hends3 HC.out hends4 hends5)
      have hpost : KindPost w b s σ n wide (pSubLin n wide order) (.returned (.tuple #[.iface 185 (.agg #[.slice (some ⟨g, 0, none⟩) order order, .slice (some ⟨g4, 0, none⟩) order order, .int .i64 sh, .slice ar res.length cr]), .bool true])) w5 := by
        have e1 := HLEN.out
        have e2 := HLEN4.out
        refine ⟨_, true, rfl, hgg5, .inl ⟨rfl, .linear first fs sh.toNat res, σ5, ⟨g, g4, _, ?_, by rw [e1]; exact hrow5, by rw [e2]; exact hrowF, hown2⟩, ⟨by omega, by omega, hfit, hfab, by omega, by omega, hab⟩, hsp5, hends⟩⟩
        rw [e1, e2, show ((sh.toNat : Nat) : Int) = sh by omega]
      clear hends hends1 hends2 hends3 hends4 hends5 hrow3 hrow4 hrow5 hrowF hown hown2 hsp3 hsp4 hsp5 hrl hg4 hg5 hgg3 hgg5
      go_wp2
      exact bodyPost_ret (v := .tuple #[.iface 185 (.agg #[.slice (some ⟨g, 0, none⟩) order order, .slice (some ⟨g4, 0, none⟩) order order, .int .i64 sh, .slice ar res.length cr]), .bool true]) (by simp [results, Try.results133, go_sem]) rfl hpost
    · have hends : ∀ sub, Ends (pSubLin n wide order) σ sub none := fun sub => (lin_head (wide := wide) ho hends1 (lin_yes hends2 hends3 HC.out hends4 (hbad []))).dead_any sub
      have hpost : KindPost w b s σ n wide (pSubLin n wide order) (.returned (.tuple #[.iface 185 (.agg #[.slice (some ⟨g, 0, none⟩) order order, .slice (some ⟨g4, 0, none⟩) order order, .int .i64 sh, .slice none 0 0]), .bool false])) w5 := ⟨_, false, rfl, hgg5, .inr ⟨rfl, hends⟩⟩
      clear hends hends1 hends2 hends3 hends4 hbad hrow3 hrow4 hrow5 hrowF hsp3 hsp4 hg4 hg5 hgg3 hgg5
      go_wp2
      exact bodyPost_ret (v := .tuple #[.iface 185 (.agg #[.slice (some ⟨g, 0, none⟩) order order, .slice (some ⟨g4, 0, none⟩) order order, .int .i64 sh, .slice none 0 0]), .bool false]) (by simp [results, Try.results133, go_sem]) rfl hpost

theorem kind_alike {n wide : Nat} {x : Int} {σ σ' : Option (List Bool)} (h : Ends (pSigned wide) σ x σ') : Ends (pSub 0 n wide) σ (.alike x) σ' := Ends.map (f := fun x => Sub.alike x) h
theorem kind_plain {n wide : Nat} {xs : List Int} {σ σ' : Option (List Bool)} (h : Ends (pList (pSigned wide) n) σ xs σ') : Ends (pSub 1 n wide) σ (.plain xs) σ' := Ends.map (f := fun xs => Sub.plain xs) h
theorem kind_fixed {kind n wide : Nat} (h1 : 8 ≤ kind) (h2 : kind ≤ 12) : pSub kind n wide = pSubFixed n wide (kind - 8) := by
  funext l; unfold pSub; rw [if_neg (by omega), if_neg (by omega), if_pos ⟨h1, h2⟩]
theorem kind_linear {kind n wide : Nat} (h1 : 32 ≤ kind) (h2 : kind ≤ 39) : pSub kind n wide = pSubLin n wide (kind - 31) := by
  funext l; unfold pSub; rw [if_neg (by omega), if_neg (by omega), if_neg (by omega), if_pos ⟨h1, h2⟩]
theorem kind_none {kind n wide : Nat} {sub : Sub} {σ : Option (List Bool)} (h0 : kind ≠ 0) (h1 : kind ≠ 1) (h2 : ¬ (8 ≤ kind ∧ kind ≤ 12)) (h3 : ¬ (32 ≤ kind ∧ kind ≤ 39)) : Ends (pSub kind n wide) σ sub none :=
  Ends.fail (fun l _ => by unfold pSub; rw [if_neg h0, if_neg h1, if_neg h2, if_neg h3])

set_option maxHeartbeats 1000000 in
set_option maxRecDepth 20000 in
theorem qreadkind (w : World) (b : Nat) (s : ByteArray) (kind wide n : Nat) (σ : Option (List Bool)) (hs : s.size ≤ 6000) (hn : n ≤ 256) (hn1 : 1 ≤ n) (hk : kind < 64) (hw1 : 1 ≤ wide) (hw : wide ≤ 17) (h : Sp w b s σ) :
    Calls Try.prog 123 #[.pointer (some ⟨b, 0, none⟩), .int .i64 kind, .int .i64 wide, .int .i64 n] w (KindPost w b s σ n wide (pSub kind n wide)) := by
  by_cases k0 : kind = 0
  · subst k0
    go_enter Try.func123, Try.ntmps123
    go_wp2_with fail
    refine (qsigned _ _ _ wide _ hs (by omega) h).mono ?_
    rintro e w1 ⟨v, σ1, rfl, hv, -, hg1, hsp1, hends⟩
    have hf := sign_fits wide v hw1 hv
    have hpost : KindPost w b s σ n wide (pSub 0 n wide) (.returned (.tuple #[.iface 157 (.agg #[.int .i64 (sign wide v)]), .bool true])) w1 := ⟨_, true, rfl, hg1, .inl ⟨rfl, .alike (sign wide v), σ1, rfl, hf, hsp1, kind_alike hends⟩⟩
    clear hends hf hsp1 hg1
    go_wp2
    exact bodyPost_ret (v := .tuple #[.iface 157 (.agg #[.int .i64 (sign wide v)]), .bool true]) (by simp [results, Try.results123, go_sem]) rfl hpost
  by_cases k1 : kind = 1
  · subst k1
    go_enter Try.func123, Try.ntmps123
    go_wp2_with fail
    refine (qlist _ _ _ n wide _ hs hn (by omega) h).mono ?_
    rintro e w1 ⟨g, xs, σ1, rfl, hrow, hsg, hg1, hsp1, hends⟩
    have hl := hrow.len
    have hpost : KindPost w b s σ n wide (pSub 1 n wide) (.returned (.tuple #[.iface 161 (.agg #[.slice (some ⟨g, 0, none⟩) n n]), .bool true])) w1 := ⟨_, true, rfl, hg1, .inl ⟨rfl, .plain xs, σ1, ⟨g, by rw [hl], by rw [hl]; exact hrow⟩, ⟨hl, hsg.fits hw1⟩, hsp1, kind_plain hends⟩⟩
    clear hends hsp1 hg1 hrow hl
    go_wp2
    exact bodyPost_ret (v := .tuple #[.iface 161 (.agg #[.slice (some ⟨g, 0, none⟩) n n]), .bool true]) (by simp [results, Try.results123, go_sem]) rfl hpost
  have t0 : ((kind : Int) == 0) = false := by simp; omega
  have t1 : ((kind : Int) == 1) = false := by simp; omega
  by_cases k2 : 8 ≤ kind ∧ kind ≤ 12
  · have d1 : decide ((8 : Int) ≤ (kind : Int)) = true := decide_eq_true (by omega)
    have d2 : decide ((kind : Int) ≤ 12) = true := decide_eq_true (by omega)
    have hq := qreadfixed w b s (kind - 8) wide n σ hs hn hn1 (by omega) hw1 hw h
    rw [← kind_fixed k2.1 k2.2] at hq
    have hsub : (kind : Int) - 8 = ((kind - 8 : Nat) : Int) := by omega
    obtain ⟨o, ho⟩ : ∃ o, kind - 8 = o := ⟨_, rfl⟩
    rw [ho] at hsub hq
    clear k0 k1 k2 ho
    go_enter Try.func123, Try.ntmps123
    go_wp2_with fail
    refine hq.mono ?_
    rintro e w1 ⟨v, ok, rfl, hpost⟩
    have hp : KindPost w b s σ n wide (pSub kind n wide) (.returned (.tuple #[v, .bool ok])) w1 := ⟨v, ok, rfl, hpost⟩
    clear hpost hq
    go_wp2
    exact bodyPost_ret (v := .tuple #[v, .bool ok]) (by simp [results, Try.results123, go_sem]) rfl hp
  by_cases k3 : 32 ≤ kind ∧ kind ≤ 39
  · have d1 : decide ((8 : Int) ≤ (kind : Int)) = true := decide_eq_true (by omega)
    have d2 : decide ((kind : Int) ≤ 12) = false := decide_eq_false (by omega)
    have d3 : decide ((32 : Int) ≤ (kind : Int)) = true := decide_eq_true (by omega)
    have d4 : decide ((kind : Int) ≤ 39) = true := decide_eq_true (by omega)
    have hq := qreadlinear w b s (kind - 31) wide n σ hs hn hn1 (by omega) hw1 hw h
    rw [← kind_linear k3.1 k3.2] at hq
    have hsub : (kind : Int) - 32 + 1 = ((kind - 31 : Nat) : Int) := by omega
    obtain ⟨o, ho⟩ : ∃ o, kind - 31 = o := ⟨_, rfl⟩
    rw [ho] at hsub hq
    clear k0 k1 k2 k3 ho
    go_enter Try.func123, Try.ntmps123
    go_wp2_with fail
    refine hq.mono ?_
    rintro e w1 ⟨v, ok, rfl, hpost⟩
    have hp : KindPost w b s σ n wide (pSub kind n wide) (.returned (.tuple #[v, .bool ok])) w1 := ⟨v, ok, rfl, hpost⟩
    clear hpost hq
    go_wp2
    exact bodyPost_ret (v := .tuple #[v, .bool ok]) (by simp [results, Try.results123, go_sem]) rfl hp
  have hends : ∀ sub, Ends (pSub kind n wide) σ sub none := fun sub => kind_none k0 k1 k2 k3
  have hp : KindPost w b s σ n wide (pSub kind n wide) (.returned (.tuple #[.nilIface, .bool false])) w := ⟨_, false, rfl, grown_refl _ _, .inr ⟨rfl, hends⟩⟩
  clear hends
  by_cases q1 : 8 ≤ kind
  · by_cases q2 : 32 ≤ kind
    · have d1 : decide ((8 : Int) ≤ (kind : Int)) = true := decide_eq_true (by omega)
      have d2 : decide ((kind : Int) ≤ 12) = false := decide_eq_false (by omega)
      have d3 : decide ((32 : Int) ≤ (kind : Int)) = true := decide_eq_true (by omega)
      have d4 : decide ((kind : Int) ≤ 39) = false := decide_eq_false (by omega)
      clear k0 k1 k2 k3 q1 q2
      go_enter Try.func123, Try.ntmps123
      go_wp2
      exact bodyPost_ret (v := .tuple #[.nilIface, .bool false]) (by simp [results, Try.results123, go_sem]) rfl hp
    · have d1 : decide ((8 : Int) ≤ (kind : Int)) = true := decide_eq_true (by omega)
      have d2 : decide ((kind : Int) ≤ 12) = false := decide_eq_false (by omega)
      have d3 : decide ((32 : Int) ≤ (kind : Int)) = false := decide_eq_false (by omega)
      clear k0 k1 k2 k3 q1 q2
      go_enter Try.func123, Try.ntmps123
      go_wp2
      exact bodyPost_ret (v := .tuple #[.nilIface, .bool false]) (by simp [results, Try.results123, go_sem]) rfl hp
  · have d1 : decide ((8 : Int) ≤ (kind : Int)) = false := decide_eq_false (by omega)
    have d3 : decide ((32 : Int) ≤ (kind : Int)) = false := decide_eq_false (by omega)
    clear k0 k1 k2 k3 q1
    go_enter Try.func123, Try.ntmps123
    go_wp2
    exact bodyPost_ret (v := .tuple #[.nilIface, .bool false]) (by simp [results, Try.results123, go_sem]) rfl hp
end Go.Proofs.Ytncmgnmcggkhnaa

namespace Go.Proofs.Ytncmgnmcggkhnaa
open Go.RowKit

set_option maxHeartbeats 1000000 in
set_option maxRecDepth 20000 in
theorem qalike (w : World) (x : Int) (n : Nat) (hn : n ≤ 256) (hn1 : 1 ≤ n) :
    Calls Try.prog 154 #[.agg #[.int .i64 x], .int .i64 n] w (SampPost w n fun ys => ys = List.replicate n x) := by
  have hg1 : w.grownBy ((w.alloc (.cells #[Value.int .i64 x] 157)).alloc (.cells #[Value.int .i64 x] 3)) none := grown_alloc (grown_alloc (grown_refl _ _) _) _
  have hsrc : Srcs ((w.alloc (.cells #[Value.int .i64 x] 157)).alloc (.cells #[Value.int .i64 x] 3)) (w.heap.size + 1) [x] := by
    intro i hi
    have hb := Box.new (w.alloc (.cells #[Value.int .i64 x] 157)) #[Value.int .i64 x] 3
    have : i = 0 := by simpa using hi
    subst this
    have e : (w.alloc (.cells #[Value.int .i64 x] 157)).heap.size = w.heap.size + 1 := by simp
    rw [e] at hb
    exact hb.cell 0
  go_enter Try.func154, Try.ntmps154
  go_wp2_with fail
  refine (qrepeat _ (w.heap.size + 1) 1 n x hn hn1 hsrc).mono ?_
  rintro e w1 ⟨v, xs, rfl, hown, hg2, hlen, rfl⟩
  have hown' := hown.mono (show w.heap.size ≤ ((w.alloc (.cells #[Value.int .i64 x] 157)).alloc (.cells #[Value.int .i64 x] 3)).heap.size by simp; omega)
  have hgg := grown_trans hg1 hg2
  clear hown hg1 hg2 hlen hsrc
  go_wp2
  go_ret
  exact ⟨_, _, rfl, hown', hgg, by simp, rfl⟩

theorem m_alike (v : Value) (w : World) : (method 308 157 v "piccolo/frames.samples").run Try.prog w = .ok (154, v) w := by kernel_rfl
theorem m_plain (v : Value) (w : World) : (method 308 161 v "piccolo/frames.samples").run Try.prog w = .ok (159, v) w := by kernel_rfl
theorem m_fixed (v : Value) (w : World) : (method 308 164 v "piccolo/frames.samples").run Try.prog w = .ok (161, v) w := by kernel_rfl
theorem m_linear (v : Value) (w : World) : (method 308 185 v "piccolo/frames.samples").run Try.prog w = .ok (164, v) w := by kernel_rfl

/-- the samples of a subframe, of whatever kind -/
def SubSamp (n wide : Nat) (sub : Sub) (xs : List Int) : Prop := samplesOf n wide sub = if xs.all (fitsB wide) = true then some xs else none

theorem all_fits {wide : Nat} {xs : List Int} (h : ∀ x ∈ xs, fitsB wide x = true) : xs.all (fitsB wide) = true := List.all_eq_true.2 h

theorem samp_alike {n wide : Nat} {x : Int} (h : fitsB wide x = true) : SubSamp n wide (.alike x) (List.replicate n x) := by
  unfold SubSamp
  rw [if_pos (all_fits (fun y hy => by rw [List.eq_of_mem_replicate hy]; exact h))]
  rfl
theorem samp_plain {n wide : Nat} {xs : List Int} (h : ∀ x ∈ xs, fitsB wide x = true) : SubSamp n wide (.plain xs) xs := by
  unfold SubSamp
  rw [if_pos (all_fits h)]
  rfl

def DoSamp (w : World) (n wide : Nat) (sub : Sub) : Ending → World → Prop := SampPost w n (SubSamp n wide sub)

def SubfPost (w : World) (b : Nat) (s : ByteArray) (σ : Option (List Bool)) (n wide : Nat) (e : Ending) (w' : World) : Prop :=
  ∃ (v : Value) (ok : Bool), e = .returned (.tuple #[v, .bool ok]) ∧ w.grownBy w' (some b) ∧
    ((ok = true ∧ ∃ (xs : List Int) (l' : List Bool), Own w' w.heap.size v xs ∧ xs.length = n ∧ (∀ x ∈ xs, fitsB wide x = true) ∧ Sp w' b s (some l') ∧ Ends (pSubframe n wide) σ xs (some l')) ∨
     (ok = false ∧ ∀ xs, Ends (pSubframe n wide) σ xs none))

/-- behind the less bits -/
def subTail (n wide kind less : Nat) : P (List Int) := fun r2 => if less < wide then (pKind kind n (wide - less) r2).map fun (xs, r3) => (xs.map (· * 2 ^ less), r3) else none

theorem subf_head {n wide kind less : Nat} {xs : List Int} {σ σ1 σ2 σ3 σ4 : Option (List Bool)} (h1 : Ends (pMust 1 0) σ () σ1) (h2 : Ends (pNum 6) σ1 kind σ2) (h3 : Ends pLess σ2 less σ3) (h4 : Ends (subTail n wide kind less) σ3 xs σ4) :
    Ends (pSubframe n wide) σ xs σ4 := by
  refine Ends.bind (p := pMust 1 0) (q := fun _ r => (pNum 6 r).bind fun (kind, r1) => (pLess r1).bind fun (less, r2) => subTail n wide kind less r2) h1 ?_
  refine Ends.bind (p := pNum 6) (q := fun kind r1 => (pLess r1).bind fun (less, r2) => subTail n wide kind less r2) h2 ?_
  exact Ends.bind (p := pLess) (q := fun less r2 => subTail n wide kind less r2) h3 h4

theorem less_zero {c : Nat} {σ σ1 : Option (List Bool)} (h : Ends (pNum 1) σ c σ1) (hc : c ≠ 1) : Ends pLess σ 0 σ1 := by
  refine Ends.bind (p := pNum 1) (q := fun c r => if c = 1 then (pNoughts r).map fun (q, r') => (q + 1, r') else some (0, r)) h ?_
  have e : (fun r => if c = 1 then (pNoughts r).map fun (q, r') => (q + 1, r') else some (0, r)) = fun r => some ((0 : Nat), r) := by funext r; rw [if_neg hc]
  rw [e]
  cases σ1 with
  | none => rfl
  | some l => exact ⟨rfl, rfl⟩

theorem less_more {c q : Nat} {σ σ1 σ2 : Option (List Bool)} (h : Ends (pNum 1) σ c σ1) (hc : c = 1) (h2 : Ends pNoughts σ1 q σ2) : Ends pLess σ (q + 1) σ2 := by
  refine Ends.bind (p := pNum 1) (q := fun c r => if c = 1 then (pNoughts r).map fun (q, r') => (q + 1, r') else some (0, r)) h ?_
  have e : (fun r => if c = 1 then (pNoughts r).map fun (q, r') => (q + 1, r') else some (0, r)) = fun r => (pNoughts r).map fun (q, r') => (q + 1, r') := by funext r; rw [if_pos hc]
  rw [e]
  exact Ends.map (f := fun q => q + 1) h2

theorem tail_big {n wide kind less : Nat} {xs : List Int} {σ : Option (List Bool)} (h : ¬ less < wide) : Ends (subTail n wide kind less) σ xs none :=
  Ends.fail (fun l _ => by unfold subTail; rw [if_neg h])

theorem tail_none {n wide kind less : Nat} {xs : List Int} {σ : Option (List Bool)} (h : less < wide) (h2 : ∀ l, σ = some l → pKind kind n (wide - less) l = none) : Ends (subTail n wide kind less) σ xs none :=
  Ends.fail (fun l e => by unfold subTail; rw [if_pos h, h2 l e]; rfl)

theorem tail_yes {n wide kind less : Nat} {xs : List Int} {l l' : List Bool} (h : less < wide) (h2 : pKind kind n (wide - less) l = some (xs, l')) : Ends (subTail n wide kind less) (some l) (xs.map (· * 2 ^ less)) (some l') :=
  Ends.of (by unfold subTail; rw [if_pos h, h2]; rfl)

theorem kind_of_sub {kind n wide : Nat} {l l' : List Bool} {sub : Sub} {xs : List Int} (h : Ends (pSub kind n wide) (some l) sub (some l')) (hs : SubSamp n wide sub xs) : pKind kind n wide l = if xs.all (fitsB wide) = true then some (xs, l') else none := by
  rw [pKind_sub]
  rcases h.cases with ⟨r, e, e2⟩ | ⟨_, e⟩
  · injection e2 with e2
    subst e2
    rw [e]
    simp only [Option.bind_some]
    rw [hs]
    split <;> rfl
  · cases e

theorem kind_dead {kind n wide : Nat} {l : List Bool} {sub : Sub} (h : Ends (pSub kind n wide) (some l) sub none) : pKind kind n wide l = none := by
  rw [pKind_sub]
  rcases h.cases with ⟨r, _, e⟩ | ⟨e, _⟩
  · cases e
  · rw [e]; rfl

set_option maxHeartbeats 8000000 in
set_option maxRecDepth 20000 in
theorem qsubframe (w : World) (b : Nat) (s : ByteArray) (n wide : Nat) (σ : Option (List Bool)) (hs : s.size ≤ 6000) (hn : n ≤ 256) (hn1 : 1 ≤ n) (hw1 : 1 ≤ wide) (hw : wide ≤ 17) (h : Sp w b s σ) :
    Calls Try.prog 108 #[.pointer (some ⟨b, 0, none⟩), .int .i64 wide, .int .i64 n] w (SubfPost w b s σ n wide) := by
  have hblt := h.lt
  go_enter Try.func108, Try.ntmps108
  go_wp2_with fail
  refine (qnum _ _ _ 1 _ hs (by omega) h).mono ?_
  rintro e w1 ⟨nought, σ1, rfl, hno0, -, hg1, hsp1, hends1⟩
  have hno : nought < 2 := hno0
  clear hno0
  go_wp2_with fail
  refine (qnum _ _ _ 6 _ hs (by omega) hsp1).mono ?_
  rintro e w2 ⟨kind, σ2, rfl, hk0, -, hg2, hsp2, hends2⟩
  have hk : kind < 64 := hk0
  have hgg2 := grown_trans hg1 hg2
  clear hk0 hg1 hg2 hsp1 h
  go_wp2_with fail
  refine (qnum _ _ _ 1 _ hs (by omega) hsp2).mono ?_
  rintro e w3 ⟨c, σ3, rfl, hc0, -, hg3, hsp3, hends3⟩
  have hc : c < 2 := hc0
  have hgg3 := grown_trans hgg2 hg3
  clear hc0 hg3 hgg2 hsp2
  go_upto_if 21 with fail
  go_cut [10] (fun s10 wx => ∃ (less : Nat) (σ4 : Option (List Bool)), s10 = .int .i64 less ∧ less ≤ 48001 ∧ w.grownBy wx (some b) ∧ Sp wx b s σ4 ∧ Ends pLess σ2 less σ4)
  case first =>
    by_cases hc1 : c = 1
    · have t1 : ((c : Int) == 1) = true := by simp; omega
      have HC1 : Hid (c = 1) := hc1
      clear hc1
      go_wp2_with fail
      refine (qzeros _ _ _ _ hs hsp3).mono ?_
      rintro e w4 ⟨q, σ4, rfl, hq, -, hg4, hsp4, hends4⟩
      have hl := less_more hends3 HC1.out hends4
      have hgg4 := grown_trans hgg3 hg4
      clear hends3 hends4
      go_wp2
      go_meet
      case rel => exact ⟨q + 1, σ4, by go_num, by omega, hgg4, hsp4, hl⟩
    · have t1 : ((c : Int) == 1) = false := by simp; omega
      have hl := less_zero hends3 hc1
      clear hc1 hends3
      go_wp2
      go_meet
      case rel => exact ⟨0, σ3, rfl, by omega, hgg3, hsp3, hl⟩
  case rest =>
    obtain ⟨less, σ4, hs10, hless, hgg4, hsp4, hends4⟩ := hcut
    subst hs10
    clear hends3 hsp3 hgg3
    by_cases hok : nought = 0 ∧ less < wide
    rotate_left
    · have hbad : ∀ xs, Ends (pSubframe n wide) σ xs none := by
        intro xs
        by_cases h0 : nought = 0
        · exact subf_head (must_yes hends1 h0) hends2 hends4 (tail_big (fun hh => hok ⟨h0, hh⟩))
        · exact subf_head (kind := 0) (less := 0) (must_no hends1 h0) (σ2 := none) rfl (σ3 := none) rfl Ends.dead
      have hpost : SubfPost w b s σ n wide (.returned (.tuple #[.slice none 0 0, .bool false])) wc := ⟨_, false, rfl, hgg4, .inr ⟨rfl, hbad⟩⟩
      clear hbad hends1 hends2 hends4
      by_cases h0 : nought = 0
      · have d1 : ((nought : Int) != 0) = false := by simp; omega
        have d2 : decide (wide ≤ less) = true := decide_eq_true (by omega)
        clear hok h0
        go_wp2
        exact bodyPost_ret (v := .tuple #[.slice none 0 0, .bool false]) (by simp [results, Try.results108, go_sem]) rfl hpost
      · have d1 : ((nought : Int) != 0) = true := by simp; omega
        clear hok h0
        go_wp2
        exact bodyPost_ret (v := .tuple #[.slice none 0 0, .bool false]) (by simp [results, Try.results108, go_sem]) rfl hpost
    · obtain ⟨h0, hlw⟩ := hok
      have d1 : ((nought : Int) != 0) = false := by simp; omega
      have d2 : decide (wide ≤ less) = false := decide_eq_false (by omega)
      have hhead := fun xs σ5 h5 => subf_head (n := n) (wide := wide) (xs := xs) (σ4 := σ5) (must_yes hends1 h0) hends2 hends4 h5
      have HHEAD : Hid (∀ xs σ5, Ends (subTail n wide kind less) σ4 xs σ5 → Ends (pSubframe n wide) σ xs σ5) := hhead
      have hsub : (wide : Int) - (less : Int) = ((wide - less : Nat) : Int) := by omega
      obtain ⟨W, hW⟩ : ∃ W, wide - less = W := ⟨_, rfl⟩
      have HW : Hid (wide - less = W) := hW
      have hW1 : 1 ≤ W := by omega
      have hW2 : W ≤ 17 := by omega
      rw [hW] at hsub
      have hq := qreadkind wc b s kind W n σ4 hs hn hn1 hk hW1 hW2 hsp4
      clear hhead hends1 hends2 hends4 h0 hW
      go_wp2_with fail
      refine hq.mono ?_
      rintro e w5 ⟨v, ok, rfl, hg5, hcase⟩
      have hgg5 := grown_trans hgg4 hg5
      clear hq
      rcases hcase with ⟨rfl, sub, σ5, hsubv, hsubok, hsp5, hends5⟩ | ⟨rfl, hbad⟩
      · go_wp2_with fail
        refine (qover _ _ _ _ hsp5).mono ?_
        rintro e w6 ⟨rfl, rfl⟩
        rcases σ5 with _ | l5
        · have hb2 : ∀ xs, Ends (pSubframe n wide) σ xs none := fun xs => HHEAD.out xs none (tail_none hlw (fun l e => by
            subst e
            rw [HW.out]
            exact kind_dead hends5))
          have hpost : SubfPost w b s σ n wide (.returned (.tuple #[.slice none 0 0, .bool false])) w6 := ⟨_, false, rfl, hgg5, .inr ⟨rfl, hb2⟩⟩
          clear hb2 hends5 hsubv hsubok
          go_wp2
          exact bodyPost_ret (v := .tuple #[.slice none 0 0, .bool false]) (by simp [results, Try.results108, go_sem]) rfl hpost
        · obtain ⟨l4, rfl⟩ := hends5.alive
          have hwc := hgg4.size
          go_upto_region 11 with fail
          go_cut [13] (fun s13 wx => ∃ xs, Own wx w.heap.size s13 xs ∧ xs.length = n ∧ SubSamp n W sub xs ∧ w.grownBy wx (some b) ∧ Sp wx b s (some l5))
          case first =>
            cases sub with
            | alike x =>
              obtain rfl : v = .iface 157 (.agg #[.int .i64 x]) := hsubv
              have hm := m_alike
              have hq : Calls Try.prog 154 #[.agg #[.int .i64 x], .int .i64 n] w6 (DoSamp w6 n W (.alike x)) := (qalike w6 x n hn hn1).mono (by
                rintro e w7 ⟨v7, xs7, rfl, hown, hg7, hlen, rfl⟩
                exact ⟨v7, _, rfl, hown, hg7, hlen, samp_alike hsubok⟩)
              clear hsubok
              go_wp2_with fail
              refine hq.mono ?_
              rintro e w7 ⟨v7, xs7, rfl, hown, hg7, hlen, hsamp⟩
              have hsp7 := hsp5.kept hg7 (by simp)
              have hgg7 : w.grownBy w7 (some b) := grown_own hgg5 hg7 (fun q e => by cases e)
              have hown7 := hown.mono (show w.heap.size ≤ w6.heap.size from hgg5.size)
              have HL7 : Hid _ := hlen
              clear hown hlen hg7 hq
              go_wp2
              go_meet
              case rel => exact ⟨xs7, hown7, HL7.out, hsamp, hgg7, hsp7⟩
            | plain xs =>
              obtain ⟨g, rfl, hrow⟩ := hsubv
              have hm := m_plain
              have hq : Calls Try.prog 159 #[.agg #[.slice (some ⟨g, 0, none⟩) xs.length xs.length], .int .i64 n] w6 (DoSamp w6 n W (.plain xs)) := (qplain w6 g xs.length xs n rfl (by rw [hsubok.1]; exact hn) hrow.srcs).mono (by
                rintro e w7 ⟨v7, xs7, rfl, hown, hg7, hlen, rfl⟩
                exact ⟨v7, _, rfl, hown, hg7, by rw [hlen]; exact hsubok.1, samp_plain hsubok.2⟩)
              clear hsubok hrow
              go_wp2_with fail
              refine hq.mono ?_
              rintro e w7 ⟨v7, xs7, rfl, hown, hg7, hlen, hsamp⟩
              have hsp7 := hsp5.kept hg7 (by simp)
              have hgg7 : w.grownBy w7 (some b) := grown_own hgg5 hg7 (fun q e => by cases e)
              have hown7 := hown.mono (show w.heap.size ≤ w6.heap.size from hgg5.size)
              have HL7 : Hid _ := hlen
              clear hown hlen hg7 hq
              go_wp2
              go_meet
              case rel => exact ⟨xs7, hown7, HL7.out, hsamp, hgg7, hsp7⟩
            | fixed first res =>
              obtain ⟨g, vr, rfl, hrow, hownr⟩ := hsubv
              have hm := m_fixed
              have hq : Calls Try.prog 161 #[.agg #[.slice (some ⟨g, 0, none⟩) first.length first.length, vr], .int .i64 n] w6 (DoSamp w6 n W (.fixed first res)) := by
                obtain ⟨hf4, hfit, hnl, hab⟩ := hsubok
                refine (qfixed w6 g first.length first.length vr first res n rfl hf4 (by omega) hab hrow.srcs hownr.lo).mono ?_
                rintro e w7 ⟨v7, xs7, rfl, hown, hg7, hlen, htold⟩
                exact ⟨v7, xs7, rfl, hown, hg7, by rw [hlen]; exact hnl, htold.all W hW2 hfit (fixed_abs2 _ hf4).1 (by rw [(fixed_abs2 _ hf4).2]; omega)⟩
              obtain ⟨ar, cr, rfl⟩ := own_slice hownr
              clear hsubok hrow hownr
              go_wp2_with fail
              refine hq.mono ?_
              rintro e w7 ⟨v7, xs7, rfl, hown, hg7, hlen, hsamp⟩
              have hsp7 := hsp5.kept hg7 (by simp)
              have hgg7 : w.grownBy w7 (some b) := grown_own hgg5 hg7 (fun q e => by cases e)
              have hown7 := hown.mono (show w.heap.size ≤ w6.heap.size from hgg5.size)
              have HL7 : Hid _ := hlen
              clear hown hlen hg7 hq
              go_wp2
              go_meet
              case rel => exact ⟨xs7, hown7, HL7.out, hsamp, hgg7, hsp7⟩
            | linear first fs shift res =>
              obtain ⟨g, g2, vr, rfl, hrow, hrow2, hownr⟩ := hsubv
              have hm := m_linear
              have hq : Calls Try.prog 164 #[.agg #[.slice (some ⟨g, 0, none⟩) first.length first.length, .slice (some ⟨g2, 0, none⟩) fs.length fs.length, .int .i64 shift, vr], .int .i64 n] w6 (DoSamp w6 n W (.linear first fs shift res)) := by
                obtain ⟨hf8, hfl, hfit, hfab, hsh, hnl, hab⟩ := hsubok
                refine (qlinear w6 g first.length first.length g2 fs.length fs.length shift vr first fs res n rfl rfl hsh (by omega) (by omega) (by omega) hab hrow.srcs hrow2.srcs hownr.lo).mono ?_
                rintro e w7 ⟨v7, xs7, rfl, hown, hg7, hlen, htold⟩
                exact ⟨v7, xs7, rfl, hown, hg7, by rw [hlen]; exact hnl, htold.all W hW2 hfit hfab (by omega)⟩
              obtain ⟨ar, cr, rfl⟩ := own_slice hownr
              clear hsubok hrow hrow2 hownr
              go_wp2_with fail
              refine hq.mono ?_
              rintro e w7 ⟨v7, xs7, rfl, hown, hg7, hlen, hsamp⟩
              have hsp7 := hsp5.kept hg7 (by simp)
              have hgg7 : w.grownBy w7 (some b) := grown_own hgg5 hg7 (fun q e => by cases e)
              have hown7 := hown.mono (show w.heap.size ≤ w6.heap.size from hgg5.size)
              have HL7 : Hid _ := hlen
              clear hown hlen hg7 hq
              go_wp2
              go_meet
              case rel => exact ⟨xs7, hown7, HL7.out, hsamp, hgg7, hsp7⟩
          case rest =>
            obtain ⟨xs, hown, hxl, hsamp, hgg7, hsp7⟩ := hcut
            obtain ⟨g, cap, rfl, hrow⟩ := hown.full (by omega)
            have hkind := kind_of_sub hends5 hsamp
            have hq := qfit wc (.slice (some ⟨g, 0, none⟩) xs.length cap) xs W hW1 (by omega) (by omega) hrow.lo
            have HXL : Hid (xs.length = n) := hxl
            rw [hxl] at hrow hq ⊢
            clear hends5 hsamp hsubv hsubok hxl hown hsp5 hgg5 hsp4 hgg4 hg5
            go_wp2_with fail
            refine hq.mono ?_
            rintro e w8 ⟨rfl, rfl⟩
            clear hq
            cases hall : xs.all (fitsB W) with
            | false =>
              have hb2 : ∀ ys, Ends (pSubframe n wide) σ ys none := fun ys => HHEAD.out ys none (tail_none hlw (fun l e => by
                injection e with e
                rw [HW.out, ← e, hkind, hall]
                rfl))
              have hpost : SubfPost w b s σ n wide (.returned (.tuple #[.slice none 0 0, .bool false])) w8 := ⟨_, false, rfl, hgg7, .inr ⟨rfl, hb2⟩⟩
              clear hb2 hkind hall
              go_wp2
              exact bodyPost_ret (v := .tuple #[.slice none 0 0, .bool false]) (by simp [results, Try.results108, go_sem]) rfl hpost
            | true =>
              rw [hall, if_pos rfl] at hkind
              have hfin : Ends (pSubframe n wide) σ (xs.map (· * 2 ^ less)) (some l5) := HHEAD.out _ _ (tail_yes hlw (by rw [HW.out]; exact hkind))
              have hfx : ∀ x ∈ xs, fitsB W x = true := List.all_eq_true.1 hall
              have hfd : ∀ y ∈ xs.map (· * 2 ^ less), fitsB wide y = true := by
                intro y hy
                obtain ⟨x, hx, rfl⟩ := List.mem_map.1 hy
                exact fits_double hlw (by rw [HW.out]; exact hfx x hx)
              obtain ⟨A, hA⟩ : ∃ A, xs.map (· * 2 ^ less) = A := ⟨_, rfl⟩
              have hAl : A.length = n := by rw [← hA, List.length_map, HXL.out]
              have hAx : ∀ k, k < n → A.getD k 0 = xs.getD k 0 * 2 ^ less := by
                intro k hk
                have : k < xs.length := by rw [HXL.out]; exact hk
                rw [← hA]
                simp [List.getD, this]
              rw [hA] at hfin hfd
              have HAL : Hid (A.length = n) := hAl
              have HAX : Hid (∀ k, k < n → A.getD k 0 = xs.getD k 0 * 2 ^ less) := hAx
              have HFIN : Hid _ := hfin
              have HFD : Hid (∀ y ∈ A, fitsB wide y = true) := hfd
              clear hA hAl hAx hkind hall hfx hfin hfd
              have hwg : w.heap.size ≤ g := hrow.lt.1
              have hbg : b < g := by omega
              go_wp2_with fail
              go_loopw [59] (fun i wr => ∃ k : Nat, k ≤ n ∧ i = .int .i64 k ∧ Row wr w.heap.size g n cap (part A xs k) ∧ w.grownBy wr (some b) ∧ Sp wr b s (some l5)) (fun i _ => n - (intOf i).toNat)
              case atStart => exact ⟨0, Nat.zero_le _, rfl, by rw [part_zero]; exact hrow, hgg7, hsp7⟩
              case round =>
                obtain ⟨k, hk, rfl, hrowk, hgrk, hspk⟩ := hrel
                clear hrow hgg7 hsp7
                by_cases hlt : k < n
                · have hck := hrowk.cell k hlt
                  have hfk := hrowk.fz k
                  rw [part_get A xs k (by rw [HAL.out]; exact hk)] at hck
                  have hax := HAX.out k hlt
                  have hab := fits_abs wide hw (A.getD k 0) (HFD.out _ (by
                    have h1 : k < A.length := by rw [HAL.out]; exact hlt
                    rw [show A.getD k 0 = A[k] by simp [List.getD, h1]]
                    exact List.getElem_mem h1))
                  rw [hax] at hab
                  obtain ⟨x, hx⟩ : ∃ x, xs.getD k 0 = x := ⟨_, rfl⟩
                  rw [hx] at hck hax hab
                  have hst := grown_set wr g k (.int .i64 (x * 2 ^ less))
                  have hrow2 := hrowk.stored k (x * 2 ^ less)
                  rw [← hax, part_set A xs k (by rw [HAL.out]; exact hlt) (by rw [HXL.out]; exact hlt), hax] at hrow2
                  have hgr2 : w.grownBy (wr.setCell ⟨g, k, none⟩ (.int .i64 (x * 2 ^ less))) (some b) := grown_own hgrk hst (fun q e => by injection e with e; omega)
                  have hsp2 := hspk.kept hst (fun e => by injection e with e; omega)
                  clear hax hx hst hrowk hgrk hspk
                  go_wp2
                  go_roundw
                  case rel => exact ⟨k + 1, by omega, by go_num, hrow2, hgr2, hsp2⟩
                  case measure => simp [intOf]; omega
                · obtain rfl : k = n := by omega
                  rw [part_all A xs k (by rw [HAL.out]; exact Nat.le_refl _) (by rw [HXL.out]; exact Nat.le_refl _)] at hrowk
                  have hown := hrowk.own
                  have hpost : SubfPost w b s σ k wide (.returned (.tuple #[.slice (some ⟨g, 0, none⟩) k cap, .bool true])) wr := ⟨_, true, rfl, hgrk, .inl ⟨rfl, A, l5, hown, HAL.out, HFD.out, hspk, HFIN.out⟩⟩
                  clear hown hrowk hgrk hspk
                  go_wp2
                  exact bodyPost_ret (v := .tuple #[.slice (some ⟨g, 0, none⟩) k cap, .bool true]) (by simp [results, Try.results108, go_sem]) rfl hpost
      · have hb2 : ∀ xs, Ends (pSubframe n wide) σ xs none := fun xs => HHEAD.out xs none (tail_none hlw (fun l e => by
          subst e
          rw [HW.out]
          exact kind_dead (hbad (.alike 0))))
        have hpost : SubfPost w b s σ n wide (.returned (.tuple #[.slice none 0 0, .bool false])) w5 := ⟨_, false, rfl, hgg5, .inr ⟨rfl, hb2⟩⟩
        clear hb2 hbad
        go_wp2
        exact bodyPost_ret (v := .tuple #[.slice none 0 0, .bool false]) (by simp [results, Try.results108, go_sem]) rfl hpost
end Go.Proofs.Ytncmgnmcggkhnaa
