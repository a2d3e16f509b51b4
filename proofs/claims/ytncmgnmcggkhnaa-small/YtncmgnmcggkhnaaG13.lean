import Derived.Test.YtncmgnmcggkhnaaG12
namespace Go.Proofs.Ytncmgnmcggkhnaa
open Go.RowKit

theorem and32 (n : Nat) (hn : n ≤ 256) : bits .and .u64 (n : Int) 4294967295 = (n : Int) := by
  have h1 : (BitVec.ofInt 64 (n : Int)).toNat = n := by
    rw [BitVec.ofInt_natCast, BitVec.toNat_ofNat]; exact Nat.mod_eq_of_lt (by omega)
  have h2 : (BitVec.ofInt 64 (4294967295 : Int)).toNat = 4294967295 := by decide
  show IntKind.u64.wrap ((BitVec.ofInt 64 (n : Int) &&& BitVec.ofInt 64 (4294967295 : Int)).toNat : Int) = _
  have h3 : n &&& 4294967295 = n := by
    have := Nat.and_two_pow_sub_one_eq_mod n 32
    rw [show (4294967295 : Nat) = 2 ^ 32 - 1 by decide, this]
    exact Nat.mod_eq_of_lt (by omega)
  rw [BitVec.toNat_and, h1, h2, h3, IntKind.wrap_u64]
  omega

set_option maxHeartbeats 1000000 in
set_option maxRecDepth 20000 in
theorem qmul64 (w : World) (n : Nat) (hn : n ≤ 256) :
    Calls Try.prog 158 #[.int .u64 1, .int .u64 n] w fun e w' => e = .returned (.tuple #[.int .u64 0, .int .u64 n]) ∧ w' = w := by
  have ha := and32 n hn
  have ha1 : bits .and .u64 1 4294967295 = 1 := and32 1 (by omega)
  have ha0 : bits .and .u64 0 4294967295 = 0 := and32 0 (by omega)
  have hd : (n : Int) / 4294967296 = 0 := by omega
  have hwn : IntKind.u64.wrap (n : Int) = (n : Int) := by rw [IntKind.wrap_u64]; omega
  go_enter Try.func158, Try.ntmps158
  go_wp2
  exact bodyPost_ret (v := .tuple #[.int .u64 0, .int .u64 n]) (by simp [results, Try.results158, go_sem]) rfl ⟨rfl, rfl⟩

set_option maxHeartbeats 1000000 in
set_option maxRecDepth 20000 in
theorem qmul (w : World) (n : Nat) (hn : n ≤ 256) :
    Calls Try.prog 156 #[.int .u64 1, .int .u64 n] w fun e w' => e = .returned (.tuple #[.int .u64 0, .int .u64 n]) ∧ w' = w := by
  go_enter Try.func156, Try.ntmps156
  go_wp2_with fail
  refine (qmul64 w n hn).mono ?_
  rintro e w' ⟨rfl, rfl⟩
  go_wp2
  exact bodyPost_ret (v := .tuple #[.int .u64 0, .int .u64 n]) (by simp [results, Try.results156, go_sem]) rfl ⟨rfl, rfl⟩

def rep (n m : Nat) (x : Int) : List Value := List.replicate m (Value.int .i64 x) ++ List.replicate (n - m) (Value.int .i64 0)

theorem rep_len (n m : Nat) (x : Int) (h : m ≤ n) : (rep n m x).length = n := by simp [rep]; omega

theorem rep_splice (n m c : Nat) (x : Int) (h : m + c ≤ n) : splice (rep n m x) m (List.replicate c (Value.int .i64 x)) = rep n (m + c) x := by
  unfold splice rep
  rw [List.take_left' (by simp), List.drop_append, List.length_replicate, List.length_replicate, List.drop_of_length_le (by simp), List.nil_append, List.drop_replicate, ← List.append_assoc, List.replicate_append_replicate]
  congr 2
  omega

theorem rep_get (n m : Nat) (x : Int) (j : Nat) (hj : j < m) : (rep n m x)[j]? = some (Value.int .i64 x) := by
  unfold rep
  rw [List.getElem?_append_left (by simpa using hj), List.getElem?_replicate, if_pos hj]

set_option maxHeartbeats 2000000 in
set_option maxRecDepth 20000 in
theorem qrepeat (w : World) (g0 c0 n : Nat) (x : Int) (hn : n ≤ 256) (hn1 : 1 ≤ n) (h : Srcs w g0 [x]) :
    Calls Try.prog 155 #[.slice (some ⟨g0, 0, none⟩) 1 c0, .int .i64 n] w (SampPost w n fun ys => ys = List.replicate n x) := by
  obtain ⟨i0, hi, hz0, hz1, hz2⟩ := info_parts Try.info3
  go_enter Try.func155, Try.ntmps155
  go_wp2_with fail
  refine (qmul w n hn).mono ?_
  rintro e w1 ⟨rfl, rfl⟩
  have tlo : decide ((9223372036854775807 : Int) < (n : Int)) = false := decide_eq_false (by omega)
  go_wp2_with (first
    | (at_make; refine wpList_make_full _ rfl _ _ 30 rfl w1.heap.size 3 i0 (.int .i64 0) 1 Try.underlying30 hi hz0 hz1 _ _ _ _ n rfl rfl rfl rfl ?m1 ?m2 ?m3 ?_))
  case m1 => rw [hz2]; omega
  case m2 => unfold maxLen; omega
  case m3 => exact Nat.le_refl _
  intro w2 hmade hg2
  obtain ⟨cur, _, hblk, _, _, hcs, htake⟩ := (made_row hmade).block
  have hcur : cur = (rep n 0 x).toArray := by
    apply Array.ext'
    rw [← List.take_of_length_le (show cur.toList.length ≤ n by simp [hcs]), htake]
    simp [rep, fill]
  rw [hcur] at hblk
  obtain ⟨gN, hgN⟩ : ∃ gN, w1.heap.size = gN := ⟨_, rfl⟩
  rw [hgN] at hblk
  have hsz : (Try.prog.info? 3).map (·.size) = some 1 := by rw [hi]; simp [hz1]
  have HB0 : Hid (Below gN w1 w2) := ⟨hg2.os, hg2.tape, hg2.output, hg2.size, fun k hk => hg2.block k (by omega) (by simp)⟩
  have hsrc2 := h.kept hg2 (by simp)
  have HSRC : Hid (∀ j v, [Value.int .i64 x][j]? = some v → w2.cell? ((⟨g0, 0, none⟩ : Addr).add j) = some v) := hsrc2.news
  have HBLK : Hid (w2.heap[gN]? = some (.cells (rep n 0 x).toArray 3 (0, 0))) := hblk
  have HSZ : Hid ((Try.prog.info? 3).map (·.size) = some 1) := hsz
  have HGN : Hid (w1.heap.size = gN) := hgN
  clear hmade hg2 hblk htake hcs hcur hsrc2 hi hz0 hz1 hz2 hsz
  rw [hgN]
  clear hgN
  have hmin : Nat.min 1 n = 1 := Nat.min_eq_left hn1
  go_upto_region 7 with fail
  go_wp2_with (first
    | (refine wpList_copy_splice rfl _ _ 30 30 rfl 3 Try.underlying30 HSZ.out (some ⟨gN, 0, none⟩) (some ⟨g0, 0, none⟩) n n 1 c0 rfl rfl gN 0 (rep n 0 x) 3 HBLK.out [.int .i64 x] ?c1 ?c2 ?c3 ?c4 gN w1 HB0.out (Nat.le_refl _) ?_))
  case c1 => rw [hmin]; rfl
  case c2 =>
    intro j v hj
    have := HSRC.out j v hj
    rwa [addr_add] at this
  case c3 => rw [rep_len _ _ _ (by omega)]; simp; omega
  case c4 => exact one_cell _
  intro w3 HG3 hB3
  have hG3 : w3.heap[gN]? = some (.cells (rep n 1 x).toArray 3 (0, 0)) := by
    rw [HG3.out, show ([Value.int .i64 x] : List Value) = List.replicate 1 (Value.int .i64 x) by rfl, rep_splice n 0 1 x (by omega)]
  clear HG3 HBLK HB0 HSRC
  go_wp2_with fail
  go_loopg [8] (n - 1) (fun gk i wr => ∃ m : Nat, gk + m = n ∧ 1 ≤ m ∧ i = .int .i64 m ∧ Hid (Below gN w1 wr) ∧ Hid (wr.heap[gN]? = some (.cells (rep n m x).toArray 3 (0, 0))))
  case atStart => exact ⟨1, by omega, by omega, rfl, hB3, hG3⟩
  case round =>
    obtain ⟨m, hgk, hm1, rfl, HB, HG⟩ := hrel
    clear hG3 hB3
    by_cases hlt : m < n
    · obtain ⟨c, hc⟩ : ∃ c, Nat.min m (n - m) = c := ⟨_, rfl⟩
      have hc1 : 1 ≤ c := by rw [← hc]; exact Nat.le_min.2 ⟨hm1, by omega⟩
      have hc4 : c ≤ n - m := by rw [← hc]; exact Nat.min_le_right _ _
      have hc2 : m + c ≤ n := by omega
      have hc3 : c ≤ m := by rw [← hc]; exact Nat.min_le_left _ _
      have hle : m ≤ n := by omega
      have hne : ¬ n = m := by omega
      have HBD : Hid (Below gN w1 wr.drew) := ⟨HB.out.os, HB.out.tape, HB.out.output, HB.out.size, HB.out.block⟩
      have HLN : Hid ((List.replicate c (Value.int .i64 x)).length = Nat.min m (n - m)) := by show _ = _; rw [List.length_replicate, hc]
      have HPOS : Hid (∀ j v, (List.replicate c (Value.int .i64 x))[j]? = some v → wr.drew.cell? ((⟨gN, 0, none⟩ : Addr).add j) = some v) := by
        intro j v hj
        have hjc : j < c := by
          rcases Nat.lt_or_ge j c with h1 | h1
          · exact h1
          · rw [List.getElem?_eq_none (by simpa using h1)] at hj; cases hj
        rw [List.getElem?_replicate, if_pos hjc] at hj
        rw [addr_add]
        show wr.cell? _ = _
        simp only [World.cell?, HG.out]
        rw [← hj]
        simpa using rep_get n m x j (by omega)
      have HFIT : Hid (m + (List.replicate c (Value.int .i64 x)).length ≤ (rep n m x).length) := by show _ ≤ _; rw [List.length_replicate, rep_len _ _ _ hle]; exact hc2
      have HONE : Hid (∀ v ∈ List.replicate c (Value.int .i64 x), v.oneCell' = true) := by
        intro v hv
        rw [List.eq_of_mem_replicate hv]
        rfl
      have hwr : IntKind.i64.wrap ((m : Int) + (c : Int)) = (m : Int) + (c : Int) := by rw [IntKind.wrap_i64]; omega
      have HWR : Hid (IntKind.i64.wrap ((m : Int) + (c : Int)) = (m : Int) + (c : Int)) := hwr
      go_upto_region 9 with fail
      go_region_law ((refine step_copy_splice rfl (.tmp 41) (.tmp 44) 30 30 rfl 3 Try.underlying30 HSZ.out (some ⟨gN, m, none⟩) (some ⟨gN, 0, none⟩) (n - m) (n - m) m n (by simp [Act.eval, Act.put]) (by simp [Act.eval, Act.put]) gN m (rep n m x) 3 HG.out (List.replicate c (.int .i64 x)) HLN.out (fun _ => ⟨rfl, _, rfl, HPOS.out⟩) HFIT.out HONE.out gN w1 HBD.out (Nat.le_refl _) ?_; intro w4 HG4 hB4; rw [List.length_replicate]))
      all_goals
        have hG4 : w4.heap[gN]? = some (.cells (rep n (m + c) x).toArray 3 (0, 0)) := by rw [HG4.out, rep_splice n m c x hc2]
        have HG5 : Hid _ := hG4
        have HB5 : Hid _ := hB4
        clear hG4 HG4 hB4 HPOS HFIT HONE HLN hc HBD HB HG
        go_wp2
        go_roundg (gk - c)
        case measure => omega
        case rel => exact ⟨m + c, by omega, by omega, by first | go_num | (show Value.int .i64 (IntKind.i64.wrap ((m : Int) + (c : Int))) = _; rw [HWR.out]; rfl), HB5, HG5⟩
    · obtain rfl : m = n := by omega
      have hown : Own wr w1.heap.size (.slice (some ⟨gN, 0, none⟩) m m) (List.replicate m x) := by
        refine ⟨by simp, .inr ⟨gN, m, (rep m m x).toArray, by simp, by rw [HGN.out]; exact Nat.le_refl _, HG.out, by simp, by unfold maxLen; omega, by simp [rep], by simp [rep]⟩⟩
      have hgr : w1.grownBy wr none := ⟨HB.out.os, HB.out.tape, HB.out.output, HB.out.size, fun k hk _ => HB.out.block k (by rw [← HGN.out]; exact hk)⟩
      go_wp2
      go_ret
      exact ⟨_, List.replicate m x, rfl, hown, hgr, by simp, rfl⟩
end Go.Proofs.Ytncmgnmcggkhnaa

namespace Go.Proofs.Ytncmgnmcggkhnaa
open Go.RowKit

set_option maxHeartbeats 8000000 in
set_option maxRecDepth 20000 in
theorem qfixed (w : World) (g1 o c1 : Nat) (vr : Value) (first res : List Int) (m : Int) (h1 : first.length = o) (ho : o ≤ 4) (hrl : res.length ≤ 256) (hab : Abs 2147483648 res) (hfirst : Srcs w g1 first) (hres : Lo w vr res) :
    Calls Try.prog 161 #[.agg #[.slice (some ⟨g1, 0, none⟩) o c1, vr], .int .i64 m] w (SampPost w (first.length + res.length) fun xs => Told first res (fixedFactors o) 0 res.length xs) := by
  obtain ⟨ar, cr, rfl⟩ := hres.slice
  obtain ⟨wa, hwa⟩ : ∃ wa, w.alloc (.cells #[Value.slice (some ⟨g1, 0, none⟩) o c1, .slice ar res.length cr] 164) = wa := ⟨_, rfl⟩
  have hga : w.grownBy wa none := by rw [← hwa]; exact grown_alloc (grown_refl _ _) _
  have hbox : Box wa w.heap.size #[Value.slice (some ⟨g1, 0, none⟩) o c1, .slice ar res.length cr] 164 := by rw [← hwa]; exact Box.new _ _ _
  have k0 : wa.cell? ⟨w.heap.size, 0, none⟩ = some (.slice (some ⟨g1, 0, none⟩) o c1) := hbox.cell 0
  have k1 : wa.cell? ⟨w.heap.size, 1, none⟩ = some (.slice ar res.length cr) := hbox.cell 1
  have K0 : Hid (wa.cell? ⟨w.heap.size, 0, none⟩ = some (.slice (some ⟨g1, 0, none⟩) o c1)) := k0
  have K1 : Hid (wa.cell? ⟨w.heap.size, 1, none⟩ = some (.slice ar res.length cr)) := k1
  have hgd : w.grownBy wa.drew none := grown_drew hga
  have hfirst1 := hfirst.kept hgd (by simp)
  have hres1 := hres.kept hgd
  have hfl := (fixed_abs2 o ho).2
  have HFL : Hid ((fixedFactors o).length = o) := hfl
  have H1 : Hid (first.length = o) := h1
  have hle : first.length ≤ 256 := by omega
  have HWA : Hid _ := hwa
  have HT : ∀ w1 vf, wa.drew.grownBy w1 none → Lo w1 vf (fixedFactors o) → Calls Try.prog 162 #[.slice (some ⟨g1, 0, none⟩) o c1, .slice ar res.length cr, vf, .int .i64 0] w1 (ForePost w1 first res (fixedFactors o) 0) := fun w1 vf hg1 hlo =>
    qtold _ g1 o c1 _ _ first res (fixedFactors o) 0 (by omega) H1.out (by rw [HFL.out, H1.out]; exact Nat.le_refl _) hle hrl hab (hfirst1.kept hg1 (by simp)) (hres1.kept hg1) hlo
  have HQ := fun w => qfactors w o ho
  clear h1 hfl hbox hwa hfirst1 hres1 hab hfirst hres hle hrl hga H1 HFL
  go_enter Try.func161, Try.ntmps161
  go_upto_region 1 with fail
  rw [HWA.out]
  clear HWA
  go_region_with (first
    | (go_at_call 128; refine (HQ _).mono ?_; rintro e w1 ⟨vf, rfl, hlo, hg1⟩; have j0 := hg1.cell K0.out (by simp); have j1 := hg1.cell K1.out (by simp))
    | (go_at_call 162; refine (HT _ _ hg1 hlo).mono ?_; rintro e w2 ⟨v, xs, rfl, hown, hg2, hlen, htold⟩; have hfin := (⟨v, xs, rfl, hown.mono (Nat.le_trans hgd.size hg1.size), grown_trans (grown_trans hgd hg1) hg2, hlen, htold⟩ : SampPost w (first.length + res.length) (fun xs => Told first res (fixedFactors o) 0 res.length xs) (.returned v) w2); clear hown hg2 hlen htold hg1 hlo j0 j1))
  all_goals
    go_wp2
    go_ret
    exact hfin
end Go.Proofs.Ytncmgnmcggkhnaa

namespace Go.Proofs.Ytncmgnmcggkhnaa
open Go.RowKit

/-- what a subframe holds -/
abbrev Sub : Type := Int ⊕ List Int ⊕ (List Int × List Int) ⊕ (List Int × List Int × Nat × List Int)
abbrev Sub.alike (x : Int) : Sub := Sum.inl x
abbrev Sub.plain (xs : List Int) : Sub := Sum.inr (Sum.inl xs)
abbrev Sub.fixed (first res : List Int) : Sub := Sum.inr (Sum.inr (Sum.inl (first, res)))
abbrev Sub.linear (first fs : List Int) (shift : Nat) (res : List Int) : Sub := Sum.inr (Sum.inr (Sum.inr (first, fs, shift, res)))

theorem Sub.each {motive : Sub → Prop} (alike : ∀ x, motive (.alike x)) (plain : ∀ l, motive (.plain l)) (fixed : ∀ f r, motive (.fixed f r)) (linear : ∀ f g s r, motive (.linear f g s r)) : ∀ t : Sub, motive t
  | .inl x => alike x
  | .inr (.inl l) => plain l
  | .inr (.inr (.inl (f, r))) => fixed f r
  | .inr (.inr (.inr (f, g, s, r))) => linear f g s r

def pSubFixed (n wide order : Nat) : P Sub := fun l =>
  if order ≤ n then (pList (pSigned wide) order l).bind fun (first, r) => (pResidue n order r).map fun (res, r') => (.fixed first res, r') else none

def pSubLin (n wide order : Nat) : P Sub := fun l =>
  if order ≤ n then
    (pList (pSigned wide) order l).bind fun (first, r) => (pNum 4 r).bind fun (fb, r1) => (pSigned 5 r1).bind fun (shift, r2) =>
      if fb = 15 ∨ shift < 0 then none
      else (pList (pSigned (fb + 1)) order r2).bind fun (fs, r3) => (pResidue n order r3).map fun (res, r4) => (.linear first fs shift.toNat res, r4)
  else none

def pSub (kind n wide : Nat) : P Sub := fun l =>
  if kind = 0 then (pSigned wide l).map fun (x, r) => (.alike x, r)
  else if kind = 1 then (pList (pSigned wide) n l).map fun (xs, r) => (.plain xs, r)
  else if 8 ≤ kind ∧ kind ≤ 12 then pSubFixed n wide (kind - 8) l
  else if 32 ≤ kind ∧ kind ≤ 39 then pSubLin n wide (kind - 31) l
  else none

def samplesOf (n wide : Nat) : Sub → Option (List Int)
  | .inl x => some (List.replicate n x)
  | .inr (.inl xs) => some xs
  | .inr (.inr (.inl (first, res))) => predict wide (fixedFactors first.length) 0 first.reverse res
  | .inr (.inr (.inr (first, fs, shift, res))) => predict wide fs shift first.reverse res

theorem pFixed_sub (n wide order : Nat) (l : List Bool) : pFixed n wide order l = (pSubFixed n wide order l).bind fun (sub, r) => (samplesOf n wide sub).map fun xs => (xs, r) := by
  unfold pFixed pSubFixed
  split
  · cases e1 : pList (pSigned wide) order l with
    | none => rfl
    | some x =>
      obtain ⟨first, r⟩ := x
      have hl := pList_length _ _ _ _ _ e1
      simp only [Option.bind_some]
      unfold pForetold
      rw [hl]
      cases e2 : pResidue n order r with
      | none => rfl
      | some y =>
        obtain ⟨res, r2⟩ := y
        simp only [Option.bind_some, Option.map_some, samplesOf, hl]
  · rfl

theorem pLinear_sub (n wide order : Nat) (l : List Bool) : pLinear n wide order l = (pSubLin n wide order l).bind fun (sub, r) => (samplesOf n wide sub).map fun xs => (xs, r) := by
  unfold pLinear pSubLin
  split
  · cases e1 : pList (pSigned wide) order l with
    | none => rfl
    | some x =>
      obtain ⟨first, r⟩ := x
      have hl := pList_length _ _ _ _ _ e1
      simp only [Option.bind_some]
      cases e2 : pNum 4 r with
      | none => rfl
      | some y =>
        obtain ⟨fb, r1⟩ := y
        simp only [Option.bind_some]
        cases e3 : pSigned 5 r1 with
        | none => rfl
        | some z =>
          obtain ⟨shift, r2⟩ := z
          simp only [Option.bind_some]
          split
          · rfl
          · cases e4 : pList (pSigned (fb + 1)) order r2 with
            | none => rfl
            | some u =>
              obtain ⟨fs, r3⟩ := u
              simp only [Option.bind_some]
              unfold pForetold
              rw [hl]
              cases e5 : pResidue n order r3 with
              | none => rfl
              | some y =>
                obtain ⟨res, r4⟩ := y
                simp only [Option.bind_some, Option.map_some, samplesOf]
  · rfl

theorem pKind_sub (kind n wide : Nat) (l : List Bool) : pKind kind n wide l = (pSub kind n wide l).bind fun (sub, r) => (samplesOf n wide sub).map fun xs => (xs, r) := by
  unfold pKind pSub
  split
  · cases pSigned wide l <;> rfl
  · split
    · cases pList (pSigned wide) n l <;> rfl
    · split
      · exact pFixed_sub _ _ _ _
      · split
        · exact pLinear_sub _ _ _ _
        · rfl

/-- a subframe in memory -/
def SubV (w : World) (base : Nat) (v : Value) : Sub → Prop
  | .inl x => v = .iface 157 (.agg #[.int .i64 x])
  | .inr (.inl xs) => ∃ g, v = .iface 161 (.agg #[.slice (some ⟨g, 0, none⟩) xs.length xs.length]) ∧ Row w base g xs.length xs.length xs
  | .inr (.inr (.inl (first, res))) => ∃ g vr, v = .iface 164 (.agg #[.slice (some ⟨g, 0, none⟩) first.length first.length, vr]) ∧ Row w base g first.length first.length first ∧ Own w base vr res
  | .inr (.inr (.inr (first, fs, shift, res))) => ∃ g g2 vr, v = .iface 185 (.agg #[.slice (some ⟨g, 0, none⟩) first.length first.length, .slice (some ⟨g2, 0, none⟩) fs.length fs.length, .int .i64 shift, vr]) ∧
      Row w base g first.length first.length first ∧ Row w base g2 fs.length fs.length fs ∧ Own w base vr res

/-- what its numbers keep to -/
def SubOk (n wide : Nat) : Sub → Prop
  | .inl x => fitsB wide x = true
  | .inr (.inl xs) => xs.length = n ∧ ∀ x ∈ xs, fitsB wide x = true
  | .inr (.inr (.inl (first, res))) => first.length ≤ 4 ∧ (∀ x ∈ first, fitsB wide x = true) ∧ first.length + res.length = n ∧ Abs 2147483648 res
  | .inr (.inr (.inr (first, fs, shift, res))) => first.length ≤ 8 ∧ fs.length = first.length ∧ (∀ x ∈ first, fitsB wide x = true) ∧ Abs 32768 fs ∧ shift ≤ 31 ∧ first.length + res.length = n ∧ Abs 2147483648 res

def KindPost (w : World) (b : Nat) (s : ByteArray) (σ : Option (List Bool)) (n wide : Nat) (p : P Sub) (e : Ending) (w' : World) : Prop :=
  ∃ (v : Value) (ok : Bool), e = .returned (.tuple #[v, .bool ok]) ∧ w.grownBy w' (some b) ∧
    ((ok = true ∧ ∃ (sub : Sub) (σ' : Option (List Bool)), SubV w' w.heap.size v sub ∧ SubOk n wide sub ∧ Sp w' b s σ' ∧ Ends p σ sub σ') ∨ (ok = false ∧ ∀ sub, Ends p σ sub none))

theorem Signs.fits {wide : Nat} {xs : List Int} (h : Signs wide xs) (hw : 1 ≤ wide) : ∀ x ∈ xs, fitsB wide x = true := by
  intro x hx
  obtain ⟨v, hv, rfl⟩ := h x hx
  exact sign_fits wide v hw hv

theorem fixed_yes {n wide order : Nat} {first res : List Int} {σ σ1 σ2 : Option (List Bool)} (ho : order ≤ n) (h1 : Ends (pList (pSigned wide) order) σ first σ1) (h2 : Ends (pResidue n order) σ1 res σ2) : Ends (pSubFixed n wide order) σ (.fixed first res) σ2 := by
  have e : pSubFixed n wide order = fun l => (pList (pSigned wide) order l).bind fun (first, r) => (pResidue n order r).map fun (res, r') => (Sub.fixed first res, r') := by
    funext l; unfold pSubFixed; rw [if_pos ho]
  rw [e]
  exact Ends.bind (p := pList (pSigned wide) order) (q := fun first r => (pResidue n order r).map fun (res, r') => (Sub.fixed first res, r')) h1 (Ends.map (f := fun res => Sub.fixed first res) h2)

theorem fixed_no {n wide order : Nat} {first : List Int} {sub : Sub} {σ σ1 : Option (List Bool)} (ho : order ≤ n) (h1 : Ends (pList (pSigned wide) order) σ first σ1) (h2 : ∀ res, Ends (pResidue n order) σ1 res none) : Ends (pSubFixed n wide order) σ sub none :=
  (fixed_yes ho h1 (h2 [])).dead_any sub

theorem fixed_big {n wide order : Nat} {sub : Sub} {σ : Option (List Bool)} (ho : ¬ order ≤ n) : Ends (pSubFixed n wide order) σ sub none :=
  Ends.fail (fun l _ => by unfold pSubFixed; rw [if_neg ho])

set_option maxHeartbeats 1000000 in
set_option maxRecDepth 20000 in
theorem qreadfixed (w : World) (b : Nat) (s : ByteArray) (order wide n : Nat) (σ : Option (List Bool)) (hs : s.size ≤ 6000) (hn : n ≤ 256) (hn1 : 1 ≤ n) (ho4 : order ≤ 4) (hw1 : 1 ≤ wide) (hw : wide ≤ 17) (h : Sp w b s σ) :
    Calls Try.prog 132 #[.pointer (some ⟨b, 0, none⟩), .int .i64 order, .int .i64 wide, .int .i64 n] w (KindPost w b s σ n wide (pSubFixed n wide order)) := by
  have hblt := h.lt
  by_cases ho : order ≤ n
  rotate_left
  · have t0 : decide (n < order) = true := decide_eq_true (by omega)
    have HB : Hid (∀ sub, Ends (pSubFixed n wide order) σ sub none) := fun sub => fixed_big ho
    clear ho
    go_enter Try.func132, Try.ntmps132
    go_wp2
    exact bodyPost_ret (v := .tuple #[.nilIface, .bool false]) (by simp [results, Try.results132, go_sem]) rfl ⟨_, false, rfl, grown_refl _ _, .inr ⟨rfl, HB.out⟩⟩
  have t0 : decide (n < order) = false := decide_eq_false (by omega)
  go_enter Try.func132, Try.ntmps132
  go_wp2_with fail
  refine (qlist _ _ _ order wide _ hs (by omega) (by omega) h).mono ?_
  rintro e w1 ⟨g, first, σ1, rfl, hrow, hsg, hg1, hsp1, hends1⟩
  have hlen := hrow.len
  go_wp2_with fail
  refine (qresidue _ _ _ n order _ hs hn hn1 ho hsp1).mono ?_
  rintro e w2 ⟨vr, ok, rfl, hg2, hcase⟩
  have hgg := grown_trans hg1 hg2
  have hrow2 := hrow.kept hg2 (fun e => by injection e with e; have := hrow.lt; omega)
  have hfit := hsg.fits hw1
  rcases hcase with ⟨rfl, res, σ2, hown, hrl, hab, hsp2, hends2⟩ | ⟨rfl, rfl, hbad⟩
  · obtain ⟨ar, cr, rfl⟩ := own_slice hown
    have hown2 := hown.mono hg1.size
    have hends := fixed_yes ho hends1 hends2
    have hpost : KindPost w b s σ n wide (pSubFixed n wide order) (.returned (.tuple #[.iface 164 (.agg #[.slice (some ⟨g, 0, none⟩) order order, .slice ar res.length cr]), .bool true])) w2 :=
      ⟨_, true, rfl, hgg, .inl ⟨rfl, .fixed first res, σ2, ⟨g, _, by rw [hlen], by rw [hlen]; exact hrow2, hown2⟩, ⟨by omega, hfit, by omega, hab⟩, hsp2, hends⟩⟩
    clear hends1 hends2 hends hrow hrow2 hown hown2 hsp1 hsp2 hlen hrl hg1 hg2 hgg
    go_wp2
    exact bodyPost_ret (v := .tuple #[.iface 164 (.agg #[.slice (some ⟨g, 0, none⟩) order order, .slice ar res.length cr]), .bool true]) (by simp [results, Try.results132, go_sem]) rfl hpost
  · have hends : ∀ sub, Ends (pSubFixed n wide order) σ sub none := fun sub => fixed_no ho hends1 hbad
    clear hends1 hbad hrow hrow2 hsp1 hlen hg1 hg2
    go_wp2
    exact bodyPost_ret (v := .tuple #[.iface 164 (.agg #[.slice (some ⟨g, 0, none⟩) order order, .slice none 0 0]), .bool false]) (by simp [results, Try.results132, go_sem]) rfl ⟨_, false, rfl, hgg, .inr ⟨rfl, hends⟩⟩
end Go.Proofs.Ytncmgnmcggkhnaa

namespace Go.Proofs.Ytncmgnmcggkhnaa
open Go.RowKit

/-- behind the first samples: how many bits a factor has, the shift -/
def linTail (n order : Nat) (first : List Int) : P Sub := fun r => (pNum 4 r).bind fun (fb, r1) => (pSigned 5 r1).bind fun (shift, r2) =>
  if fb = 15 ∨ shift < 0 then none
  else (pList (pSigned (fb + 1)) order r2).bind fun (fs, r3) => (pResidue n order r3).map fun (res, r4) => (Sub.linear first fs shift.toNat res, r4)

theorem lin_head {n wide order : Nat} {first : List Int} {sub : Sub} {σ σ1 σ2 : Option (List Bool)} (ho : order ≤ n) (h1 : Ends (pList (pSigned wide) order) σ first σ1) (h2 : Ends (linTail n order first) σ1 sub σ2) : Ends (pSubLin n wide order) σ sub σ2 := by
  have e : pSubLin n wide order = fun l => (pList (pSigned wide) order l).bind fun (first, r) => linTail n order first r := by
    funext l; unfold pSubLin linTail; rw [if_pos ho]
  rw [e]
  exact Ends.bind (p := pList (pSigned wide) order) (q := fun first r => linTail n order first r) h1 h2

theorem lin_big {n wide order : Nat} {sub : Sub} {σ : Option (List Bool)} (ho : ¬ order ≤ n) : Ends (pSubLin n wide order) σ sub none :=
  Ends.fail (fun l _ => by unfold pSubLin; rw [if_neg ho])

theorem lin_no {n order fb : Nat} {shift : Int} {first : List Int} {sub : Sub} {σ1 σ2 σ3 : Option (List Bool)} (h2 : Ends (pNum 4) σ1 fb σ2) (h3 : Ends (pSigned 5) σ2 shift σ3) (hc : fb = 15 ∨ shift < 0) : Ends (linTail n order first) σ1 sub none := by
  unfold linTail
  refine Ends.bind (p := pNum 4) (q := fun fb r1 => (pSigned 5 r1).bind fun (shift, r2) => if fb = 15 ∨ shift < 0 then none else (pList (pSigned (fb + 1)) order r2).bind fun (fs, r3) => (pResidue n order r3).map fun (res, r4) => (Sub.linear first fs shift.toNat res, r4)) h2 ?_
  refine Ends.bind (p := pSigned 5) (q := fun shift r2 => if fb = 15 ∨ shift < 0 then none else (pList (pSigned (fb + 1)) order r2).bind fun (fs, r3) => (pResidue n order r3).map fun (res, r4) => (Sub.linear first fs shift.toNat res, r4)) h3 ?_
  exact Ends.fail (fun l _ => if_pos hc)

theorem lin_yes {n order fb : Nat} {shift : Int} {first fs res : List Int} {σ1 σ2 σ3 σ4 σ5 : Option (List Bool)} (h2 : Ends (pNum 4) σ1 fb σ2) (h3 : Ends (pSigned 5) σ2 shift σ3) (hc : ¬ (fb = 15 ∨ shift < 0)) (h4 : Ends (pList (pSigned (fb + 1)) order) σ3 fs σ4)
    (h5 : Ends (pResidue n order) σ4 res σ5) : Ends (linTail n order first) σ1 (.linear first fs shift.toNat res) σ5 := by
  unfold linTail
  refine Ends.bind (p := pNum 4) (q := fun fb r1 => (pSigned 5 r1).bind fun (shift, r2) => if fb = 15 ∨ shift < 0 then none else (pList (pSigned (fb + 1)) order r2).bind fun (fs, r3) => (pResidue n order r3).map fun (res, r4) => (Sub.linear first fs shift.toNat res, r4)) h2 ?_
  refine Ends.bind (p := pSigned 5) (q := fun shift r2 => if fb = 15 ∨ shift < 0 then none else (pList (pSigned (fb + 1)) order r2).bind fun (fs, r3) => (pResidue n order r3).map fun (res, r4) => (Sub.linear first fs shift.toNat res, r4)) h3 ?_
  have e : (fun r2 => if fb = 15 ∨ shift < 0 then none else (pList (pSigned (fb + 1)) order r2).bind fun (fs, r3) => (pResidue n order r3).map fun (res, r4) => (Sub.linear first fs shift.toNat res, r4)) = fun r2 => (pList (pSigned (fb + 1)) order r2).bind fun (fs, r3) => (pResidue n order r3).map fun (res, r4) => (Sub.linear first fs shift.toNat res, r4) := by
    funext r; rw [if_neg hc]
  rw [e]
  exact Ends.bind (p := pList (pSigned (fb + 1)) order) (q := fun fs r3 => (pResidue n order r3).map fun (res, r4) => (Sub.linear first fs shift.toNat res, r4)) h4 (Ends.map (f := fun res => Sub.linear first fs shift.toNat res) h5)

set_option maxHeartbeats 1000000 in
set_option maxRecDepth 20000 in
theorem qreadlinear (w : World) (b : Nat) (s : ByteArray) (order wide n : Nat) (σ : Option (List Bool)) (hs : s.size ≤ 6000) (hn : n ≤ 256) (hn1 : 1 ≤ n) (ho8 : order ≤ 8) (hw1 : 1 ≤ wide) (hw : wide ≤ 17) (h : Sp w b s σ) :
    Calls Try.prog 133 #[.pointer (some ⟨b, 0, none⟩), .int .i64 order, .int .i64 wide, .int .i64 n] w (KindPost w b s σ n wide (pSubLin n wide order)) := by
  have hblt := h.lt
  by_cases ho : order ≤ n
  rotate_left
  · have t0 : decide (n < order) = true := decide_eq_true (by omega)
    have HB : Hid (∀ sub, Ends (pSubLin n wide order) σ sub none) := fun sub => lin_big ho
    clear ho
    go_enter Try.func133, Try.ntmps133
    go_wp2
    exact bodyPost_ret (v := .tuple #[.nilIface, .bool false]) (by simp [results, Try.results133, go_sem]) rfl ⟨_, false, rfl, grown_refl _ _, .inr ⟨rfl, HB.out⟩⟩
  have t0 : decide (n < order) = false := decide_eq_false (by omega)
  go_enter Try.func133, Try.ntmps133
  go_wp2_with fail
  refine (qlist _ _ _ order wide _ hs (by omega) (by omega) h).mono ?_
  rintro e w1 ⟨g, first, σ1, rfl, hrow, hsg, hg1, hsp1, hends1⟩
  have hlen := hrow.len
  have hfit := hsg.fits hw1
  have HLEN : Hid (first.length = order) := hlen
  clear hlen
  go_wp2_with fail
  refine (qnum _ _ _ 4 _ hs (by omega) hsp1).mono ?_
  rintro e w2 ⟨fb, σ2, rfl, hfb0, -, hg2, hsp2, hends2⟩
  have hfb : fb < 16 := hfb0
  go_wp2_with fail
  refine (qsigned _ _ _ 5 _ hs (by omega) hsp2).mono ?_
  rintro e w3 ⟨sv, σ3, rfl, hsv, -, hg3, hsp3, hends3⟩
  have hsb := sign_bounds 5 sv (by omega) hsv
  have hsb2 : sign 5 sv ≤ 31 := by unfold sign; have : sv < 32 := hsv; split <;> omega
  obtain ⟨sh, hsh⟩ : ∃ sh, sign 5 sv = sh := ⟨_, rfl⟩
  rw [hsh] at hsb hsb2 hends3
  rw [hsh]
  have hgg3 := grown_trans (grown_trans hg1 hg2) hg3
  have hrow3 := (hrow.kept hg2 (fun e => by injection e with e; have := hrow.lt; omega)).kept hg3 (fun e => by injection e with e; have := hrow.lt; omega)
  clear hsh hsv hfb0 hsp1 hsp2 hrow hg1 hg2 hg3 h
  by_cases hc : fb = 15 ∨ sh < 0
  · have hends : ∀ sub, Ends (pSubLin n wide order) σ sub none := fun sub => lin_head ho hends1 (lin_no hends2 hends3 hc)
    have hpost : KindPost w b s σ n wide (pSubLin n wide order) (.returned (.tuple #[.nilIface, .bool false])) w3 := ⟨_, false, rfl, hgg3, .inr ⟨rfl, hends⟩⟩
    clear hends hends1 hends2 hends3
    by_cases h15 : fb = 15
    · have d1 : decide ((15 : Int) < (fb : Int) + 1) = true := decide_eq_true (by omega)
      clear hc h15
      go_wp2
      exact bodyPost_ret (v := .tuple #[.nilIface, .bool false]) (by simp [results, Try.results133, go_sem]) rfl hpost
    · have d1 : decide ((15 : Int) < (fb : Int) + 1) = false := decide_eq_false (by omega)
      have d2 : decide (sh < 0) = true := decide_eq_true (by omega)
      clear hc h15
      go_wp2
      exact bodyPost_ret (v := .tuple #[.nilIface, .bool false]) (by simp [results, Try.results133, go_sem]) rfl hpost
  · have d1 : decide ((15 : Int) < (fb : Int) + 1) = false := decide_eq_false (by omega)
    have d2 : decide (sh < 0) = false := decide_eq_false (by omega)
    have HC : Hid (¬ (fb = 15 ∨ sh < 0)) := hc
    have hsh0 : 0 ≤ sh := by omega
    have hfb15 : fb + 1 ≤ 15 := by omega
    clear hc
    have hq := qlist w3 b s order (fb + 1) σ3 hs (by omega) (by omega) hsp3
    go_wp2_with fail
    refine hq.mono ?_
    rintro e w4 ⟨g4, fs, σ4, rfl, hrow4, hsg4, hg4, hsp4, hends4⟩
    have hlen4 := hrow4.len
    have HLEN4 : Hid (fs.length = order) := hlen4
    have hfab := hsg4.abs15 (by omega) (by omega)
    clear hlen4 hq
    go_wp2_with fail
    refine (qresidue _ _ _ n order _ hs hn hn1 ho hsp4).mono ?_
    rintro e w5 ⟨vr, ok, rfl, hg5, hcase⟩
    have hgg5 := grown_trans (grown_trans hgg3 hg4) hg5
    have hlt3 := hrow3.lt
    have hlt4 := hrow4.lt
    have hblt3 := hsp3.lt
    have hrow5 := (hrow3.kept hg4 (fun e => by injection e with e; omega)).kept hg5 (fun e => by injection e with e; omega)
    have hrowF := (hrow4.kept hg5 (fun e => by injection e with e; omega)).mono hgg3.size
    rcases hcase with ⟨rfl, res, σ5, hown, hrl, hab, hsp5, hends5⟩ | ⟨rfl, rfl, hbad⟩
    · obtain ⟨ar, cr, rfl⟩ := own_slice hown
      have hown2 := hown.mono (Nat.le_trans hgg3.size hg4.size)
      have hends := lin_head (wide := wide) ho hends1 (lin_yes hends2 hends3 HC.out hends4 hends5)
      have hpost : KindPost w b s σ n wide (pSubLin n wide order) (.returned (.tuple #[.iface 185 (.agg #[.slice (some ⟨g, 0, none⟩) order order, .slice (some ⟨g4, 0, none⟩) order order, .int .i64 sh, .slice ar res.length cr]), .bool true])) w5 := by
        have e1 := HLEN.out
        have e2 := HLEN4.out
        refine ⟨_, true, rfl, hgg5, .inl ⟨rfl, .linear first fs sh.toNat res, σ5, ⟨g, g4, _, ?_, by rw [e1]; exact hrow5, by rw [e2]; exact hrowF, hown2⟩, ⟨by omega, by omega, hfit, hfab, by omega, by omega, hab⟩, hsp5, hends⟩⟩
        rw [e1, e2, show ((sh.toNat : Nat) : Int) = sh by omega]
      clear hends hends1 hends2 hends3 hends4 hends5 hrow3 hrow4 hrow5 hrowF hown hown2 hsp3 hsp4 hsp5 hrl hg4 hg5 hgg3 hgg5
      go_wp2
      exact bodyPost_ret (v := .tuple #[.iface 185 (.agg #[.slice (some ⟨g, 0, none⟩) order order, .slice (some ⟨g4, 0, none⟩) order order, .int .i64 sh, .slice ar res.length cr]), .bool true]) (by simp [results, Try.results133, go_sem]) rfl hpost
    · have hends : ∀ sub, Ends (pSubLin n wide order) σ sub none := fun sub => (lin_head (wide := wide) ho hends1 (lin_yes hends2 hends3 HC.out hends4 (hbad []))).dead_any sub
      have hpost : KindPost w b s σ n wide (pSubLin n wide order) (.returned (.tuple #[.iface 185 (.agg #[.slice (some ⟨g, 0, none⟩) order order, .slice (some ⟨g4, 0, none⟩) order order, .int .i64 sh, .slice none 0 0]), .bool false])) w5 := ⟨_, false, rfl, hgg5, .inr ⟨rfl, hends⟩⟩
      clear hends hends1 hends2 hends3 hends4 hbad hrow3 hrow4 hrow5 hrowF hsp3 hsp4 hg4 hg5 hgg3 hgg5
      go_wp2
      exact bodyPost_ret (v := .tuple #[.iface 185 (.agg #[.slice (some ⟨g, 0, none⟩) order order, .slice (some ⟨g4, 0, none⟩) order order, .int .i64 sh, .slice none 0 0]), .bool false]) (by simp [results, Try.results133, go_sem]) rfl hpost

theorem kind_alike {n wide : Nat} {x : Int} {σ σ' : Option (List Bool)} (h : Ends (pSigned wide) σ x σ') : Ends (pSub 0 n wide) σ (.alike x) σ' := Ends.map (f := fun x => Sub.alike x) h
theorem kind_plain {n wide : Nat} {xs : List Int} {σ σ' : Option (List Bool)} (h : Ends (pList (pSigned wide) n) σ xs σ') : Ends (pSub 1 n wide) σ (.plain xs) σ' := Ends.map (f := fun xs => Sub.plain xs) h
theorem kind_fixed {kind n wide : Nat} (h1 : 8 ≤ kind) (h2 : kind ≤ 12) : pSub kind n wide = pSubFixed n wide (kind - 8) := by
  funext l; unfold pSub; rw [if_neg (by omega), if_neg (by omega), if_pos ⟨h1, h2⟩]
theorem kind_linear {kind n wide : Nat} (h1 : 32 ≤ kind) (h2 : kind ≤ 39) : pSub kind n wide = pSubLin n wide (kind - 31) := by
  funext l; unfold pSub; rw [if_neg (by omega), if_neg (by omega), if_neg (by omega), if_pos ⟨h1, h2⟩]
theorem kind_none {kind n wide : Nat} {sub : Sub} {σ : Option (List Bool)} (h0 : kind ≠ 0) (h1 : kind ≠ 1) (h2 : ¬ (8 ≤ kind ∧ kind ≤ 12)) (h3 : ¬ (32 ≤ kind ∧ kind ≤ 39)) : Ends (pSub kind n wide) σ sub none :=
  Ends.fail (fun l _ => by unfold pSub; rw [if_neg h0, if_neg h1, if_neg h2, if_neg h3])

set_option maxHeartbeats 1000000 in
set_option maxRecDepth 20000 in
theorem qreadkind (w : World) (b : Nat) (s : ByteArray) (kind wide n : Nat) (σ : Option (List Bool)) (hs : s.size ≤ 6000) (hn : n ≤ 256) (hn1 : 1 ≤ n) (hk : kind < 64) (hw1 : 1 ≤ wide) (hw : wide ≤ 17) (h : Sp w b s σ) :
    Calls Try.prog 123 #[.pointer (some ⟨b, 0, none⟩), .int .i64 kind, .int .i64 wide, .int .i64 n] w (KindPost w b s σ n wide (pSub kind n wide)) := by
  by_cases k0 : kind = 0
  · subst k0
    go_enter Try.func123, Try.ntmps123
    go_wp2_with fail
    refine (qsigned _ _ _ wide _ hs (by omega) h).mono ?_
    rintro e w1 ⟨v, σ1, rfl, hv, -, hg1, hsp1, hends⟩
    have hf := sign_fits wide v hw1 hv
    have hpost : KindPost w b s σ n wide (pSub 0 n wide) (.returned (.tuple #[.iface 157 (.agg #[.int .i64 (sign wide v)]), .bool true])) w1 := ⟨_, true, rfl, hg1, .inl ⟨rfl, .alike (sign wide v), σ1, rfl, hf, hsp1, kind_alike hends⟩⟩
    clear hends hf hsp1 hg1
    go_wp2
    exact bodyPost_ret (v := .tuple #[.iface 157 (.agg #[.int .i64 (sign wide v)]), .bool true]) (by simp [results, Try.results123, go_sem]) rfl hpost
  by_cases k1 : kind = 1
  · subst k1
    go_enter Try.func123, Try.ntmps123
    go_wp2_with fail
    refine (qlist _ _ _ n wide _ hs hn (by omega) h).mono ?_
    rintro e w1 ⟨g, xs, σ1, rfl, hrow, hsg, hg1, hsp1, hends⟩
    have hl := hrow.len
    have hpost : KindPost w b s σ n wide (pSub 1 n wide) (.returned (.tuple #[.iface 161 (.agg #[.slice (some ⟨g, 0, none⟩) n n]), .bool true])) w1 := ⟨_, true, rfl, hg1, .inl ⟨rfl, .plain xs, σ1, ⟨g, by rw [hl], by rw [hl]; exact hrow⟩, ⟨hl, hsg.fits hw1⟩, hsp1, kind_plain hends⟩⟩
    clear hends hsp1 hg1 hrow hl
    go_wp2
    exact bodyPost_ret (v := .tuple #[.iface 161 (.agg #[.slice (some ⟨g, 0, none⟩) n n]), .bool true]) (by simp [results, Try.results123, go_sem]) rfl hpost
  have t0 : ((kind : Int) == 0) = false := by simp; omega
  have t1 : ((kind : Int) == 1) = false := by simp; omega
  by_cases k2 : 8 ≤ kind ∧ kind ≤ 12
  · have d1 : decide ((8 : Int) ≤ (kind : Int)) = true := decide_eq_true (by omega)
    have d2 : decide ((kind : Int) ≤ 12) = true := decide_eq_true (by omega)
    have hq := qreadfixed w b s (kind - 8) wide n σ hs hn hn1 (by omega) hw1 hw h
    rw [← kind_fixed k2.1 k2.2] at hq
    have hsub : (kind : Int) - 8 = ((kind - 8 : Nat) : Int) := by omega
    obtain ⟨o, ho⟩ : ∃ o, kind - 8 = o := ⟨_, rfl⟩
    rw [ho] at hsub hq
    clear k0 k1 k2 ho
    go_enter Try.func123, Try.ntmps123
    go_wp2_with fail
    refine hq.mono ?_
    rintro e w1 ⟨v, ok, rfl, hpost⟩
    have hp : KindPost w b s σ n wide (pSub kind n wide) (.returned (.tuple #[v, .bool ok])) w1 := ⟨v, ok, rfl, hpost⟩
    clear hpost hq
    go_wp2
    exact bodyPost_ret (v := .tuple #[v, .bool ok]) (by simp [results, Try.results123, go_sem]) rfl hp
  by_cases k3 : 32 ≤ kind ∧ kind ≤ 39
  · have d1 : decide ((8 : Int) ≤ (kind : Int)) = true := decide_eq_true (by omega)
    have d2 : decide ((kind : Int) ≤ 12) = false := decide_eq_false (by omega)
    have d3 : decide ((32 : Int) ≤ (kind : Int)) = true := decide_eq_true (by omega)
    have d4 : decide ((kind : Int) ≤ 39) = true := decide_eq_true (by omega)
    have hq := qreadlinear w b s (kind - 31) wide n σ hs hn hn1 (by omega) hw1 hw h
    rw [← kind_linear k3.1 k3.2] at hq
    have hsub : (kind : Int) - 32 + 1 = ((kind - 31 : Nat) : Int) := by omega
    obtain ⟨o, ho⟩ : ∃ o, kind - 31 = o := ⟨_, rfl⟩
    rw [ho] at hsub hq
    clear k0 k1 k2 k3 ho
    go_enter Try.func123, Try.ntmps123
    go_wp2_with fail
    refine hq.mono ?_
    rintro e w1 ⟨v, ok, rfl, hpost⟩
    have hp : KindPost w b s σ n wide (pSub kind n wide) (.returned (.tuple #[v, .bool ok])) w1 := ⟨v, ok, rfl, hpost⟩
    clear hpost hq
    go_wp2
    exact bodyPost_ret (v := .tuple #[v, .bool ok]) (by simp [results, Try.results123, go_sem]) rfl hp
  have hends : ∀ sub, Ends (pSub kind n wide) σ sub none := fun sub => kind_none k0 k1 k2 k3
  have hp : KindPost w b s σ n wide (pSub kind n wide) (.returned (.tuple #[.nilIface, .bool false])) w := ⟨_, false, rfl, grown_refl _ _, .inr ⟨rfl, hends⟩⟩
  clear hends
  by_cases q1 : 8 ≤ kind
  · by_cases q2 : 32 ≤ kind
    · have d1 : decide ((8 : Int) ≤ (kind : Int)) = true := decide_eq_true (by omega)
      have d2 : decide ((kind : Int) ≤ 12) = false := decide_eq_false (by omega)
      have d3 : decide ((32 : Int) ≤ (kind : Int)) = true := decide_eq_true (by omega)
      have d4 : decide ((kind : Int) ≤ 39) = false := decide_eq_false (by omega)
      clear k0 k1 k2 k3 q1 q2
      go_enter Try.func123, Try.ntmps123
      go_wp2
      exact bodyPost_ret (v := .tuple #[.nilIface, .bool false]) (by simp [results, Try.results123, go_sem]) rfl hp
    · have d1 : decide ((8 : Int) ≤ (kind : Int)) = true := decide_eq_true (by omega)
      have d2 : decide ((kind : Int) ≤ 12) = false := decide_eq_false (by omega)
      have d3 : decide ((32 : Int) ≤ (kind : Int)) = false := decide_eq_false (by omega)
      clear k0 k1 k2 k3 q1 q2
      go_enter Try.func123, Try.ntmps123
      go_wp2
      exact bodyPost_ret (v := .tuple #[.nilIface, .bool false]) (by simp [results, Try.results123, go_sem]) rfl hp
  · have d1 : decide ((8 : Int) ≤ (kind : Int)) = false := decide_eq_false (by omega)
    have d3 : decide ((32 : Int) ≤ (kind : Int)) = false := decide_eq_false (by omega)
    clear k0 k1 k2 k3 q1
    go_enter Try.func123, Try.ntmps123
    go_wp2
    exact bodyPost_ret (v := .tuple #[.nilIface, .bool false]) (by simp [results, Try.results123, go_sem]) rfl hp
end Go.Proofs.Ytncmgnmcggkhnaa
