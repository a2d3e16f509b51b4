import Derived.Test.YtncmgnmcggkhnaaG04
import Derived.Deep.DeepCutAuto
import Derived.Deep.CutBlock
namespace Go.Proofs.Ytncmgnmcggkhnaa
open Go.RowKit

theorem rmustI (w : World) (b : Nat) (s : ByteArray) (a c : Int) (n want : Nat) (σ : Option (List Bool)) (ha : a = n) (hc : c = want) (hs : s.size ≤ 6000) (hn : n ≤ 48) (hwant : want ≤ 65536) (h : St 86 w b s σ) :
    Calls Try.prog 63 #[.pointer (some ⟨b, 0, none⟩), .int .i64 a, .int .i64 c] w fun e w' =>
      ∃ σ' : Option (List Bool), e = .returned (.tuple #[]) ∧ w.grownBy w' (some b) ∧ St 86 w' b s σ' ∧ Ends (pMust n want) σ () σ' := by
  subst ha hc
  exact rmust w b s n want σ hs hn hwant h

set_option maxHeartbeats 4000000 in
set_option maxRecDepth 20000 in
theorem rsubframe (w : World) (b : Nat) (s : ByteArray) (n wide : Nat) (σ : Option (List Bool))
    (hs : s.size ≤ 6000) (hn : n ≤ 256) (hn1 : 1 ≤ n) (hw1 : 1 ≤ wide) (hw : wide ≤ 17) (h : St 86 w b s σ) :
    Calls Try.prog 66 #[.pointer (some ⟨b, 0, none⟩), .int .i64 n, .int .i64 wide] w
      (ListPost w b s σ (pSubframe n wide) fun xs => Abs 4294967296 xs) := by
  obtain ⟨i0, hi, hz0, hz1, hz2⟩ := info_parts Try.info3
  have hblt := h.lt
  go_enter Try.func66, Try.ntmps66
  go_wp2_with fail
  refine (rmustI _ _ _ _ _ 1 0 _ rfl rfl hs (by omega) (by omega) h).mono ?_
  rintro e w1 ⟨σ1, rfl, hg1, hst1, hends1⟩
  go_wp2_with fail
  refine (rnum _ _ _ 6 _ hs (by omega) hst1).mono ?_
  rintro e w2 ⟨kind, σ2, rfl, hkind0, hg2, hst2, hends2⟩
  have hkind : kind < 64 := hkind0
  go_wp2_with fail
  refine (rnum _ _ _ 1 _ hs (by omega) hst2).mono ?_
  rintro e w3 ⟨c, σ3, rfl, hc0, hg3, hst3, hends3⟩
  have hc2 : c < 2 := hc0
  have hg := grown_trans (grown_trans hg1 hg2) hg3
  clear hg1 hg2 hg3 hst1 hst2 hkind0 hc0
  go_upto_if 21 with fail
  go_cut [8] (fun s8 wx => ∃ (less : Nat) (σ4 : Option (List Bool)), s8 = .int .i64 less ∧ less ≤ 48001 ∧ w.grownBy wx (some b) ∧ St 86 wx b s σ4 ∧ Ends pLess σ2 less σ4)
  case first =>
    by_cases hc1 : 1 ≤ c
    · have hcb : ((c : Int) == 1) = true := by simp; omega
      go_wp2_with fail
      refine (rnoughts _ _ _ _ hs hst3).mono ?_
      rintro e w4 ⟨q, σ4, rfl, hq, hg4, hst4, hends4⟩
      go_wp2
      go_meet
      case rel => exact ⟨q + 1, σ4, by go_num, by omega, grown_trans hg hg4, hst4, less_some hends3 (by omega) hends4⟩
    · have hcb : ((c : Int) == 1) = false := by simp; omega
      obtain rfl : c = 0 := by omega
      go_wp2
      go_meet
      case rel => exact ⟨0, σ3, rfl, by omega, hg, hst3, less_none hends3 (by omega)⟩
  case rest =>
    obtain ⟨less, σ4, rfl, hless, hg4, hst4, hends4⟩ := hcut
    clear hg hst3 hends3 hc2
    have hf4 := hst4.fz 2
    have hm4 := hst4.mark
    rcases σ4 with _ | l4
    · have hm4' : wc.cell? ⟨b, 2, none⟩ = some (.bool true) := hm4
      clear hm4
      go_wp2
      go_ret
      exact ⟨_, [], none, rfl, Own.nil _ _, (fun x hx => by cases hx), grown_trans hg4 (grown_set _ _ _ _), hst4.kill hs, sub_no hends1 hends2 hends4 (.inr rfl)⟩
    · have hm4' : wc.cell? ⟨b, 2, none⟩ = some (.bool false) := hm4
      clear hm4
      by_cases hlw : less < wide
      · obtain ⟨wd, hwd0⟩ : ∃ wd, wide - less = wd := ⟨_, rfl⟩
        have hwd : (wide : Int) - (less : Int) = (wd : Int) := by omega
        have hwd1 : 1 ≤ wd := by omega
        have hwd17 : wd ≤ 17 := by omega
        have HWD : Hid (wide - less = wd) := hwd0
        clear hwd0
        go_upto_block 0 with fail
        go_cut [9, 10, 11] (fun s9 _ _ wx => ∃ (xs : List Int) (σ5 : Option (List Bool)), Own wx w.heap.size s9 xs ∧ Abs 65536 xs ∧ w.grownBy wx (some b) ∧ St 86 wx b s σ5 ∧ Ends (pKind kind n wd) (some l4) xs σ5)
        case first =>
          rcases (show kind < 1 ∨ (1 ≤ kind ∧ kind < 2) ∨ (8 ≤ kind ∧ kind ≤ 12) ∨ (32 ≤ kind ∧ kind ≤ 39) ∨ (2 ≤ kind ∧ kind < 8) ∨ (13 ≤ kind ∧ kind < 32) ∨ (40 ≤ kind) by omega) with hk | hk | hk | hk | hk | hk | hk
          · have hk0 : ((kind : Int) == 0) = true := by simp; omega
            go_wp2_with fail
            refine (rsigned _ _ _ wd _ hs (by omega) hst4).mono ?_
            rintro e w5 ⟨v5, σ5, rfl, hv5, hg5, hst5, hends5⟩
            have hsf := fits_abs wd hwd17 _ (sign_fits wd v5 hwd1 hv5)
            generalize sign wd v5 = x at hsf hends5 ⊢
            have hg55 := grown_trans hg4 hg5
            go_wp2
            go_loopw [9, 11] (fun v i wr => ∃ k : Nat, k ≤ n ∧ i = .int .i64 k ∧ Own wr w.heap.size v (List.replicate k x) ∧ w.grownBy wr (some b) ∧ St 86 wr b s σ5) (fun _ i _ => n - (intOf i).toNat)
            case atStart => exact ⟨0, Nat.zero_le _, rfl, Own.nil _ _, hg55, hst5⟩
            case round =>
              obtain ⟨k, hkn, rfl, hown, hgr, hstr⟩ := hrel
              by_cases hlt : k < n
              · obtain ⟨ys, hys⟩ : ∃ ys, List.replicate k x = ys := ⟨_, rfl⟩
                rw [hys] at hown
                have HYS : Hid (List.replicate k x = ys) := hys
                have hyl : ys.length ≤ 256 := by rw [← hys, List.length_replicate]; omega
                clear hys
                go_wp2_with (first
                  | (at_builtin; refine wpList_append_own _ rfl _ _ 30 rfl w.heap.size 3 i0 (.int .i64 0) 1 8 Try.underlying30 hi hz0 hz1 hz2 rfl (by decide) _ _ _ rfl (hown.alloc _) ⟨wr.heap.size, 0, none⟩ 1 1 [.int .i64 x] rfl rfl ?c1 ?c2 ?c3 ?c4 ?c5 ?_))
                case c1 => exact one_new _ _ _
                case c2 => exact one_cell _
                case c3 => unfold maxLen; omega
                case c4 => omega
                case c5 => have := hgr.size; simp; omega
                intro v' w7 hown' hgrow _
                have hown7 := hown.step hown'
                have hgrow2 := grown_from_alloc hgrow (fun g hg' => (hown.lt g hg').2)
                have hg7 : w.grownBy w7 (some b) := grown_own hgr hgrow2 (fun g hg' => (hown.lt g hg').1)
                have hst7 := hstr.kept hgrow2 (fun e => by have := (hown.lt b e.symm).1; omega)
                rw [← HYS.out, Upto_replicate] at hown7
                clear hown' hgrow hgrow2 hown hstr
                go_wp2
                go_roundw
                case rel => first | exact ⟨k + 1, by omega, by go_num, hown7, hg7, hst7⟩ | ((repeat apply Exists.intro); exact ⟨⟨k + 1, by omega, by go_num, hown7, hg7, hst7⟩, rfl⟩)
                case measure => simp [intOf]; omega
              · obtain rfl : k = n := by omega
                go_wp2
                go_meet
                case rel => exact ⟨List.replicate k x, σ5, hown, (fun y hy => by rw [List.eq_of_mem_replicate hy]; exact hsf), hgr, hstr, by rw [show kind = 0 by omega]; exact kind0 hends5⟩
          · have hk0 : ((kind : Int) == 0) = false := by simp; omega
            have hk1 : ((kind : Int) == 1) = true := by simp; omega
            go_wp2_with fail
            refine (rplain _ _ _ n wd _ hs hn (by omega) hst4).mono ?_
            rintro e w5 ⟨v5, xs, σ5, rfl, hown5, ⟨hxl, hsg⟩, hg5, hst5, hends5⟩
            go_wp2
            go_meet
            case rel => exact ⟨xs, σ5, hown5.mono hg4.size, hsg.abs hwd1 hwd17, grown_trans hg4 hg5, hst5, kind1 (by omega) hends5⟩
          · have hk0 : ((kind : Int) == 0) = false := by simp; omega
            have hk1 : ((kind : Int) == 1) = false := by simp; omega
            go_wp2_with fail
            refine (rfixed _ (kind - 8) (by omega) _ (by omega)).mono ?_
            rintro e w5 ⟨fg, fcap, rfl, hfo, hgf⟩
            have hg5 : w.grownBy w5 (some b) := grown_own hg4 hgf (fun g hg' => by cases hg')
            have hst5 := hst4.kept hgf (by simp)
            have hrow5 : Row w5 w.heap.size fg (kind - 8) fcap (fixedFactors (kind - 8)) := by
              have := Own.mono hfo hg4.size
              unfold Own at this
              rw [fixed_len _ (by omega)] at this
              exact this
            go_wp2_with fail
            refine (rforetold w5 b s w.heap.size fg fcap n wd (kind - 8) _ _ (by omega) hs hn hn1 hwd1 hwd17 (by omega) hblt hg5.size hrow5 hst5).mono ?_
            rintro e w6 ⟨v6, xs, σ6, rfl, hown6, hab6, hchg6, hst6, hends6⟩
            go_wp2
            go_meet
            case rel => exact ⟨xs, σ6, hown6, hab6, ((Chg.of hg5 (Nat.le_refl _)).trans hchg6).grown, hst6, kindF hk hends6⟩
          · have hk0 : ((kind : Int) == 0) = false := by simp; omega
            have hk1 : ((kind : Int) == 1) = false := by simp; omega
            go_wp2_with fail
            refine (rlinear _ b s n wd (kind - 31) _ _ (by omega) hs hn hn1 hwd1 hwd17 (by omega) (by omega) hst4).mono ?_
            rintro e w6 ⟨v6, xs, σ6, rfl, hown6, hab6, hg6, hst6, hends6⟩
            go_wp2
            go_meet
            case rel => exact ⟨xs, σ6, hown6.mono hg4.size, hab6, grown_trans hg4 hg6, hst6, kindL hk hends6⟩
          all_goals
            have hk0 : ((kind : Int) == 0) = false := by simp; omega
            have hk1 : ((kind : Int) == 1) = false := by simp; omega
            go_wp2
            go_meet
            case rel => exact ⟨[], none, Own.nil _ _, (fun x hx => by cases hx), grown_trans hg4 (grown_set _ _ _ _), hst4.kill hs, kindN (by omega) (by omega) (by omega) (by omega)⟩
        case rest =>
          obtain ⟨xs, σ5, hown5, hab5, hg5, hst5, hends5⟩ := hcut
          have HE : Hid (Ends (pSubframe n wide) σ (xs.map (· * 2 ^ less)) σ5) := by
            show Ends _ _ _ _
            refine sub_ends hends1 hends2 hends4 hlw ?_
            rw [HWD.out]
            exact hends5
          clear hends1 hends2 hends4 hends5 hst4 hg4 hm4' hf4
          have hl16 : less ≤ 16 := by omega
          rcases hown5.row with ⟨hv, hx0⟩ | ⟨g, cap, hv, hrow5⟩
          · rw [hv]
            subst hx0
            go_wp2
            go_loop [12, 13] (fun i _ => i = .int .i64 0) (fun _ _ => 0)
            case atStart => exact rfl
            case round =>
              subst hrel
              go_wp2
              go_ret
              exact ⟨_, [], σ5, rfl, Own.nil _ _, (fun x hx => by cases hx), hg5, hst5, HE.out⟩
          · rw [hv]
            obtain ⟨m, hm0⟩ : ∃ m, xs.length = m := ⟨_, rfl⟩
            rw [hm0] at hrow5 ⊢
            have HM : Hid (xs.length = m) := hm0
            have hgg := hrow5.lt
            clear hm0 hown5 hv
            have hm63 : m ≤ 9223372036854775807 := hrow5.le_max
            go_wp2
            go_loopw [12, 13] (fun i _ wr => ∃ (k : Nat) (ys : List Int), k ≤ m ∧ i = .int .i64 k ∧ Row wr w.heap.size g m cap ys ∧ Hid (ys = doubled xs less k) ∧ w.grownBy wr (some b) ∧ St 86 wr b s σ5)
              (fun i _ _ => m - (intOf i).toNat)
            case atStart => exact ⟨0, xs, Nat.zero_le _, rfl, hrow5, (by rw [doubled_zero] : _ = _), hg5, hst5⟩
            case round =>
              obtain ⟨k, ys, hkm, rfl, hrow, HYS, hgr, hstr⟩ := hrel
              by_cases hlt : k < m
              · obtain ⟨x, hx0⟩ : ∃ x, xs.getD k 0 = x := ⟨_, rfl⟩
                have hxb : -65536 ≤ x ∧ x ≤ 65536 := by rw [← hx0]; exact hab5.get (by omega) k
                have HX : Hid (xs.getD k 0 = x) := hx0
                have HS : Hid (ys.set k x = ys) := by
                  show _ = _
                  have hky : k < ys.length := by have := hrow.len; omega
                  have e : ys.getD k 0 = x := by
                    rw [HYS.out, doubled_get xs less k (by have := HM.out; omega)]
                    exact hx0
                  have e2 : ys[k] = x := by rw [← e]; simp [List.getD, List.getElem?_eq_getElem hky]
                  rw [← e2, List.set_getElem_self]
                clear hx0
                go_wp2
                go_loopw [13] (fun j wq => ∃ (q : Nat) (y : Int) (zs : List Int), j = .int .i64 q ∧ q ≤ less ∧ Row wq w.heap.size g m cap zs ∧ Hid (zs = ys.set k y ∧ y = x * 2 ^ q) ∧ -4294967296 ≤ y ∧ y ≤ 4294967296 ∧ w.grownBy wq (some b) ∧ St 86 wq b s σ5)
                  (fun j _ => less - (intOf j).toNat)
                case atStart => exact ⟨0, x, ys, rfl, Nat.zero_le _, hrow, (⟨HS.out.symm, by simp⟩ : _ ∧ _), by omega, by omega, hgr, hstr⟩
                case round =>
                  obtain ⟨q, y, zs, rfl, hq, hrowz, HZ, hy1, hy2, hgz, hstz⟩ := hrel
                  by_cases hql : q < less
                  · have hcz : wr.cell? ⟨g, k, none⟩ = some (.int .i64 y) := by
                      have e := hrowz.cell k hlt
                      have hky : k < ys.length := by have := hrow.len; omega
                      rw [e, HZ.out.1]
                      simp [List.getD, hky]
                    have hfz := hrowz.fz k
                    have hyn : -4294967296 ≤ 2 * y ∧ 2 * y ≤ 4294967296 := by
                      rw [HZ.out.2, mul_pow_succ]
                      exact mul_pow_bound x (q + 1) (by omega) hxb
                    have hrow9 := hrowz.stored k (2 * y)
                    have hg9 : w.grownBy (wr.setCell ⟨g, k, none⟩ (.int .i64 (2 * y))) (some b) := grown_own hgz (grown_set _ _ _ _) (fun e he => by injection he with he; omega)
                    have hst9 : St 86 (wr.setCell ⟨g, k, none⟩ (.int .i64 (2 * y))) b s σ5 := hstz.kept (grown_set _ _ _ _) (fun e => by injection e with e; omega)
                    have HZ9 : Hid (zs.set k (2 * y) = ys.set k (2 * y) ∧ 2 * y = x * 2 ^ (q + 1)) := by
                      refine ⟨?_, ?_⟩
                      · rw [HZ.out.1, List.set_set]
                      · rw [HZ.out.2, mul_pow_succ]
                    clear hrowz hgz hstz
                    go_wp2
                    go_roundw
                    case rel => first | exact ⟨q + 1, 2 * y, zs.set k (2 * y), by go_num, by omega, hrow9, HZ9, hyn.1, hyn.2, hg9, hst9⟩ | ((repeat apply Exists.intro); exact ⟨⟨q + 1, 2 * y, zs.set k (2 * y), by go_num, by omega, hrow9, HZ9, hyn.1, hyn.2, hg9, hst9⟩, rfl⟩)
                    case measure => simp [intOf]; omega
                  · obtain rfl : q = less := by omega
                    have HY9 : Hid (zs = doubled xs q (k + 1)) := by
                      show _ = _
                      rw [HZ.out.1, HZ.out.2, HYS.out, ← HX.out]
                      exact doubled_set xs q k (by have := HM.out; omega)
                    go_wp2
                    go_roundw
                    case rel => first | exact ⟨k + 1, zs, by omega, by go_num, hrowz, HY9, hgz, hstz⟩ | ((repeat apply Exists.intro); exact ⟨⟨k + 1, zs, by omega, by go_num, hrowz, HY9, hgz, hstz⟩, rfl⟩)
                    case measure => simp [intOf]; omega
              · obtain rfl : k = m := by omega
                have hrl := hrow.own
                rw [HYS.out, doubled_all xs less k (by have := HM.out; omega)] at hrl
                go_wp2
                go_ret
                exact ⟨_, _, σ5, rfl, hrl, (fun y hy => by obtain ⟨x, hx, rfl⟩ := List.mem_map.1 hy; exact mul_pow_bound x less hl16 (hab5 x hx)), hgr, hstr, HE.out⟩
      · go_wp2
        go_ret
        exact ⟨_, [], none, rfl, Own.nil _ _, (fun x hx => by cases hx), grown_trans hg4 (grown_set _ _ _ _), hst4.kill hs, sub_no hends1 hends2 hends4 (.inl hlw)⟩
end Go.Proofs.Ytncmgnmcggkhnaa

namespace Go.Proofs.Ytncmgnmcggkhnaa
open Go.RowKit

/-- the first `i` are of `A`, the rest of `xs` -/
def part (A xs : List Int) (i : Nat) : List Int := A.take i ++ xs.drop i

theorem part_zero (A xs : List Int) : part A xs 0 = xs := by simp [part]
theorem part_all (A xs : List Int) (i : Nat) (h1 : A.length ≤ i) (h2 : xs.length ≤ i) : part A xs i = A := by
  unfold part
  rw [List.take_of_length_le h1, List.drop_of_length_le h2, List.append_nil]
theorem part_get (A xs : List Int) (i : Nat) (h : i ≤ A.length) : (part A xs i).getD i 0 = xs.getD i 0 := by
  unfold part
  have e : (A.take i).length = i := by rw [List.length_take]; omega
  simp only [List.getD]
  rw [List.getElem?_append_right (by omega), e, Nat.sub_self, List.getElem?_drop, Nat.add_zero]
theorem part_set (A xs : List Int) (i : Nat) (h1 : i < A.length) (h2 : i < xs.length) : (part A xs i).set i (A.getD i 0) = part A xs (i + 1) := by
  unfold part
  have e : (A.take i).length = i := by rw [List.length_take]; omega
  rw [List.set_append_right _ _ (by omega), e, Nat.sub_self, List.drop_eq_getElem_cons h2, List.set_cons_zero, List.take_succ_eq_append_getElem h1, List.append_assoc]
  simp [List.getD, List.getElem?_eq_getElem h1]

theorem zip_get (f : Int → Int → Int × Int) (xs ys : List Int) (i : Nat) (h1 : i < xs.length) (h2 : i < ys.length) :
    ((List.zipWith f xs ys).map (·.1)).getD i 0 = (f (xs.getD i 0) (ys.getD i 0)).1 ∧ ((List.zipWith f xs ys).map (·.2)).getD i 0 = (f (xs.getD i 0) (ys.getD i 0)).2 := by
  have e : (List.zipWith f xs ys)[i]? = some (f xs[i] ys[i]) := by
    rw [List.getElem?_zipWith, List.getElem?_eq_getElem h1, List.getElem?_eq_getElem h2]
  simp only [List.getD, List.getElem?_map, e, List.getElem?_eq_getElem h1, List.getElem?_eq_getElem h2, Option.map_some, Option.getD_some]
  exact ⟨trivial, trivial⟩

theorem pair8 (a b : Int) : pair 8 a b = (a, a - b) := rfl
theorem pair9 (a b : Int) : pair 9 a b = (a + b, b) := rfl
theorem pair10 (a b : Int) : pair 10 a b = ((2 * a + b % 2 + b) / 2, (2 * a + b % 2 - b) / 2) := rfl

theorem odd_t (b : Int) : (b.tmod 2 != 0) = decide (b % 2 = 1) := by
  rcases Int.lt_or_le b 0 with h | h
  · rw [tmod2 b h, Bool.eq_iff_iff, bne_iff_ne, decide_eq_true_eq]; omega
  · rw [Int.tmod_eq_emod_of_nonneg h, Bool.eq_iff_iff, bne_iff_ne, decide_eq_true_eq]; omega

theorem mid_val (x : Int) (h : x % 2 = 0) : x.tdiv 2 = x / 2 := by
  rcases Int.lt_or_le x 0 with h1 | h1
  · rw [tdiv2 x h1]; omega
  · rw [Int.tdiv_eq_ediv_of_nonneg h1]

/-- all up to there are of so many bits -/
def fitUpto (bits : Nat) (A B : List Int) (i : Nat) : Prop := ∀ j, j < i → fitsB bits (A.getD j 0) = true ∧ fitsB bits (B.getD j 0) = true

def ApartPost (w : World) (base b : Nat) (s : ByteArray) (l : List Bool) (lv : Value) (g0 g1 n cap0 cap1 bits : Nat) (A B : List Int) (e : Ending) (w' : World) : Prop :=
  ∃ (σ' : Option (List Bool)), e = .returned lv ∧ St 86 w' b s σ' ∧ w'.os = w.os ∧ w'.tape = w.tape ∧ w'.output = w.output ∧ w.heap.size ≤ w'.heap.size ∧
    (∀ k, k < w.heap.size → k ≠ b → k ≠ g0 → k ≠ g1 → w'.heap[k]? = w.heap[k]?) ∧
    ((σ' = some l ∧ fitUpto bits A B n ∧ Row w' base g0 n cap0 A ∧ Row w' base g1 n cap1 B) ∨ (σ' = none ∧ ¬ fitUpto bits A B n))

/-- but for three blocks nothing has turned -/
structure Three (w w' : World) (b g0 g1 : Nat) : Prop where
  os : w'.os = w.os
  tape : w'.tape = w.tape
  output : w'.output = w.output
  size : w.heap.size ≤ w'.heap.size
  block : ∀ k, k < w.heap.size → k ≠ b → k ≠ g0 → k ≠ g1 → w'.heap[k]? = w.heap[k]?

theorem Three.refl (w : World) (b g0 g1 : Nat) : Three w w b g0 g1 := ⟨rfl, rfl, rfl, Nat.le_refl _, fun _ _ _ _ _ => rfl⟩
theorem Three.step {w w' w'' : World} {b g0 g1 g : Nat} (h : Three w w' b g0 g1) (k : w'.grownBy w'' (some g)) (hg : g = b ∨ g = g0 ∨ g = g1) : Three w w'' b g0 g1 :=
  ⟨k.os.trans h.os, k.tape.trans h.tape, k.output.trans h.output, Nat.le_trans h.size k.size,
    fun i hi h1 h2 h3 => (k.block i (Nat.lt_of_lt_of_le hi h.size) (fun e => by injection e with e; omega)).trans (h.block i hi h1 h2 h3)⟩


theorem lt_of_cell {w : World} {g o : Nat} {v : Value} (h : w.cell? ⟨g, o, none⟩ = some v) : g < w.heap.size := by
  rcases Nat.lt_or_ge g w.heap.size with h1 | h1
  · exact h1
  · simp [World.cell?, Array.getElem?_eq_none h1] at h

/-- three stores: the mark, and one sample of each channel -/
theorem three_stores {w wr : World} {base b : Nat} {s : ByteArray} {g0 g1 n cap0 cap1 k : Nat} {ys0 ys1 : List Int} {l : List Bool} {a1 b1 : Int} (m : Bool) (hs : s.size ≤ 6000) (hb : b < base)
    (hr0 : Row wr base g0 n cap0 ys0) (hr1 : Row wr base g1 n cap1 ys1) (hne : g0 ≠ g1) (ht : Three w wr b g0 g1) (hst : St 86 wr b s (some l)) :
    Row (((wr.setCell ⟨b, 2, none⟩ (.bool m)).setCell ⟨g0, k, none⟩ (.int .i64 a1)).setCell ⟨g1, k, none⟩ (.int .i64 b1)) base g0 n cap0 (ys0.set k a1) ∧
    Row (((wr.setCell ⟨b, 2, none⟩ (.bool m)).setCell ⟨g0, k, none⟩ (.int .i64 a1)).setCell ⟨g1, k, none⟩ (.int .i64 b1)) base g1 n cap1 (ys1.set k b1) ∧
    Three w (((wr.setCell ⟨b, 2, none⟩ (.bool m)).setCell ⟨g0, k, none⟩ (.int .i64 a1)).setCell ⟨g1, k, none⟩ (.int .i64 b1)) b g0 g1 ∧
    St 86 (((wr.setCell ⟨b, 2, none⟩ (.bool m)).setCell ⟨g0, k, none⟩ (.int .i64 a1)).setCell ⟨g1, k, none⟩ (.int .i64 b1)) b s (if m then none else some l) := by
  have h0 := hr0.lt
  have h1 := hr1.lt
  have w1 := grown_set wr b 2 (.bool m)
  have w2 := grown_set (wr.setCell ⟨b, 2, none⟩ (.bool m)) g0 k (.int .i64 a1)
  have w3 := grown_set ((wr.setCell ⟨b, 2, none⟩ (.bool m)).setCell ⟨g0, k, none⟩ (.int .i64 a1)) g1 k (.int .i64 b1)
  refine ⟨?_, ?_, ?_, ?_⟩
  · exact ((hr0.kept w1 (fun e => by injection e with e; omega)).stored k a1).kept w3 (fun e => by injection e with e; omega)
  · exact ((hr1.kept w1 (fun e => by injection e with e; omega)).kept w2 (fun e => by injection e with e; omega)).stored k b1
  · exact ((ht.step w1 (.inl rfl)).step w2 (.inr (.inl rfl))).step w3 (.inr (.inr rfl))
  · have hq : St 86 (wr.setCell ⟨b, 2, none⟩ (.bool m)) b s (if m then none else some l) := by
      cases m with
      | true => exact hst.kill hs
      | false => exact hst.same
    exact (hq.kept w2 (fun e => by injection e with e; omega)).kept w3 (fun e => by injection e with e; omega)

theorem Abs.of_row {B : Int} {xs : List Int} (h : Abs B xs) (hB : 0 ≤ B) (j : Nat) (a : Int) (e : xs.getD j 0 = a) : -B ≤ a ∧ a ≤ B := by
  rw [← e]; exact h.get hB j

set_option maxHeartbeats 2000000 in
set_option maxRecDepth 20000 in
theorem rapart (w : World) (b : Nat) (s : ByteArray) (base lg lcap g0 g1 n cap0 cap1 bits mode : Nat) (xs0 xs1 : List Int) (l : List Bool)
    (hs : s.size ≤ 6000) (hn : n ≤ 256) (hbits1 : 1 ≤ bits) (hbits : bits ≤ 16) (hm8 : 8 ≤ mode) (hm10 : mode ≤ 10) (hb : b < base) (hlg : base ≤ lg)
    (hc0 : w.cell? ⟨lg, 0, none⟩ = some (.slice (some ⟨g0, 0, none⟩) n cap0)) (hc1 : w.cell? ⟨lg, 1, none⟩ = some (.slice (some ⟨g1, 0, none⟩) n cap1))
    (hr0 : Row w base g0 n cap0 xs0) (hr1 : Row w base g1 n cap1 xs1) (hne : g0 ≠ g1) (hl0 : lg ≠ g0) (hl1 : lg ≠ g1) (ha0 : Abs 4294967296 xs0) (ha1 : Abs 4294967296 xs1)
    (h : St 86 w b s (some l)) :
    Calls Try.prog 67 #[.pointer (some ⟨b, 0, none⟩), .slice (some ⟨lg, 0, none⟩) 2 lcap, .int .i64 mode, .int .i64 bits, .int .i64 n] w
      (ApartPost w base b s l (.slice (some ⟨lg, 0, none⟩) 2 lcap) g0 g1 n cap0 cap1 bits ((List.zipWith (pair mode) xs0 xs1).map (·.1)) ((List.zipWith (pair mode) xs0 xs1).map (·.2))) := by
  obtain ⟨A, hA⟩ : ∃ A, (List.zipWith (pair mode) xs0 xs1).map (·.1) = A := ⟨_, rfl⟩
  obtain ⟨B, hB⟩ : ∃ B, (List.zipWith (pair mode) xs0 xs1).map (·.2) = B := ⟨_, rfl⟩
  rw [hA, hB]
  have hx0 := hr0.len
  have hx1 := hr1.len
  have HA : Hid ((∀ i, i < n → A.getD i 0 = (pair mode (xs0.getD i 0) (xs1.getD i 0)).1 ∧ B.getD i 0 = (pair mode (xs0.getD i 0) (xs1.getD i 0)).2) ∧ A.length = n ∧ B.length = n) := by
    refine ⟨fun i hi => ?_, ?_, ?_⟩
    · rw [← hA, ← hB]
      exact zip_get _ _ _ i (by omega) (by omega)
    · rw [← hA, List.length_map, List.length_zipWith]; omega
    · rw [← hB, List.length_map, List.length_zipWith]; omega
  have HX : Hid (xs0.length = n ∧ xs1.length = n) := ⟨hx0, hx1⟩
  clear hA hB hx0 hx1
  go_enter Try.func67, Try.ntmps67
  go_wp2
  go_loopw [11] (fun i wr => ∃ (k : Nat) (ys0 ys1 : List Int) (σ' : Option (List Bool)), k ≤ n ∧ i = .int .i64 k ∧ Row wr base g0 n cap0 ys0 ∧ Row wr base g1 n cap1 ys1 ∧ Hid (ys0 = part A xs0 k ∧ ys1 = part B xs1 k) ∧ Three w wr b g0 g1 ∧ St 86 wr b s σ' ∧
      ((σ' = some l ∧ fitUpto bits A B k) ∨ (σ' = none ∧ ¬ fitUpto bits A B n)))
    (fun i _ => n - (intOf i).toNat)
  case atStart => exact ⟨0, xs0, xs1, some l, Nat.zero_le _, rfl, hr0, hr1, (⟨by rw [part_zero], by rw [part_zero]⟩ : _ ∧ _), Three.refl _ _ _ _, h, .inl ⟨rfl, fun j hj => by omega⟩⟩
  case round =>
    obtain ⟨k, ys0, ys1, σ', hk, rfl, hrow0, hrow1, HYS, hthree, hst, hfit⟩ := hrel
    have hm := hst.mark
    have hfz := hst.fz 2
    by_cases hlt : k < n
    · rcases hfit with ⟨rfl, hup⟩ | ⟨rfl, hno⟩
      · have hm' : wr.cell? ⟨b, 2, none⟩ = some (.bool false) := hm
        clear hm
        have hlt0 := hr0.lt
        have hlt1 := hr1.lt
        have e0 : wr.cell? ⟨lg, 0, none⟩ = some (.slice (some ⟨g0, 0, none⟩) n cap0) := by
          rw [← hc0]
          exact World.cell?_of_block (hthree.block lg (lt_of_cell hc0) (by omega) hl0 hl1)
        have e1 : wr.cell? ⟨lg, 1, none⟩ = some (.slice (some ⟨g1, 0, none⟩) n cap1) := by
          rw [← hc1]
          exact World.cell?_of_block (hthree.block lg (lt_of_cell hc0) (by omega) hl0 hl1)
        obtain ⟨p, hp⟩ : ∃ p, xs0.getD k 0 = p := ⟨_, rfl⟩
        obtain ⟨q, hq⟩ : ∃ q, xs1.getD k 0 = q := ⟨_, rfl⟩
        have hpb := ha0.of_row (by omega) k p hp
        have hqb := ha1.of_row (by omega) k q hq
        have hcp : wr.cell? ⟨g0, k, none⟩ = some (.int .i64 p) := by
          rw [hrow0.cell k hlt, HYS.out.1, part_get A xs0 k (by have := HA.out.2.1; omega), hp]
        have hcq : wr.cell? ⟨g1, k, none⟩ = some (.int .i64 q) := by
          rw [hrow1.cell k hlt, HYS.out.2, part_get B xs1 k (by have := HA.out.2.2; omega), hq]
        have hAB := HA.out.1 k hlt
        rw [hp, hq] at hAB
        have hklt : (k : Int) < (n : Int) := by omega
        obtain ⟨a1, ha1d⟩ : ∃ a1, A.getD k 0 = a1 := ⟨_, rfl⟩
        obtain ⟨b1, hb1d⟩ : ∃ b1, B.getD k 0 = b1 := ⟨_, rfl⟩
        rw [ha1d, hb1d] at hAB
        have hf0 := hrow0.fz k
        have hf1 := hrow1.fz k
        have hrg0 := hrow0.lt
        have hrg1 := hrow1.lt
        have HS : Hid (ys0.set k a1 = part A xs0 (k + 1) ∧ ys1.set k b1 = part B xs1 (k + 1)) := by
          refine ⟨?_, ?_⟩
          · rw [HYS.out.1, ← ha1d]
            exact part_set A xs0 k (by have := HA.out.2.1; omega) (by have := HX.out.1; omega)
          · rw [HYS.out.2, ← hb1d]
            exact part_set B xs1 k (by have := HA.out.2.2; omega) (by have := HX.out.2; omega)
        have HFY : Hid (fitsB bits a1 = true → fitsB bits b1 = true → fitUpto bits A B (k + 1)) := by
          intro f1 f2 j hj
          rcases (show j < k ∨ j = k by omega) with hj | rfl
          · exact hup j hj
          · rw [ha1d, hb1d]; exact ⟨f1, f2⟩
        have HFN : Hid (¬ (fitsB bits a1 = true ∧ fitsB bits b1 = true) → ¬ fitUpto bits A B n) := by
          intro hn' hall
          apply hn'
          have := hall k hlt
          rw [ha1d, hb1d] at this
          exact this
        have T3 := fun m => three_stores (k := k) (a1 := a1) (b1 := b1) m hs hb hrow0 hrow1 hne hthree hst
        clear ha1d hb1d hp hq HA HX HYS hup
        have key : (a1 = p ∧ p - q = b1 ∧ mode < 9) ∨ (p + q = a1 ∧ b1 = q ∧ 9 ≤ mode ∧ mode < 10) ∨ (10 ≤ mode ∧ a1 - q = b1 ∧ ((q % 2 = 1 ∧ (2 * p + 1 + q).tdiv 2 = a1) ∨ (q % 2 = 0 ∧ (2 * p + q).tdiv 2 = a1)) ∧ -17179869184 ≤ a1 ∧ a1 ≤ 17179869184) := by
          rcases (show mode = 8 ∨ mode = 9 ∨ mode = 10 by omega) with rfl | rfl | rfl
          · rw [pair8] at hAB
            exact .inl ⟨hAB.1, hAB.2.symm, by omega⟩
          · rw [pair9] at hAB
            exact .inr (.inl ⟨hAB.1.symm, hAB.2, by omega, by omega⟩)
          · rw [pair10] at hAB
            refine .inr (.inr ⟨by omega, by have := hAB.1; have := hAB.2; simp only at *; omega, ?_, by have := hAB.1; simp only at *; omega, by have := hAB.1; simp only at *; omega⟩)
            rcases (show q % 2 = 1 ∨ q % 2 = 0 by omega) with hq2 | hq2
            · refine .inl ⟨hq2, ?_⟩
              rw [mid_val _ (by omega)]
              have := hAB.1; simp only at *; omega
            · refine .inr ⟨hq2, ?_⟩
              rw [mid_val _ (by omega)]
              have := hAB.1; simp only at *; omega
        clear hAB
        rcases key with ⟨rfl, r1, hmd⟩ | ⟨r1, rfl, hmd⟩ | ⟨hmd, r2, ⟨hodd, r1⟩ | ⟨hodd, r1⟩, hb3, hb4⟩
        · have t1 : ((mode : Int) == 8) = true := by simp; omega
          go_wp2_with fail
          refine (rfits _ a1 bits hbits1 (by omega)).mono ?_
          rintro e w' ⟨rfl, hw'⟩
          subst hw'
          go_wp2_with fail
          refine (rfits _ b1 bits hbits1 (by omega)).mono ?_
          rintro e w' ⟨rfl, hw'⟩
          subst hw'
          rcases f1 : fitsB bits a1 with _ | _
          · have T := T3 true
            clear T3 hrow0 hrow1 hst hthree
            go_wp2
            go_roundw
            case rel => exact ⟨k + 1, _, _, none, by omega, by go_num, T.1, T.2.1, HS, T.2.2.1, T.2.2.2, .inr ⟨rfl, HFN.out (fun h => by rw [f1] at h; cases h.1)⟩⟩
            case measure => simp [intOf]; omega
          · rcases f2 : fitsB bits b1 with _ | _
            · have T := T3 true
              clear T3 hrow0 hrow1 hst hthree
              go_wp2
              go_roundw
              case rel => exact ⟨k + 1, _, _, none, by omega, by go_num, T.1, T.2.1, HS, T.2.2.1, T.2.2.2, .inr ⟨rfl, HFN.out (fun h => by rw [f2] at h; cases h.2)⟩⟩
              case measure => simp [intOf]; omega
            · have T := T3 false
              clear T3 hrow0 hrow1 hst hthree
              go_wp2
              go_roundw
              case rel => exact ⟨k + 1, _, _, some l, by omega, by go_num, T.1, T.2.1, HS, T.2.2.1, T.2.2.2, .inl ⟨rfl, HFY.out f1 f2⟩⟩
              case measure => simp [intOf]; omega
        · have t1 : ((mode : Int) == 8) = false := by simp; omega
          have t2 : ((mode : Int) == 9) = true := by simp; omega
          go_wp2_with fail
          refine (rfits _ a1 bits hbits1 (by omega)).mono ?_
          rintro e w' ⟨rfl, hw'⟩
          subst hw'
          go_wp2_with fail
          refine (rfits _ b1 bits hbits1 (by omega)).mono ?_
          rintro e w' ⟨rfl, hw'⟩
          subst hw'
          rcases f1 : fitsB bits a1 with _ | _
          · have T := T3 true
            clear T3 hrow0 hrow1 hst hthree
            go_wp2
            go_roundw
            case rel => exact ⟨k + 1, _, _, none, by omega, by go_num, T.1, T.2.1, HS, T.2.2.1, T.2.2.2, .inr ⟨rfl, HFN.out (fun h => by rw [f1] at h; cases h.1)⟩⟩
            case measure => simp [intOf]; omega
          · rcases f2 : fitsB bits b1 with _ | _
            · have T := T3 true
              clear T3 hrow0 hrow1 hst hthree
              go_wp2
              go_roundw
              case rel => exact ⟨k + 1, _, _, none, by omega, by go_num, T.1, T.2.1, HS, T.2.2.1, T.2.2.2, .inr ⟨rfl, HFN.out (fun h => by rw [f2] at h; cases h.2)⟩⟩
              case measure => simp [intOf]; omega
            · have T := T3 false
              clear T3 hrow0 hrow1 hst hthree
              go_wp2
              go_roundw
              case rel => exact ⟨k + 1, _, _, some l, by omega, by go_num, T.1, T.2.1, HS, T.2.2.1, T.2.2.2, .inl ⟨rfl, HFY.out f1 f2⟩⟩
              case measure => simp [intOf]; omega
        · have t1 : ((mode : Int) == 8) = false := by simp; omega
          have t2 : ((mode : Int) == 9) = false := by simp; omega
          have t4 : (q.tmod 2 != 0) = true := by rw [odd_t]; exact decide_eq_true hodd
          clear hodd
          go_wp2_with fail
          refine (rfits _ a1 bits hbits1 (by omega)).mono ?_
          rintro e w' ⟨rfl, hw'⟩
          subst hw'
          go_wp2_with fail
          refine (rfits _ b1 bits hbits1 (by omega)).mono ?_
          rintro e w' ⟨rfl, hw'⟩
          subst hw'
          rcases f1 : fitsB bits a1 with _ | _
          · have T := T3 true
            clear T3 hrow0 hrow1 hst hthree
            go_wp2
            go_roundw
            case rel => exact ⟨k + 1, _, _, none, by omega, by go_num, T.1, T.2.1, HS, T.2.2.1, T.2.2.2, .inr ⟨rfl, HFN.out (fun h => by rw [f1] at h; cases h.1)⟩⟩
            case measure => simp [intOf]; omega
          · rcases f2 : fitsB bits b1 with _ | _
            · have T := T3 true
              clear T3 hrow0 hrow1 hst hthree
              go_wp2
              go_roundw
              case rel => exact ⟨k + 1, _, _, none, by omega, by go_num, T.1, T.2.1, HS, T.2.2.1, T.2.2.2, .inr ⟨rfl, HFN.out (fun h => by rw [f2] at h; cases h.2)⟩⟩
              case measure => simp [intOf]; omega
            · have T := T3 false
              clear T3 hrow0 hrow1 hst hthree
              go_wp2
              go_roundw
              case rel => exact ⟨k + 1, _, _, some l, by omega, by go_num, T.1, T.2.1, HS, T.2.2.1, T.2.2.2, .inl ⟨rfl, HFY.out f1 f2⟩⟩
              case measure => simp [intOf]; omega
        · have t1 : ((mode : Int) == 8) = false := by simp; omega
          have t2 : ((mode : Int) == 9) = false := by simp; omega
          have t4 : (q.tmod 2 != 0) = false := by rw [odd_t]; exact decide_eq_false (by omega)
          clear hodd
          go_wp2_with fail
          refine (rfits _ a1 bits hbits1 (by omega)).mono ?_
          rintro e w' ⟨rfl, hw'⟩
          subst hw'
          go_wp2_with fail
          refine (rfits _ b1 bits hbits1 (by omega)).mono ?_
          rintro e w' ⟨rfl, hw'⟩
          subst hw'
          rcases f1 : fitsB bits a1 with _ | _
          · have T := T3 true
            clear T3 hrow0 hrow1 hst hthree
            go_wp2
            go_roundw
            case rel => exact ⟨k + 1, _, _, none, by omega, by go_num, T.1, T.2.1, HS, T.2.2.1, T.2.2.2, .inr ⟨rfl, HFN.out (fun h => by rw [f1] at h; cases h.1)⟩⟩
            case measure => simp [intOf]; omega
          · rcases f2 : fitsB bits b1 with _ | _
            · have T := T3 true
              clear T3 hrow0 hrow1 hst hthree
              go_wp2
              go_roundw
              case rel => exact ⟨k + 1, _, _, none, by omega, by go_num, T.1, T.2.1, HS, T.2.2.1, T.2.2.2, .inr ⟨rfl, HFN.out (fun h => by rw [f2] at h; cases h.2)⟩⟩
              case measure => simp [intOf]; omega
            · have T := T3 false
              clear T3 hrow0 hrow1 hst hthree
              go_wp2
              go_roundw
              case rel => exact ⟨k + 1, _, _, some l, by omega, by go_num, T.1, T.2.1, HS, T.2.2.1, T.2.2.2, .inl ⟨rfl, HFY.out f1 f2⟩⟩
              case measure => simp [intOf]; omega
      · have hm' : wr.cell? ⟨b, 2, none⟩ = some (.bool true) := hm
        clear hm
        go_wp2
        go_ret
        exact ⟨none, rfl, hst, hthree.os, hthree.tape, hthree.output, hthree.size, hthree.block, .inr ⟨rfl, hno⟩⟩
    · obtain rfl : k = n := by omega
      go_wp2
      go_ret
      refine ⟨σ', rfl, hst, hthree.os, hthree.tape, hthree.output, hthree.size, hthree.block, ?_⟩
      rcases hfit with ⟨rfl, hup⟩ | ⟨rfl, hno⟩
      · refine .inl ⟨rfl, hup, ?_, ?_⟩
        · rw [HYS.out.1, part_all A xs0 k (by have := HA.out.2.1; omega) (by have := HX.out.1; omega)] at hrow0
          exact hrow0
        · rw [HYS.out.2, part_all B xs1 k (by have := HA.out.2.2; omega) (by have := HX.out.2; omega)] at hrow1
          exact hrow1
      · exact .inr ⟨rfl, hno⟩

end Go.Proofs.Ytncmgnmcggkhnaa
