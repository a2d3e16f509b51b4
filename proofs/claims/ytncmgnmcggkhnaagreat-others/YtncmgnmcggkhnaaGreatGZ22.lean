import Derived.Test.YtncmgnmcggkhnaaGreatGZ21
import Derived.Deep.AppendLies
import Derived.Deep.DeepCutAuto
import Derived.Deep.CutBlock
import Derived.Lib.Builder
import Derived.Lib.AppendStr
import Derived.Lib.UnsafeStr
import Derived.Laws.Externs
namespace Go.Proofs.YtncmgnmcggkhnaaGreat
open Go.RowKit

/-- a sound that the laws make: right -/
def Made (rate bits m : Nat) (chs : List (List Int)) : Prop :=
  1 ≤ rate ∧ rate ≤ 655350 ∧ 4 ≤ bits ∧ bits ≤ 16 ∧ (chs.length = 1 ∨ chs.length = 2) ∧ ∀ c ∈ chs, c.length = m ∧ ∀ x ∈ c, fitsB bits x = true

def SoundPost (w : World) (m : Nat) (e : Ending) (w' : World) : Prop :=
  ∃ (rate bits : Nat) (lv : Value) (vs : List Value) (chs : List (List Int)), e = .returned (.agg #[.int .i64 rate, .int .i64 bits, lv]) ∧ w.grownBy w' none ∧ Subs w' w.heap.size lv vs chs ∧ Made rate bits m chs

/-- the loop over the channels -/
def SoI (w wr : World) (r rate bits m i : Nat) : Prop :=
  ∃ (lv : Value) (vs : List Value) (xss : List (List Int)), w.grownBy wr none ∧ Box wr r #[.int .i64 0, .int .i64 0, .slice none 0 0] 25 ∧ Box wr (r + 1) #[.int .i64 rate, .int .i64 bits, lv] 25 ∧ Subs wr (r + 2) lv vs xss ∧ xss.length = i ∧ r + 2 ≤ wr.heap.size ∧ ∀ c ∈ xss, c.length = m ∧ ∀ x ∈ c, fitsB bits x = true

/-- raw numbers that come in -/
def Rin (w : World) (v : Value) (raw : List Int) : Prop :=
  ∃ a c, v = .slice a raw.length c ∧ ∀ k, k < raw.length → ∃ b off, a = some ⟨b, off, none⟩ ∧ w.cell? ⟨b, off + k, none⟩ = some (.int .i64 (raw.getD k 0))

set_option maxHeartbeats 4000000 in
set_option maxRecDepth 20000 in
theorem ksound (w : World) (vr : Value) (raw : List Int) (wide channels rate : Int) (h : Rin w vr raw) (hrl : raw.length ≤ 9223372036854775807) (hr64 : ∀ x ∈ raw, -9223372036854775808 ≤ x ∧ x ≤ 9223372036854775807)
    (hw64 : -9223372036854775808 ≤ wide ∧ wide ≤ 9223372036854775807) (hc64 : -9223372036854775808 ≤ channels ∧ channels ≤ 9223372036854775807) (hra64 : -9223372036854775808 ≤ rate ∧ rate ≤ 9223372036854775807) :
    Calls Tryz.prog 4 #[vr, .int .i64 wide, .int .i64 channels, .int .i64 rate] w (SoundPost w (min raw.length 600)) := by
  obtain ⟨a, c, rfl, hat⟩ := h
  obtain ⟨n, hn⟩ : ∃ n, raw.length = n := ⟨_, rfl⟩
  rw [hn] at hrl ⊢
  have HN : Hid (raw.length = n) := hn
  have HH : Hid (∀ k, k < raw.length → ∃ b off, a = some ⟨b, off, none⟩ ∧ w.cell? ⟨b, off + k, none⟩ = some (.int .i64 (raw.getD k 0))) := hat
  clear hat
  obtain ⟨m, hm⟩ : ∃ m, min n 600 = m := ⟨_, rfl⟩
  rw [hm]
  have HM : Hid (min n 600 = m) := hm
  obtain ⟨r, hr⟩ : ∃ r, w.heap.size = r := ⟨_, rfl⟩
  obtain ⟨w0, hw0⟩ : ∃ w0, w.alloc (.cells #[.int .i64 0, .int .i64 0, .slice none 0 0] 25) = w0 := ⟨_, rfl⟩
  have hg0 : w.grownBy w0 none := by rw [← hw0]; exact grown_alloc (grown_refl _ _) _
  have hbr0 : Box w0 r #[.int .i64 0, .int .i64 0, .slice none 0 0] 25 := by rw [← hr, ← hw0]; exact Box.new _ _ _
  have hs0 : w0.heap.size = r + 1 := by rw [← hw0, ← hr]; simp
  have HW0 : Hid (w.alloc (.cells #[.int .i64 0, .int .i64 0, .slice none 0 0] 25) = w0) := hw0
  have HR : Hid (w.heap.size = r) := hr
  have HP1 : Calls _ _ #[_, .int .i64 655350] _ _ := pick_any rate 655350 w0 hra64.1 hra64.2 (by omega) (by omega)
  have HP2 : Calls _ _ #[_, .int .i64 13] _ _ := pick_any wide 13 w0 hw64.1 hw64.2 (by omega) (by omega)
  clear hn hm hw0 hr
  go_enter Tryz.func4, Tryz.ntmps4
  go_upto_region 1 with fail
  rw [HW0.out, HR.out]
  clear HW0
  go_wp2_with fail
  refine HP1.mono ?_
  rintro e w9 ⟨rn, hrn, rfl, rfl⟩
  clear HP1
  go_wp2_with fail
  refine HP2.mono ?_
  rintro e w9 ⟨bn, hbn, rfl, rfl⟩
  clear HP2
  have HP3 : ∀ wz, Calls _ _ #[_, .int .i64 2] wz _ := fun wz => pick_any channels 2 wz hc64.1 hc64.2 (by omega) (by omega)
  obtain ⟨bits, hbits⟩ : ∃ bits, 4 + bn = bits := ⟨_, rfl⟩
  obtain ⟨rt, hrt⟩ : ∃ rt, 1 + rn = rt := ⟨_, rfl⟩
  have hbz : 4 + (bn : Int) = (bits : Int) := by omega
  have hrz : 1 + (rn : Int) = (rt : Int) := by omega
  have hb416 : 4 ≤ bits ∧ bits ≤ 16 := by omega
  have hr1 : 1 ≤ rt ∧ rt ≤ 655350 := by omega
  obtain ⟨w1, hw1⟩ : ∃ w1, w9.alloc (.cells #[.int .i64 rt, .int .i64 bits, .slice none 0 0] 25) = w1 := ⟨_, rfl⟩
  have hg1 : w9.grownBy w1 none := by rw [← hw1]; exact grown_alloc (grown_refl _ _) _
  have hbs1 : Box w1 (r + 1) #[.int .i64 rt, .int .i64 bits, .slice none 0 0] 25 := by rw [← hs0, ← hw1]; exact Box.new _ _ _
  have hs1 : w1.heap.size = r + 2 := by rw [← hw1]; simp; omega
  have hI0 : SoI w w1 r rt bits m 0 := ⟨.slice none 0 0, [], [], grown_trans hg0 hg1, hbr0.kept hg1 (by simp), hbs1, Subs.nil _ _, rfl, by omega, fun c hc => by cases hc⟩
  have HW1 : Hid (w9.alloc (.cells #[.int .i64 rt, .int .i64 bits, .slice none 0 0] 25) = w1) := hw1
  have HS0 : Hid (w9.heap.size = r + 1) := hs0
  have s1 : w1.cell? ⟨r + 1, 1, none⟩ = some (.int .i64 bits) := hbs1.cell 1
  clear hbits hrt hrn hbn hw1 hs0 hg1 hbs1 hbr0 hg0 hs1
  go_upto_region 2 with fail
  rw [HW1.out, HS0.out]
  clear HW1 HS0 hbz hrz
  have HP3' := HP3 w1
  have hpow : (1 : Int) ≤ 2 ^ (bits - 1) ∧ (2 : Int) ^ (bits - 1) ≤ 32768 := by
    have h1 : 2 ^ (bits - 1) ≤ 2 ^ 15 := Nat.pow_le_pow_right (by omega) (by omega)
    have h2 := Nat.two_pow_pos (bits - 1)
    rw [show (2 : Int) ^ (bits - 1) = ((2 ^ (bits - 1) : Nat) : Int) by simp]
    omega
  have hb1z : ((bits : Int) - 1).toNat = bits - 1 := by omega
  clear HP3
  go_wp2_with fail
  refine HP3'.mono ?_
  rintro e w9 ⟨cn, hcn, rfl, rfl⟩
  clear HP3'
  obtain ⟨cc, hcc⟩ : ∃ cc, 1 + cn = cc := ⟨_, rfl⟩
  have hccz : 1 + (cn : Int) = (cc : Int) := by omega
  have hcc2 : 1 ≤ cc ∧ cc ≤ 2 := by omega
  obtain ⟨P, hP⟩ : ∃ P : Int, (2 : Int) ^ (bits - 1) = P := ⟨_, rfl⟩
  rw [hP] at hpow
  simp only [hP]
  have HP : Hid ((2 : Int) ^ (bits - 1) = P) := hP
  have hpow2 : (2 : Int) ^ bits = 2 * P := by
    obtain ⟨k, rfl⟩ : ∃ k, bits = k + 1 := ⟨bits - 1, by omega⟩
    rw [Int.pow_succ, ← hP, Nat.add_sub_cancel, Int.mul_comm]
  have HFT : Hid (∀ p : Nat, (p : Int) < 2 * P → fitsB bits (-P + p) = true) := by
    intro p hp
    have hc : ((2 ^ (bits - 1) : Nat) : Int) = P := by rw [← hP]; simp
    unfold fitsB
    rw [hc]
    simp only [Bool.and_eq_true, decide_eq_true_eq]
    omega
  obtain ⟨i0, hi, hz0, hz1, hz2⟩ := info_parts Tryz.info3
  obtain ⟨i1, hi1, hy0, hy1, hy2⟩ := info_parts Tryz.info22
  have HI : Hid _ := hi
  have HZ0 : Hid _ := hz0
  have HZ1 : Hid _ := hz1
  have HZ2 : Hid _ := hz2
  have HI1 : Hid _ := hi1
  have HY0 : Hid _ := hy0
  have HY1 : Hid _ := hy1
  have HY2 : Hid _ := hy2
  have HR64 : Hid (∀ x ∈ raw, -9223372036854775808 ≤ x ∧ x ≤ 9223372036854775807) := hr64
  clear hcc hP hi hz0 hz1 hz2 hi1 hy0 hy1 hy2 hr64 s1 hcn hb1z
  go_wp2_with fail
  go_loopg [12] cc (fun gk t12 wr => ∃ i : Nat, gk + i = cc ∧ t12 = .int .i64 i ∧ SoI w wr r rt bits m i)
  case atStart => exact ⟨0, rfl, rfl, hI0⟩
  case round =>
    clear hI0
    obtain ⟨i, hgk, rfl, hI⟩ := hrel
    by_cases hlt : i < cc
    · have hicc : (i : Int) < (cc : Int) := by omega
      obtain ⟨ko, rfl⟩ : ∃ ko : Nat, ko = gk := ⟨_, rfl⟩
      obtain ⟨wo, rfl⟩ : ∃ wo : World, wo = wr := ⟨_, rfl⟩
      obtain ⟨lv, vs, xss, hgo, hbr, hbs, hsubs, hxl, hro, hall⟩ := hI
      have HXL : Hid (xss.length = i) := hxl
      clear hxl
      go_wp2_with fail
      go_loopg [13, 14, 15] m (fun gq s13 s14 s15 wq => ∃ (k : Nat) (x : Int) (xs : List Int), gq + k = m ∧ s15 = .int .i64 k ∧ s14 = .int .i64 x ∧ -(70000 + 10 * (k : Int)) ≤ x ∧ x ≤ 70000 + 10 * (k : Int) ∧ xs.length = k ∧ Own wq wo.heap.size s13 xs ∧ wo.grownBy wq none ∧ ∀ y ∈ xs, fitsB bits y = true)
      case atStart => exact ⟨0, 0, [], rfl, rfl, rfl, by omega, by omega, rfl, Own.nil _ _, grown_refl _ _, fun y hy => by cases hy⟩
      case round =>
        obtain ⟨k, x, xs, hgq, rfl, rfl, hx1, hx2, hxs, hown, hgq', hfit⟩ := hrel
        by_cases hkm : k < m
        · have hkn : k < n := by have := HM.out; omega
          have hk6 : k < 600 := by have := HM.out; omega
          obtain ⟨bb, oo, rfl, hcell⟩ := HH.out k (by rw [HN.out]; exact hkn)
          obtain ⟨y, hy⟩ : ∃ y, raw.getD k 0 = y := ⟨_, rfl⟩
          have hyb : -9223372036854775808 ≤ y ∧ y ≤ 9223372036854775807 := by rw [← hy]; exact HR64.out _ (by have := HN.out; simp [List.getD, show k < raw.length by omega])
          rw [hy] at hcell
          have hcw : wr.cell? ⟨bb, oo + k, none⟩ = some (.int .i64 y) := (grown_trans hgo hgq').cell hcell (by simp)
          have tk1 : decide ((k : Int) < (n : Int)) = true := decide_eq_true (by omega)
          have tk2 : decide ((k : Int) < 600) = true := decide_eq_true (by omega)
          have hkn2 : (k : Int) < (n : Int) := by omega
          have HPK : Calls _ _ #[_, .int .i64 1099511627776] _ _ := pick_any y 1099511627776 wr hyb.1 hyb.2 (by omega) (by omega)
          have hbsr := hbs.kept hgq' (by simp)
          have sb : wr.cell? ⟨wo.heap.size, 0, none⟩ = wr.cell? ⟨wo.heap.size, 0, none⟩ := rfl
          clear hy hcell sb
          have s1 : wr.cell? ⟨r + 1, 1, none⟩ = some (.int .i64 bits) := hbsr.cell 1
          go_wp2_with fail
          refine HPK.mono ?_
          rintro e w9 ⟨cv, hcv, rfl, rfl⟩
          clear HPK
          have hc0 : (0 : Int) ≤ (cv : Int) := by omega
          have hc1 : (cv : Int) < 1099511627776 := by omega
          go_upto_block 4 with fail
          go_cut [14] (fun s14 wx => wx = w9 ∧ ∃ x' : Int, s14 = .int .i64 x' ∧ -(70000 + 10 * ((k : Int) + 1)) ≤ x' ∧ x' ≤ 70000 + 10 * ((k : Int) + 1))
          case first =>
            clear hcw hgo hgq' hbr hbs hsubs hall hown hfit hbsr
            obtain ⟨z, hz⟩ : ∃ z : Int, (cv : Int) / 4 = z := ⟨_, rfl⟩
            have hzb : 0 ≤ z ∧ z ≤ 1099511627776 := by omega
            rcases (show (cv : Int) % 4 = 0 ∨ (cv : Int) % 4 = 1 ∨ (cv : Int) % 4 = 2 ∨ (cv : Int) % 4 = 3 by omega) with hq | hq | hq | hq
            · have hz7 : 0 ≤ z % 7 ∧ z % 7 < 7 := by omega
              go_wp2
              go_meet
              case rel => exact ⟨rfl, _, rfl, by omega, by omega⟩
            · have h2P : (0 : Int) ≤ z % (2 * P) ∧ z % (2 * P) < 2 * P := ⟨Int.emod_nonneg _ (by omega), Int.emod_lt_of_pos _ (by omega)⟩
              have hnz : (2 * P == 0) = false := by simp; omega
              go_wp2
              go_meet
              case rel => exact ⟨rfl, _, rfl, by omega, by omega⟩
            · rcases (show i = 0 ∨ i = 1 by omega) with rfl | rfl
              · go_wp2
                go_meet
                case rel => exact ⟨rfl, x, rfl, by omega, by omega⟩
              · have hz5 : 0 ≤ z % 5 ∧ z % 5 < 5 := by omega
                go_wp2
                go_meet
                case rel => exact ⟨rfl, _, rfl, by omega, by omega⟩
            · go_wp2
              go_meet
              case rel => exact ⟨rfl, x, rfl, by omega, by omega⟩
          case rest =>
            obtain ⟨rfl, x', rfl, hx1', hx2'⟩ := hcut
            obtain ⟨Q, hQ⟩ : ∃ Q : Nat, (Q : Int) = 2 * P := ⟨(2 * P).toNat, by omega⟩
            have hpow3 : (2 : Int) ^ bits = (Q : Int) := by rw [hpow2, hQ]
            have hQ2 : 1 ≤ Q ∧ Q ≤ 65536 := by omega
            have HQ : Hid ((Q : Int) = 2 * P) := hQ
            have HPK2 := pick_any (x' + P) Q wc (by omega) (by omega) (by omega) (by omega)
            have hxp : x' - -P = x' + P := by omega
            obtain ⟨a13, c13, hv13⟩ := own_slice hown
            subst hv13
            have HXS : Hid (xs.length = k) := hxs
            rw [hxs] at hown ⊢
            have HOWN : Hid (Own wc wo.heap.size (.slice a13 k c13) xs) := hown
            have hrowA : wc.ownsRow wo.heap.size 3 1 (.slice a13 k c13) k (xs.map (Value.int .i64)) := by
              have h9 := hown
              unfold Own at h9
              rw [hxs] at h9
              exact h9
            have HRA : Hid _ := hrowA
            have hwoc : wo.heap.size ≤ wc.heap.size := hgq'.size
            clear hQ hpow2 hxs hcw hown hrowA
            go_wp2_with fail
            refine HPK2.mono ?_
            rintro e w9 ⟨p, hp, rfl, rfl⟩
            clear HPK2
            go_wp2_with (first
              | (at_builtin; refine wpList_append_own _ rfl _ _ 22 rfl wo.heap.size 3 i0 (.int .i64 0) 1 8 Tryz.underlying22 HI.out HZ0.out HZ1.out HZ2.out rfl (by decide) _ _ _ rfl (World.ownsRow.alloc HRA.out _) ⟨w9.heap.size, 0, none⟩ 1 1 [.int .i64 (-P + p)] rfl rfl ?c1 ?c2 ?c3 ?c4 ?c5 ?_))
            case c1 => exact one_new _ _ _
            case c2 => exact one_cell _
            case c3 => unfold maxLen; omega
            case c4 => omega
            case c5 => simp; omega
            intro v' w4 hown' hgrow _
            have hfitp := HFT.out p (by have := HQ.out; omega)
            have hown4 : Own w4 wo.heap.size v' (xs ++ [-P + (p : Int)]) := by
              unfold Own
              rw [List.map_append, List.length_append, List.length_singleton, HXS.out]
              exact hown'
            obtain ⟨a14, c14, hv14⟩ := row_slice hown'
            subst hv14
            have hgrow2 := grown_from_alloc hgrow (fun g hg' => (HOWN.out.lt g hg').2)
            have hgr4 : wo.grownBy w4 none := grown_new hgq' hgrow2 (fun g hg' => (HOWN.out.lt g hg').1)
            have hfit4 : ∀ y ∈ xs ++ [-P + (p : Int)], fitsB bits y = true := by
              intro y hy
              rcases List.mem_append.1 hy with hy | hy
              · exact hfit y hy
              · rw [List.mem_singleton.1 hy]; exact hfitp
            clear hown' hgrow hgrow2 HOWN HRA hgq' hfit hbsr
            go_wp2
            go_roundg (gk - 1)
            case measure => omega
            case rel => exact ⟨k + 1, x', xs ++ [-P + (p : Int)], by omega, by go_num, rfl, by omega, by omega, by rw [List.length_append, HXS.out]; rfl, hown4, hgr4, hfit4⟩
        · have hkm2 : k = m := by omega
          subst hkm2
          obtain ⟨a13, c13, hv13⟩ := own_slice hown
          subst hv13
          rw [hxs] at hown ⊢
          have HXS : Hid (xs.length = k) := hxs
          have hcond : n ≤ k ∨ ((k : Int) < (n : Int) ∧ k = 600) := by
            have := HM.out
            rcases Nat.lt_or_ge k n with h1 | h1
            · exact .inr ⟨by omega, by omega⟩
            · exact .inl h1
          have hbsr := hbs.kept hgq' (by simp)
          have hbrr := hbr.kept hgq' (by simp)
          have hsubr : Subs wr (r + 2) lv vs xss := by
            have h1 := hsubs
            exact ⟨ownsRow_kp h1.row (Kp.ofNone (S := fun _ => False) hgq') (fun _ _ e => e), h1.len, fun j hj => (h1.own j hj).kp (Kp.ofNone (S := fun _ => False) hgq') (fun _ _ e => e), h1.apartL, h1.apartV⟩
          obtain ⟨alv, clv, hlv⟩ := row_slice hsubs.row
          subst hlv
          have hvl : vs.length = i := by rw [hsubs.len]; exact HXL.out
          rw [hvl] at hbsr hsubs hsubr
          have s2 : wr.cell? ⟨r + 1, 2, none⟩ = some (.slice alv i clv) := hbsr.cell 2
          have fz2 := hbsr.fz 2
          have hrowL : wr.ownsRow (r + 2) 22 1 (.slice alv i clv) i vs := by have h9 := hsubr.row; rw [hvl] at h9; exact h9
          have HRL : Hid _ := hrowL
          have hrs : r + 2 ≤ wr.heap.size := Nat.le_trans hro hgq'.size
          have HOWN : Hid (Own wr wo.heap.size (.slice a13 k c13) xs) := hown
          have HBS : Hid _ := hbsr
          have HBR : Hid _ := hbrr
          have HSU : Hid (Subs wo (r + 2) (.slice alv i clv) vs xss) := hsubs
          have HSR : Hid (Subs wr (r + 2) (.slice alv i clv) vs xss) := hsubr
          have HVL : Hid (vs.length = i) := hvl
          clear hxs hown hbsr hbrr hsubr hrowL hvl hsubs hgq
          rcases hcond with tc1 | ⟨tc1, tc2⟩
          · have tc3 : (k < n) = False := by simp; omega
            have tc4 : decide (k < n) = false := decide_eq_false (by omega)
            have tc5 : decide ((k : Int) < (n : Int)) = false := decide_eq_false (by omega)
            go_wp2_with (first
              | (at_builtin; refine wpList_append_lies _ rfl _ _ 23 rfl (r + 2) 22 i1 (.slice none 0 0) 1 24 Tryz.underlying23 HI1.out HY0.out HY1.out HY2.out rfl (by decide) (.slice alv i clv) i vs rfl (World.ownsRow.alloc HRL.out _) ⟨wr.heap.size, 0, none⟩ 1 1 [.slice a13 k c13] rfl rfl ?c1 ?c2 ?c6 ?c3 ?c4 ?c5 _ rfl ?_))
            case c1 => exact one_newV _ _ _
            case c2 => intro u hu; rw [List.mem_singleton.1 hu]; rfl
            case c6 => omega
            case c3 => unfold maxLen; omega
            case c4 => omega
            case c5 => simp; omega
            intro g cap w4 hrow' hgrow hat hglt
            have hlvlt : ∀ q, (Value.slice alv i clv).ownBlock = some q → r + 2 ≤ q ∧ q < wr.heap.size := fun q hq => World.ownsRow.lt HRL.out q hq
            have hgrow2 := grown_from_alloc hgrow (fun q hq => (hlvlt q hq).2)
            have hbs4 := Box.kept HBS.out hgrow2 (fun e => by have := (hlvlt _ e.symm).1; omega)
            have hbr4 := Box.kept HBR.out hgrow2 (fun e => by have := (hlvlt _ e.symm).1; omega)
            have s4 : w4.cell? ⟨r + 1, 2, none⟩ = some (.slice alv i clv) := hbs4.cell 2
            have f4 := hbs4.fz 2
            have hset := hbs4.set 2 (.slice (some ⟨g, 0, none⟩) (i + 1) cap)
            have hsg := grown_set w4 (r + 1) 2 (.slice (some ⟨g, 0, none⟩) (i + 1) cap)
            have hal : wr.grownBy (wr.alloc (.cells #[.slice a13 k c13] 22)) none := grown_alloc (grown_refl _ _) _
            have hsub1 : Subs (wr.alloc (.cells #[.slice a13 k c13] 22)) (r + 2) (.slice alv i clv) vs xss := by
              have h1 := HSR.out
              exact ⟨ownsRow_kp h1.row (Kp.ofNone (S := fun _ => False) hal) (fun _ _ e => e), h1.len, fun j hj => (h1.own j hj).kp (Kp.ofNone (S := fun _ => False) hal) (fun _ _ e => e), h1.apartL, h1.apartV⟩
            have hsub4 := Subs.snoc HSU.out (w1 := wr.alloc (.cells #[.slice a13 k c13] 22)) (by have := hgq'.size; simp; omega) hsub1 (HOWN.out.alloc _) hro hgrow hat (by simp) (by rw [HVL.out]; exact hrow')
            rw [HVL.out] at hsub4
            have hsub5 := hsub4.kept hsg (by omega)
            have hgw4 : w.grownBy w4 none := grown_new (grown_trans hgo hgq') hgrow2 (fun q hq => by have := (hlvlt q hq).1; have := HR.out; omega)
            have hgw5 : w.grownBy (w4.setCell ⟨r + 1, 2, none⟩ (.slice (some ⟨g, 0, none⟩) (i + 1) cap)) none := grown_new hgw4 hsg (fun q e => by injection e with e; have := HR.out; omega)
            have hI5 : SoI w (w4.setCell ⟨r + 1, 2, none⟩ (.slice (some ⟨g, 0, none⟩) (i + 1) cap)) r rt bits k (i + 1) := by
              refine ⟨_, _, _, hgw5, hbr4.kept hsg (fun e => by injection e with e; omega), hset, hsub5, by rw [List.length_append, HXL.out]; rfl, ?_, fun d hd => ?_⟩
              · have h1 := hsg.size
                have h2 := hgrow2.size
                omega
              · rcases List.mem_append.1 hd with hd | hd
                · exact hall d hd
                · rw [List.mem_singleton.1 hd]
                  exact ⟨HXS.out, hfit⟩
            clear hset hsg hsub1 hsub4 hsub5 hgw4 hgw5 hbs4 hbr4 hrow' hgrow hgrow2 hat hglt s2 fz2 hall hfit
            go_wp2
            go_roundg (ko - 1)
            case measure => omega
            case rel => exact ⟨i + 1, by omega, by go_num, hI5⟩
          · have tc6 : decide ((k : Int) < 600) = false := decide_eq_false (by omega)
            have tc7 : decide (k < 600) = false := decide_eq_false (by omega)
            have tc8 : (k < 600) = False := by simp; omega
            have tc9 : decide ((k : Int) < (n : Int)) = true := decide_eq_true tc1
            have hk9 : k ≤ 600 := by omega
            clear tc2
            go_wp2_with (first
              | (at_builtin; refine wpList_append_lies _ rfl _ _ 23 rfl (r + 2) 22 i1 (.slice none 0 0) 1 24 Tryz.underlying23 HI1.out HY0.out HY1.out HY2.out rfl (by decide) (.slice alv i clv) i vs rfl (World.ownsRow.alloc HRL.out _) ⟨wr.heap.size, 0, none⟩ 1 1 [.slice a13 k c13] rfl rfl ?c1 ?c2 ?c6 ?c3 ?c4 ?c5 _ rfl ?_))
            case c1 => exact one_newV _ _ _
            case c2 => intro u hu; rw [List.mem_singleton.1 hu]; rfl
            case c6 => omega
            case c3 => unfold maxLen; omega
            case c4 => omega
            case c5 => simp; omega
            intro g cap w4 hrow' hgrow hat hglt
            have hlvlt : ∀ q, (Value.slice alv i clv).ownBlock = some q → r + 2 ≤ q ∧ q < wr.heap.size := fun q hq => World.ownsRow.lt HRL.out q hq
            have hgrow2 := grown_from_alloc hgrow (fun q hq => (hlvlt q hq).2)
            have hbs4 := Box.kept HBS.out hgrow2 (fun e => by have := (hlvlt _ e.symm).1; omega)
            have hbr4 := Box.kept HBR.out hgrow2 (fun e => by have := (hlvlt _ e.symm).1; omega)
            have s4 : w4.cell? ⟨r + 1, 2, none⟩ = some (.slice alv i clv) := hbs4.cell 2
            have f4 := hbs4.fz 2
            have hset := hbs4.set 2 (.slice (some ⟨g, 0, none⟩) (i + 1) cap)
            have hsg := grown_set w4 (r + 1) 2 (.slice (some ⟨g, 0, none⟩) (i + 1) cap)
            have hal : wr.grownBy (wr.alloc (.cells #[.slice a13 k c13] 22)) none := grown_alloc (grown_refl _ _) _
            have hsub1 : Subs (wr.alloc (.cells #[.slice a13 k c13] 22)) (r + 2) (.slice alv i clv) vs xss := by
              have h1 := HSR.out
              exact ⟨ownsRow_kp h1.row (Kp.ofNone (S := fun _ => False) hal) (fun _ _ e => e), h1.len, fun j hj => (h1.own j hj).kp (Kp.ofNone (S := fun _ => False) hal) (fun _ _ e => e), h1.apartL, h1.apartV⟩
            have hsub4 := Subs.snoc HSU.out (w1 := wr.alloc (.cells #[.slice a13 k c13] 22)) (by have := hgq'.size; simp; omega) hsub1 (HOWN.out.alloc _) hro hgrow hat (by simp) (by rw [HVL.out]; exact hrow')
            rw [HVL.out] at hsub4
            have hsub5 := hsub4.kept hsg (by omega)
            have hgw4 : w.grownBy w4 none := grown_new (grown_trans hgo hgq') hgrow2 (fun q hq => by have := (hlvlt q hq).1; have := HR.out; omega)
            have hgw5 : w.grownBy (w4.setCell ⟨r + 1, 2, none⟩ (.slice (some ⟨g, 0, none⟩) (i + 1) cap)) none := grown_new hgw4 hsg (fun q e => by injection e with e; have := HR.out; omega)
            have hI5 : SoI w (w4.setCell ⟨r + 1, 2, none⟩ (.slice (some ⟨g, 0, none⟩) (i + 1) cap)) r rt bits k (i + 1) := by
              refine ⟨_, _, _, hgw5, hbr4.kept hsg (fun e => by injection e with e; omega), hset, hsub5, by rw [List.length_append, HXL.out]; rfl, ?_, fun d hd => ?_⟩
              · have h1 := hsg.size
                have h2 := hgrow2.size
                omega
              · rcases List.mem_append.1 hd with hd | hd
                · exact hall d hd
                · rw [List.mem_singleton.1 hd]
                  exact ⟨HXS.out, hfit⟩
            clear hset hsg hsub1 hsub4 hsub5 hgw4 hgw5 hbs4 hbr4 hrow' hgrow hgrow2 hat hglt s2 fz2 hall hfit
            go_wp2
            go_roundg (ko - 1)
            case measure => omega
            case rel => exact ⟨i + 1, by omega, by go_num, hI5⟩
    · have hic : i = cc := by omega
      subst hic
      obtain ⟨lv, vs, xss, hgo, hbr, hbs, hsubs, hxl, hro, hall⟩ := hI
      obtain ⟨alv, clv, hlv⟩ := row_slice hsubs.row
      subst hlv
      have q0 : wr.cell? ⟨r + 1, 0, none⟩ = some (.int .i64 rt) := hbs.cell 0
      have q1 : wr.cell? ⟨r + 1, 1, none⟩ = some (.int .i64 bits) := hbs.cell 1
      have q2 : wr.cell? ⟨r + 1, 2, none⟩ = some (.slice alv vs.length clv) := hbs.cell 2
      have p0 : wr.cell? ⟨r, 0, none⟩ = some (.int .i64 0) := hbr.cell 0
      have p1 : wr.cell? ⟨r, 1, none⟩ = some (.int .i64 0) := hbr.cell 1
      have p2 : wr.cell? ⟨r, 2, none⟩ = some (.slice none 0 0) := hbr.cell 2
      have y0 := hbr.fz 0
      have y1 := hbr.fz 1
      have y2 := hbr.fz 2
      have h3 := three_cells wr r _ _ _ _ (.int .i64 rt) (.int .i64 bits) (.slice alv vs.length clv) hbr
      have hfin : ∀ wf, wr.grownBy wf (some r) → SoundPost w m (.returned (.agg #[.int .i64 rt, .int .i64 bits, .slice alv vs.length clv])) wf := by
        intro wf hgf
        refine ⟨rt, bits, _, vs, xss, rfl, grown_new hgo hgf (fun q e => by injection e with e; have := HR.out; omega), (hsubs.kept hgf (by omega)).mono (by have := HR.out; omega), hr1.1, hr1.2, hb416.1, hb416.2, by rw [hxl]; omega, hall⟩
      have HFIN : Hid _ := hfin
      clear hfin hsubs hall hgk hxl
      go_wp2
      generalize (World.setCell _ _ (Value.slice alv vs.length clv)) = wf at h3 ⊢
      have x0 := h3.1.cell 0
      have x1 := h3.1.cell 1
      have x2 := h3.1.cell 2
      exact bodyPost_ret (v := .agg #[.int .i64 rt, .int .i64 bits, .slice alv vs.length clv]) (by simp [results, Tryz.results4, go_sem, x0, x1, x2]) rfl (HFIN.out wf h3.2)
end Go.Proofs.YtncmgnmcggkhnaaGreat

namespace Go.Proofs.YtncmgnmcggkhnaaGreat
open Go.RowKit

theorem bldSize : (Tryz.prog.info? 67).map (·.size) = some 2 := by kernel_rfl
theorem bldLies : liesAt Tryz.prog Tryz.prog.depth 67 (2 / Tryz.prog.cellsOf 67) 0 67 1 = true := by kernel_rfl
theorem bldPtr : Tryz.prog.underlying 65 = some (.pointer 67) := by kernel_rfl
theorem bldUns : Tryz.prog.underlying 113 = some .unsafePointer := by kernel_rfl
theorem bldByteP : Tryz.prog.underlying 95 = some (.pointer 5) := by kernel_rfl
theorem bldCells : Tryz.prog.cellsOf 5 = 1 := by kernel_rfl

/-- a builder in memory -/
structure BldS (w : World) (gb base : Nat) (p v : Value) (bs : List UInt8) : Prop where
  box : Box w gb #[p, v] 67
  row : w.ownsRow base 5 1 v bs.length (bs.map byteV)
  lt : gb < base
  ptr : p = .pointer none ∨ p = .pointer (some ⟨gb, 0, none⟩)

theorem Box.shape {w : World} {g : Nat} {cs : Array Value} {t : TypeId} (h : Box w g cs t) : w.shape? g = some (t, cs.size) := by
  unfold Box at h
  simp [World.shape?, h]

set_option maxHeartbeats 1000000 in
set_option maxRecDepth 100000 in
theorem qcopycheck (w : World) (gb : Nat) (p v : Value) (hb : Box w gb #[p, v] 67) (hp : p = .pointer none ∨ p = .pointer (some ⟨gb, 0, none⟩)) :
    Calls Tryz.prog 34 #[.pointer (some ⟨gb, 0, none⟩)] w fun e w' => e = .returned (.tuple #[]) ∧ Box w' gb #[.pointer (some ⟨gb, 0, none⟩), v] 67 ∧ w.grownBy w' (some gb) := by
  obtain ⟨j, hj, hjs⟩ := Option.map_eq_some_iff.1 bldSize
  rcases hp with rfl | rfl
  · have h0 : w.cell? ⟨gb, 0, none⟩ = some (.pointer none) := hb.cell 0
    have hf := hb.fz 0
    have hsh := hb.shape
    have hset := hb.set 0 (.pointer (some ⟨gb, 0, none⟩))
    go_enter Tryz.func34, Tryz.ntmps34
    go_wp2
    rw [Lib.run_to_unsafe w ⟨gb, 0, none⟩ bldPtr bldUns hj (by rw [hjs]; decide) hsh (by simp)]
    simp only [Result.andThen]
    rw [Oper.upon_value]
    go_wp2
    rw [run_callFunc_extern Tryz.func55 (by kernel_rfl) (by kernel_rfl) (by kernel_rfl) (e := Extern.AbiNoEscape.same) (by kernel_rfl)]
    rw [Lib.run_noEscape]
    simp only [Result.andThen]
    rw [Oper.upon_value]
    go_wp2
    rw [Lib.run_from_unsafe w ⟨gb, 0, none⟩ bldUns bldPtr hj hsh bldLies]
    simp only [Result.andThen]
    rw [Oper.upon_value]
    go_wp2
    exact bodyPost_end (v := .tuple #[]) (by simp [results, Tryz.results34, go_sem]) rfl ⟨rfl, hset, grown_set _ _ _ _⟩
  · have h0 : w.cell? ⟨gb, 0, none⟩ = some (.pointer (some ⟨gb, 0, none⟩)) := hb.cell 0
    go_enter Tryz.func34, Tryz.ntmps34
    go_wp2
    rw [Lib.run_neq_ptr_same w _ bldPtr hj]
    go_wp2
    exact bodyPost_end (v := .tuple #[]) (by simp [results, Tryz.results34, go_sem]) rfl ⟨rfl, hb, grown_refl _ _⟩

def BldPost (w : World) (gb base : Nat) (bs : List UInt8) (w' : World) : Prop := ∃ v, BldS w' gb base (.pointer (some ⟨gb, 0, none⟩)) v bs ∧ Kp w w' (fun b => b = gb ∨ base ≤ b)

theorem strCells_bytes (s : ByteArray) : Lib.strCells s = s.data.toList.map byteV := by
  unfold Lib.strCells byteV
  rfl

set_option maxHeartbeats 2000000 in
set_option maxRecDepth 100000 in
theorem qbwrite (w : World) (gb base : Nat) (p v : Value) (bs : List UInt8) (s : ByteArray) (h : BldS w gb base p v bs) (hb : base ≤ w.heap.size) (hl : bs.length ≤ 1099511627776) (hs : s.size ≤ 1099511627776) :
    Calls Tryz.prog 24 #[.pointer (some ⟨gb, 0, none⟩), .string s] w fun e w' => e = .returned (.tuple #[.int .i64 s.size, .nilIface]) ∧ BldPost w gb base (bs ++ s.data.toList) w' := by
  obtain ⟨i0, hi, hz0, hz1, hz2⟩ := info_parts infoU8
  have HCC := qcopycheck w gb p v h.box h.ptr
  obtain ⟨a, cp, rfl⟩ := row_slice h.row
  have hrow := h.row
  have hlt := h.lt
  obtain ⟨n, hn⟩ : ∃ n, bs.length = n := ⟨_, rfl⟩
  rw [hn] at HCC hrow hl
  have HN : Hid (bs.length = n) := hn
  have hnow : ∀ q, (Value.slice a n cp).ownBlock = some q → base ≤ q ∧ q < w.heap.size := fun q hq => World.ownsRow.lt hrow q hq
  clear h hn
  go_enter Tryz.func24, Tryz.ntmps24
  go_wp2_with fail
  refine HCC.mono ?_
  rintro e w1 ⟨rfl, hbx, hg1⟩
  have hrow1 := World.ownsRow.kept hrow hg1 (by
    cases hq : (Value.slice a n cp).ownBlock with
    | none => exact .inl rfl
    | some q => exact .inr (fun e => by injection e with e; have := (hnow q hq).1; omega))
  have c1 : w1.cell? ⟨gb, 1, none⟩ = some (.slice a n cp) := hbx.cell 1
  clear HCC hrow
  go_wp2_with (at_builtin; refine Lib.wpList_append_own_string _ rfl _ _ 30 9 rfl base 5 i0 Tryz.underlying30 Tryz.underlying9 hi hz0 hz1 hz2 _ _ _ rfl hrow1 s rfl ?c3 ?c4 ?c5 ?_)
  case c3 => unfold maxLen; omega
  case c4 => omega
  case c5 => have := hg1.size; omega
  intro v' w2 hown' hgrow _
  obtain ⟨a', cp', rfl⟩ := row_slice hown'
  have hbx2 := hbx.kept hgrow (fun e => by have := (hnow gb e.symm).1; omega)
  have d1 : w2.cell? ⟨gb, 1, none⟩ = some (.slice a n cp) := hbx2.cell 1
  have f1 := hbx2.fz 1
  have hset := hbx2.set 1 (.slice a' (n + s.size) cp')
  have hsg := grown_set w2 gb 1 (.slice a' (n + s.size) cp')
  have hrow3 := World.ownsRow.kept hown' hsg (by
    cases hq : (Value.slice a' (n + s.size) cp').ownBlock with
    | none => exact .inl rfl
    | some q => exact .inr (fun e => by injection e with e; have := (World.ownsRow.lt hown' q hq).1; omega))
  have hk : Kp w (w2.setCell ⟨gb, 1, none⟩ (.slice a' (n + s.size) cp')) (fun b => b = gb ∨ base ≤ b) := by
    refine ((Kp.mono (Kp.of hg1) (fun b hb => .inl (.inl (by injection hb)))).trans (Kp.of hgrow) (fun b hb => .inl (.inr (hnow b hb.symm).1))).trans (Kp.of hsg) (fun b hb => .inl (.inl (by injection hb)))
  have hpost : BldPost w gb base (bs ++ s.data.toList) (w2.setCell ⟨gb, 1, none⟩ (.slice a' (n + s.size) cp')) := by
    refine ⟨_, ⟨hset, ?_, hlt, .inr rfl⟩, hk⟩
    have hln : (bs ++ s.data.toList).length = n + s.size := by rw [List.length_append, HN.out]; simp
    rw [hln, List.map_append, ← strCells_bytes]
    exact hrow3
  clear hset hrow3 hk hown' hgrow hsg hrow1 hbx hbx2 hg1 hi hz0 hz1 hz2 c1
  go_wp2
  exact bodyPost_ret (v := .tuple #[.int .i64 s.size, .nilIface]) (by simp [results, Tryz.results24, go_sem]) rfl ⟨rfl, hpost⟩

set_option maxHeartbeats 1000000 in
set_option maxRecDepth 100000 in
theorem qbstring (w : World) (gb base : Nat) (p v : Value) (bs : List UInt8) (h : BldS w gb base p v bs) (h0 : bs ≠ []) :
    Calls Tryz.prog 27 #[.pointer (some ⟨gb, 0, none⟩)] w fun e w' => e = .returned (.string ⟨bs.toArray⟩) ∧ Below base w w' := by
  have hl0 : 1 ≤ bs.length := List.length_pos_iff.mpr h0
  have hrow := h.row
  obtain ⟨g, cap, cur, rfl, hbg, hg, hnc, hcm, hcs, htake⟩ : ∃ g cap cur, v = .slice (some ⟨g, 0, none⟩) bs.length cap ∧ base ≤ g ∧ w.heap[g]? = some (.cells cur 5 (0, 0)) ∧ bs.length ≤ cap ∧ cap ≤ maxLen ∧ cur.size = cap * 1 ∧ cur.toList.take (bs.length * 1) = bs.map byteV := by
    rcases hrow.2 with ⟨_, hz⟩ | ⟨g, cap, cur, hv, r⟩
    · omega
    · exact ⟨g, cap, cur, hv, r⟩
  have c1 : w.cell? ⟨gb, 1, none⟩ = some (.slice (some ⟨g, 0, none⟩) bs.length cap) := h.box.cell 1
  have hSD : (Builtin.unsafeSliceData_ #[30] 95 #[.slice (some ⟨g, 0, none⟩) bs.length cap]).run Tryz.prog w.drew = .ok (.pointer (some ⟨g, 0, none⟩)) w.drew :=
    Lib.run_unsafeSliceData_row _ _ _ _ _ _ (by omega)
  have hUS : (Builtin.unsafeString_ #[95, 3] 9 #[.pointer (some ⟨g, 0, none⟩), .int .i64 bs.length]).run Tryz.prog w.drew = .ok (.string ⟨bs.toArray⟩) (w.drew.freeze ⟨g, 0, none⟩ bs.length) := by
    refine Lib.run_unsafeString_row w.drew 95 3 9 5 bldByteP bldCells g cur.size (by have hg' : w.drew.heap[g]? = some (.cells cur 5 (0, 0)) := hg; simp [World.shape?, hg']) bs h0 (by omega) (by unfold maxLen at hcm; omega) ?_
    intro j x hx
    have hj : j < bs.length := by
      rcases Nat.lt_or_ge j bs.length with h1 | h1
      · exact h1
      · rw [List.getElem?_eq_none h1] at hx; cases hx
    have e : (⟨g, 0, none⟩ : Addr).add j = ⟨g, j, none⟩ := addr_add g j
    rw [e]
    show w.cell? ⟨g, j, none⟩ = _
    rw [World.ownsRow.cellAt hrow j (by omega), List.getElem?_map, hx]
    rfl
  clear hrow hcs htake h
  go_enter Tryz.func27, Tryz.ntmps27
  go_wp2
  go_region
  all_goals
    go_wp2
    exact bodyPost_ret (v := .string ⟨bs.toArray⟩) (by simp [results, Tryz.results27, go_sem]) rfl ⟨rfl, Lib.below_freeze (Below.drew (Below.refl base w)) (p := ⟨g, 0, none⟩) hbg _⟩
end Go.Proofs.YtncmgnmcggkhnaaGreat
