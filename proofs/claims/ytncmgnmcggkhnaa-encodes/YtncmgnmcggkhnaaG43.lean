import Derived.Test.YtncmgnmcggkhnaaG42
import Derived.Test.YtncmgnmcggkhnaaG07
import Derived.BigQuiet
import Derived.Test.YtncmgnmcggkhnaaG38
import Derived.Test.YtncmgnmcggkhnaaG03
import Derived.Test.YtncmgnmcggkhnaaG30
import Derived.Test.YtncmgnmcggkhnaaG28
namespace Go.Proofs.Ytncmgnmcggkhnaa
open Go.RowKit

def AsLentPost (w : World) (e : Ending) (w' : World) : Prop := e = .returned (.bool true) ∧ w.grownBy w' none

set_option maxHeartbeats 4000000 in
set_option maxRecDepth 20000 in
theorem laslent (w : World) (vx vs : Value) (rate bits : Int) (chs : List (List Int)) (hx : LentS w vx chs) (hs : RSnd w vs chs) (hcl : chs.length ≤ 17592186044416) (hlen : ∀ c ∈ chs, c.length ≤ 17592186044416) :
    Calls Try.prog 23 #[.agg #[.int .i64 rate, .int .i64 bits, vx], .agg #[.int .i64 rate, .int .i64 bits, vs]] w (AsLentPost w) := by
  obtain ⟨a, c, rfl⟩ := hs.slice
  obtain ⟨w1, hw1⟩ : ∃ w1, (w.alloc (.cells #[.int .i64 rate, .int .i64 bits, vx] 26)).alloc (.cells #[.int .i64 rate, .int .i64 bits, .slice a chs.length c] 26) = w1 := ⟨_, rfl⟩
  have hg1 : w.grownBy w1 none := by rw [← hw1]; exact grown_alloc (grown_alloc (grown_refl _ _) _) _
  obtain ⟨gX, hgX⟩ : ∃ gX, w.heap.size = gX := ⟨_, rfl⟩
  have hsz : (w.alloc (.cells #[.int .i64 rate, .int .i64 bits, vx] 26)).heap.size = gX + 1 := by rw [← hgX]; simp
  have hbX : Box w1 gX #[.int .i64 rate, .int .i64 bits, vx] 26 := by
    rw [← hgX, ← hw1]
    exact (Box.new w _ _).kept (grown_alloc (grown_refl _ none) _) (by simp)
  have hbS : Box w1 (gX + 1) #[.int .i64 rate, .int .i64 bits, .slice a chs.length c] 26 := by
    rw [← hsz, ← hw1]
    exact Box.new _ _ _
  have hx1 := hx.kept hg1
  have hs1 := hs.kept hg1
  have x0 : w1.cell? ⟨gX, 0, none⟩ = some (.int .i64 rate) := hbX.cell 0
  have x1 : w1.cell? ⟨gX, 1, none⟩ = some (.int .i64 bits) := hbX.cell 1
  have x2 : w1.cell? ⟨gX, 2, none⟩ = some vx := hbX.cell 2
  have s0 : w1.cell? ⟨gX + 1, 0, none⟩ = some (.int .i64 rate) := hbS.cell 0
  have s1 : w1.cell? ⟨gX + 1, 1, none⟩ = some (.int .i64 bits) := hbS.cell 1
  have s2 : w1.cell? ⟨gX + 1, 2, none⟩ = some (.slice a chs.length c) := hbS.cell 2
  have HLEN : Hid (∀ k, (chs.getD k []).length ≤ 17592186044416) := by
    intro k
    by_cases hk : k < chs.length
    · exact hlen _ (by simp [List.getD, hk])
    · simp [List.getD, hk]
  obtain ⟨n, hn⟩ : ∃ n, chs.length = n := ⟨_, rfl⟩
  have HN : Hid (chs.length = n) := hn
  obtain ⟨lg, rfl, _, hl, hm⟩ := hx1
  have HL : Hid (∀ i, i < n → ∃ vi, w1.cell? ⟨lg, i, none⟩ = some vi ∧ LentL w1 vi (chs.getD i [])) := by rw [← hn]; exact hl
  have HM : Hid (∀ k, k < 8 → ∃ b c, w1.cell? ⟨lg, n + k, none⟩ = some (.slice (some ⟨b, 0, none⟩) 1 c) ∧ w1.cell? ⟨b, 0, none⟩ = some (.int .i64 88888)) := by rw [← hn]; exact hm
  have HRS : Hid (RSnd w1 (.slice a chs.length c) chs) := hs1
  rw [hn] at x2 s2 hcl hw1 ⊢
  rw [hn] at HRS
  have HW1 : Hid ((w.alloc (.cells #[.int .i64 rate, .int .i64 bits, .slice (some ⟨lg, 0, none⟩) n (n + 8)] 26)).alloc (.cells #[.int .i64 rate, .int .i64 bits, .slice a n c] 26) = w1) := hw1
  have HGX : Hid (w.heap.size = gX) := hgX
  have HPOST : Hid (AsLentPost w (.returned (.bool true)) w1) := ⟨rfl, hg1⟩
  clear hw1 hgX hsz hbX hbS hx hs hs1 hl hm hn hg1 hlen
  go_enter Try.func23, Try.ntmps23
  go_upto_region 1 with fail
  rw [HW1.out, HGX.out]
  clear HW1
  go_wp2_with fail
  go_loopg [6] 8 (fun gk t6 wr => ∃ k : Nat, gk + k = 8 ∧ t6 = .int .i64 k ∧ wr = w1)
  case atStart => exact ⟨0, rfl, rfl, rfl⟩
  case round =>
    obtain ⟨k, hgk, rfl, hwr⟩ := hrel
    have hwr := hwr.symm
    subst hwr
    by_cases hk : k < 8
    · have hkz : (k : Int) < 8 := by omega
      obtain ⟨bk, ck, m1, m2⟩ := HM.out k hk
      go_wp2
      go_roundg (gk - 1)
      case measure => omega
      case rel => exact ⟨k + 1, by omega, by go_num, rfl⟩
    · have tk : decide ((k : Int) < 8) = false := decide_eq_false (by omega)
      clear hgk hk
      go_wp2_with fail
      go_loopg [8] n (fun gk t8 wr => ∃ i : Nat, gk + i = n ∧ t8 = .int .i64 i ∧ wr = w1)
      case atStart => exact ⟨0, rfl, rfl, rfl⟩
      case round =>
        obtain ⟨i, hgk, rfl, hwr⟩ := hrel
        have hwr := hwr.symm
        subst hwr
        by_cases hi : i < n
        · have hiz : (i : Int) < (n : Int) := by omega
          obtain ⟨v1, p1, hL1⟩ := HL.out i hi
          obtain ⟨lg2, og, v2, ea, q1, hR1⟩ := HRS.out.at i (by rw [HN.out]; exact hi)
          subst ea
          obtain ⟨b1, rfl, _, hb1⟩ := hL1
          obtain ⟨a2, c2, rfl, _⟩ := hR1.slice
          have hlm := HLEN.out i
          obtain ⟨m, hm⟩ : ∃ m, (chs.getD i []).length = m := ⟨_, rfl⟩
          rw [hm] at p1 q1 hlm hb1
          have HMM : Hid ((chs.getD i []).length = m) := hm
          rw [hm] at hR1
          have HB1 : Hid (∀ k, k < m + 8 → w1.cell? ⟨b1, k, none⟩ = some (.int .i64 ((chs.getD i [] ++ List.replicate 8 77777).getD k 0))) := hb1
          have HR1 : Hid (RinC w1 (.slice a2 m c2) (chs.getD i [])) := hR1
          have tm : ((m : Int) != (m : Int)) = false := by simp
          clear hb1 hR1 hm
          obtain ⟨ko, rfl⟩ : ∃ ko : Nat, ko = gk := ⟨_, rfl⟩
          go_wp2_with fail
          go_loopg [11] (m + 8) (fun gq t11 wr => ∃ j : Nat, gq + j = m + 8 ∧ t11 = .int .i64 j ∧ wr = w1)
          case atStart => exact ⟨0, rfl, rfl, rfl⟩
          case round =>
            obtain ⟨j, hgq, rfl, hwr⟩ := hrel
            have hwr := hwr.symm
            subst hwr
            by_cases hj : j < m + 8
            · have tj : decide ((j : Int) < (m : Int) + 8) = true := decide_eq_true (by omega)
              have r1 := HB1.out j hj
              by_cases hjm : j < m
              · have tjm : decide ((j : Int) < (m : Int)) = true := decide_eq_true (by omega)
                obtain ⟨b2, o2, ea2, r2⟩ := HR1.out.at j (by rw [HMM.out]; exact hjm)
                have e9 : (chs.getD i [] ++ List.replicate 8 77777).getD j 0 = (chs.getD i []).getD j 0 := by
                  have := HMM.out
                  generalize chs.getD i [] = L at this ⊢
                  rw [List.getD, List.getD, List.getElem?_append_left (by omega)]
                rw [e9] at r1
                obtain ⟨x, hx⟩ : ∃ x, (chs.getD i []).getD j 0 = x := ⟨_, rfl⟩
                rw [hx] at r1 r2
                subst ea2
                have tx : (x != x) = false := by simp
                clear e9 hx
                go_wp2
                go_roundg (gk - 1)
                case measure => omega
                case rel => exact ⟨j + 1, by omega, by go_num, rfl⟩
              · have tjm : decide ((j : Int) < (m : Int)) = false := decide_eq_false (by omega)
                have e9 : (chs.getD i [] ++ List.replicate 8 77777).getD j 0 = 77777 := by
                  have := HMM.out
                  generalize chs.getD i [] = L at this ⊢
                  rw [List.getD, List.getElem?_append_right (by omega), List.getElem?_replicate, if_pos (by omega)]
                  rfl
                rw [e9] at r1
                clear e9
                go_wp2
                go_roundg (gk - 1)
                case measure => omega
                case rel => exact ⟨j + 1, by omega, by go_num, rfl⟩
            · have tj : decide ((j : Int) < (m : Int) + 8) = false := decide_eq_false (by omega)
              go_wp2
              go_roundg (ko - 1)
              case measure => omega
              case rel => exact ⟨i + 1, by omega, by go_num, rfl⟩
        · have hin : i = n := by omega
          subst hin
          have ti : decide ((i : Int) < (i : Int)) = false := decide_eq_false (by omega)
          have tr : (rate == rate) = true := by simp
          have tb : (bits == bits) = true := by simp
          have hpost := HPOST.out
          go_wp2
          exact bodyPost_ret (v := .bool true) (by simp [results, Try.results23, go_sem]) rfl hpost
end Go.Proofs.Ytncmgnmcggkhnaa

namespace Go.Proofs.Ytncmgnmcggkhnaa
open Go.RowKit

/-- a sound is right -/
def RightB (rate bits : Int) (chs : List (List Int)) : Prop :=
  1 ≤ rate ∧ rate ≤ 655350 ∧ 4 ≤ bits ∧ bits ≤ 16 ∧ 1 ≤ chs.length ∧ chs.length ≤ 2 ∧ ∀ c ∈ chs, c.length = (chs.getD 0 []).length ∧ c.length ≤ 1200 ∧ ∀ x ∈ c, fitsB bits.toNat x = true

theorem RightB.rightIn {rate bits : Int} {chs : List (List Int)} (h : RightB rate bits chs) (b : Nat) (hb : 16 ≤ b ∧ b ≤ 256) : RightIn rate bits b chs ⟨b, rate.toNat, chs.length, bits.toNat, (chs.getD 0 []).length⟩ := by
  obtain ⟨h1, h2, h3, h4, h5, h6, h7⟩ := h
  have h0 : (chs.getD 0 []).length ≤ 1200 := (h7 (chs.getD 0 []) (by simp [List.getD, show 0 < chs.length by omega])).2.1
  refine ⟨by show ((rate.toNat : Nat) : Int) = rate; omega, by show ((bits.toNat : Nat) : Int) = bits; omega, rfl, ?_, rfl, h5, fun c hc => (h7 c hc).1, fun c hc => (h7 c hc).2.2⟩
  unfold headOk
  simp only [Bool.and_eq_true, decide_eq_true_eq]
  omega

theorem RightIn.rightB {rate bits block : Int} {chs : List (List Int)} {h : Head} (hr : RightIn rate bits block chs h) : RightB rate bits chs ∧ 16 ≤ block ∧ block ≤ 256 := by
  obtain ⟨h1, h2, h3, hs⟩ := hr
  obtain ⟨p1, p2, p3, p4, p5, p6, p7, p8⟩ := headOk_parts hs.ok
  have hc := hs.ch
  have hc1 := hs.ch1
  have hl := hs.head_len
  rw [headD_getD] at hl
  refine ⟨⟨by omega, by omega, by omega, by omega, by omega, by omega, fun c hc' => ⟨by rw [hs.len c hc', hl], by rw [hs.len c hc']; exact p8, ?_⟩⟩, by omega, by omega⟩
  have e : bits.toNat = h.bits := by omega
  rw [e]
  exact hs.fit c hc'

def RisPost (w : World) (rate bits : Int) (chs : List (List Int)) (e : Ending) (w' : World) : Prop :=
  w.grownBy w' none ∧ ∃ ok : Bool, e = .returned (.bool ok) ∧ (ok = true ↔ RightB rate bits chs)

set_option maxHeartbeats 4000000 in
set_option maxRecDepth 20000 in
theorem rissound (w : World) (v : Value) (rate bits : Int) (chs : List (List Int)) (h : RSnd w v chs) (hcl : chs.length ≤ 17592186044416) (hlen : ∀ c ∈ chs, c.length ≤ 17592186044416) :
    Calls Try.prog 24 #[.agg #[.int .i64 rate, .int .i64 bits, v]] w (RisPost w rate bits chs) := by
  obtain ⟨a, c, rfl⟩ := h.slice
  obtain ⟨n, hn⟩ : ∃ n, chs.length = n := ⟨_, rfl⟩
  rw [hn] at h hcl ⊢
  have HN : Hid (chs.length = n) := hn
  obtain ⟨w0, hw0⟩ : ∃ w0, w.alloc (.cells #[.int .i64 rate, .int .i64 bits, .slice a n c] 26) = w0 := ⟨_, rfl⟩
  have hg0 : w.grownBy w0 none := by rw [← hw0]; exact grown_alloc (grown_refl _ _) _
  obtain ⟨gS, hgS⟩ : ∃ gS, w.heap.size = gS := ⟨_, rfl⟩
  have hbS : Box w0 gS #[.int .i64 rate, .int .i64 bits, .slice a n c] 26 := by rw [← hgS, ← hw0]; exact Box.new _ _ _
  have h0 := h.kept hg0
  have HW0 : Hid (w.alloc (.cells #[.int .i64 rate, .int .i64 bits, .slice a n c] 26) = w0) := hw0
  have HGS : Hid (w.heap.size = gS) := hgS
  have z0 : w0.cell? ⟨gS, 0, none⟩ = some (.int .i64 rate) := hbS.cell 0
  have z1 : w0.cell? ⟨gS, 1, none⟩ = some (.int .i64 bits) := hbS.cell 1
  have z2 : w0.cell? ⟨gS, 2, none⟩ = some (.slice a n c) := hbS.cell 2
  have HG0 : Hid (w.grownBy w0 none) := hg0
  have HLEN : Hid (∀ k, (chs.getD k []).length ≤ 17592186044416) := by
    intro k
    by_cases hk : k < chs.length
    · exact hlen _ (by simp [List.getD, hk])
    · simp [List.getD, hk]
  clear hw0 hgS hn h hbS hg0 hlen
  have hfalse : ¬ RightB rate bits chs → RisPost w rate bits chs (.returned (.bool false)) w0 := fun hno => ⟨HG0.out, false, rfl, by simp [hno]⟩
  have HFALSE : Hid _ := hfalse
  clear hfalse
  by_cases k1 : rate < 1
  · have t1 : decide (rate < 1) = true := decide_eq_true k1
    have hpost := HFALSE.out (fun hr => by have := hr.1; have := HN.out; omega)
    clear h0
    go_enter Try.func24, Try.ntmps24
    go_upto_region 1 with fail
    rw [HW0.out, HGS.out]
    go_wp2
    exact bodyPost_ret (v := .bool false) (by simp [results, Try.results24, go_sem]) rfl hpost
  have t1 : decide (rate < 1) = false := decide_eq_false k1
  by_cases k2 : 655350 < rate
  · have t2 : decide (655350 < rate) = true := decide_eq_true k2
    have hpost := HFALSE.out (fun hr => by have := hr.2.1; have := HN.out; omega)
    clear h0
    go_enter Try.func24, Try.ntmps24
    go_upto_region 1 with fail
    rw [HW0.out, HGS.out]
    go_wp2
    exact bodyPost_ret (v := .bool false) (by simp [results, Try.results24, go_sem]) rfl hpost
  have t2 : decide (655350 < rate) = false := decide_eq_false k2
  by_cases k3 : bits < 4
  · have t3 : decide (bits < 4) = true := decide_eq_true k3
    have hpost := HFALSE.out (fun hr => by have := hr.2.2.1; have := HN.out; omega)
    clear h0
    go_enter Try.func24, Try.ntmps24
    go_upto_region 1 with fail
    rw [HW0.out, HGS.out]
    go_wp2
    exact bodyPost_ret (v := .bool false) (by simp [results, Try.results24, go_sem]) rfl hpost
  have t3 : decide (bits < 4) = false := decide_eq_false k3
  by_cases k4 : 16 < bits
  · have t4 : decide (16 < bits) = true := decide_eq_true k4
    have hpost := HFALSE.out (fun hr => by have := hr.2.2.2.1; have := HN.out; omega)
    clear h0
    go_enter Try.func24, Try.ntmps24
    go_upto_region 1 with fail
    rw [HW0.out, HGS.out]
    go_wp2
    exact bodyPost_ret (v := .bool false) (by simp [results, Try.results24, go_sem]) rfl hpost
  have t4 : decide (16 < bits) = false := decide_eq_false k4
  by_cases k5 : (n : Int) < 1
  · have t5 : decide ((n : Int) < 1) = true := decide_eq_true k5
    have hpost := HFALSE.out (fun hr => by have := hr.2.2.2.2.1; have := HN.out; omega)
    clear h0
    go_enter Try.func24, Try.ntmps24
    go_upto_region 1 with fail
    rw [HW0.out, HGS.out]
    go_wp2
    exact bodyPost_ret (v := .bool false) (by simp [results, Try.results24, go_sem]) rfl hpost
  have t5 : decide ((n : Int) < 1) = false := decide_eq_false k5
  by_cases k6 : 2 < (n : Int)
  · have t6 : decide (2 < (n : Int)) = true := decide_eq_true k6
    have hpost := HFALSE.out (fun hr => by have := hr.2.2.2.2.2.1; have := HN.out; omega)
    clear h0
    go_enter Try.func24, Try.ntmps24
    go_upto_region 1 with fail
    rw [HW0.out, HGS.out]
    go_wp2
    exact bodyPost_ret (v := .bool false) (by simp [results, Try.results24, go_sem]) rfl hpost
  have t6 : decide (2 < (n : Int)) = false := decide_eq_false k6
  have hq : 1 ≤ rate ∧ rate ≤ 655350 ∧ 4 ≤ bits ∧ bits ≤ 16 ∧ 1 ≤ n ∧ n ≤ 2 := by omega
  obtain ⟨q1, q2, q3, q4, q5, q6⟩ := hq
  clear k1 k2 k3 k4 k5 k6
  obtain ⟨bn, hbn⟩ : ∃ bn : Nat, bits = (bn : Int) := ⟨bits.toNat, by omega⟩
  subst hbn
  have hbnn : (bn : Int).toNat = bn := by omega
  have HBN : Hid ((bn : Int).toNat = bn) := hbnn
  have hfalse2 : ¬ RightB rate bn chs → ∀ d, RisPost w rate bn chs (.returned (.bool false)) (w0.drewN d) := fun hno d => ⟨grown_drewN HG0.out d, false, rfl, by simp [hno]⟩
  have HF2 : Hid _ := hfalse2
  clear hbnn hfalse2
  obtain ⟨lg0, og0, v0, hlg0, hc0, hl0⟩ := h0.at 0 (by rw [HN.out]; omega)
  rw [Nat.add_zero] at hc0
  obtain ⟨a0, p0, rfl, _⟩ := hl0.slice
  obtain ⟨m0, hm0⟩ : ∃ m0, (chs.getD 0 []).length = m0 := ⟨_, rfl⟩
  rw [hm0] at hc0
  have HM0 : Hid ((chs.getD 0 []).length = m0) := hm0
  have hm0b : m0 ≤ 17592186044416 := by rw [← hm0]; exact HLEN.out 0
  subst hlg0
  clear hl0 hm0
  go_enter Try.func24, Try.ntmps24
  go_upto_region 1 with fail
  rw [HW0.out, HGS.out]
  clear HW0
  go_wp2_with fail
  go_loopg [4] n (fun gk t4 wr => ∃ (i d : Nat), gk + i = n ∧ t4 = .int .i64 i ∧ wr = w0.drewN d ∧ ∀ j, j < i → (chs.getD j []).length = m0 ∧ m0 ≤ 1200 ∧ ∀ x ∈ chs.getD j [], fitsB bn x = true)
  case atStart => exact ⟨0, 0, rfl, rfl, rfl, fun j hj => by omega⟩
  case round =>
    obtain ⟨i, d, hgk, rfl, hwr, hprev⟩ := hrel
    have HPREV : Hid (∀ j, j < i → (chs.getD j []).length = m0 ∧ m0 ≤ 1200 ∧ ∀ x ∈ chs.getD j [], fitsB bn x = true) := hprev
    have HWR : Hid (wr = w0.drewN d) := hwr
    have Z1 : wr.cell? ⟨gS, 1, none⟩ = some (.int .i64 bn) := by rw [hwr, World.cell?_drewN]; exact z1
    have Z2 : wr.cell? ⟨gS, 2, none⟩ = some (.slice (some ⟨lg0, og0, none⟩) n c) := by rw [hwr, World.cell?_drewN]; exact z2
    have C0 : wr.cell? ⟨lg0, og0, none⟩ = some (.slice a0 m0 p0) := by rw [hwr, World.cell?_drewN]; exact hc0
    by_cases hlt : i < n
    · obtain ⟨lg1, og1, v1, e1, hc1, hl1⟩ := h0.at i (by rw [HN.out]; exact hlt)
      injection e1 with e1
      injection e1 with e1 e2
      subst e1
      subst e2
      obtain ⟨a1, p1, rfl, _⟩ := hl1.slice
      obtain ⟨m1, hm1⟩ : ∃ m1, (chs.getD i []).length = m1 := ⟨_, rfl⟩
      have HM1 : Hid ((chs.getD i []).length = m1) := hm1
      have hmem : chs.getD i [] ∈ chs := by have := HN.out; simp [List.getD, show i < chs.length by omega]
      rw [hm1] at hc1
      have C1 : wr.cell? ⟨lg0, og0 + i, none⟩ = some (.slice a1 m1 p1) := by rw [hwr, World.cell?_drewN]; exact hc1
      have hm1b : m1 ≤ 17592186044416 := by rw [← hm1]; exact HLEN.out i
      have hin : (i : Int) < (n : Int) := by omega
      have hn0 : (0 : Int) < (n : Int) := by omega
      have hl1r : RinC wr (.slice a1 m1 p1) (chs.getD i []) := by rw [hwr, ← hm1]; exact hl1.drewN d
      clear hprev hwr z0 z1 z2 hc0 hc1 hm1 hl1
      by_cases g1 : m1 = m0
      rotate_left
      · have tg : ((m1 : Int) != (m0 : Int)) = true := by simp; omega
        have hpost := HF2.out (fun hr => by have h9 := (hr.2.2.2.2.2.2 _ hmem).1; rw [HM1.out, HM0.out] at h9; exact g1 h9) d
        rw [← HWR.out] at hpost
        clear hl1r
        go_wp2
        exact bodyPost_ret (v := .bool false) (by simp [results, Try.results24, go_sem]) rfl hpost
      subst g1
      have tg : ((m1 : Int) != (m1 : Int)) = false := by simp
      by_cases g2 : 1200 < m1
      · have tg2 : decide ((1200 : Int) < (m1 : Int)) = true := decide_eq_true (by omega)
        have hpost := HF2.out (fun hr => by have h9 := (hr.2.2.2.2.2.2 _ hmem).2.1; rw [HM1.out] at h9; omega) d
        rw [← HWR.out] at hpost
        clear hl1r
        go_wp2
        exact bodyPost_ret (v := .bool false) (by simp [results, Try.results24, go_sem]) rfl hpost
      have tg2 : decide ((1200 : Int) < (m1 : Int)) = false := decide_eq_false (by omega)
      obtain ⟨ko, rfl⟩ : ∃ ko : Nat, ko = gk := ⟨_, rfl⟩
      obtain ⟨wo, rfl⟩ : ∃ wo : World, wo = wr := ⟨_, rfl⟩
      go_wp2_with fail
      go_loopg [6] m1 (fun gq t6 wq => ∃ (k d' : Nat), gq + k = m1 ∧ t6 = .int .i64 k ∧ wq = wo.drewN d' ∧ ∀ j, j < k → fitsB bn ((chs.getD i []).getD j 0) = true)
      case atStart => exact ⟨0, 0, rfl, rfl, rfl, fun j hj => by omega⟩
      case round =>
        obtain ⟨k, d', hgq, rfl, hwq, hpre⟩ := hrel
        have HPRE : Hid (∀ j, j < k → fitsB bn ((chs.getD i []).getD j 0) = true) := hpre
        have HWQ : Hid (wr = wo.drewN d') := hwq
        have Z1q : wr.cell? ⟨gS, 1, none⟩ = some (.int .i64 bn) := by rw [hwq, World.cell?_drewN]; exact Z1
        by_cases hk : k < m1
        · obtain ⟨bb, oo, hbo, hcx⟩ := hl1r.at k (by rw [HM1.out]; exact hk)
          subst hbo
          obtain ⟨x, hx⟩ : ∃ x, (chs.getD i []).getD k 0 = x := ⟨_, rfl⟩
          rw [hx] at hcx
          have CX : wr.cell? ⟨bb, oo + k, none⟩ = some (.int .i64 x) := by rw [hwq, World.cell?_drewN]; exact hcx
          have HX : Hid ((chs.getD i []).getD k 0 = x) := hx
          have hxm : x ∈ chs.getD i [] := by rw [← hx]; have h8 := HM1.out; generalize chs.getD i [] = L at h8 ⊢; rw [List.getD, List.getElem?_eq_getElem (show k < L.length by omega)]; exact List.getElem_mem _
          have HFI := fun d9 => rfits (wr.drewN d9) x bn (by omega) (by omega)
          obtain ⟨fb, hfb⟩ : ∃ fb, fitsB bn x = fb := ⟨_, rfl⟩
          rw [hfb] at HFI
          have HFB : Hid (fitsB bn x = fb) := hfb
          have hkz : (k : Int) < (m1 : Int) := by omega
          clear hpre hwq hx hfb hcx
          cases fb with
          | true =>
            go_upto_region 13 with fail
            go_quiet ((go_at_call 53; exact Calls.quiet_of_same (HFI _)))
            go_wp2
            go_roundg (gk - 1)
            case measure => omega
            case rel =>
              refine ⟨k + 1, _, by omega, by go_num, by rw [HWQ.out, World.drewN_drewN], fun j hj => ?_⟩
              rcases (show j < k ∨ j = k by omega) with h9 | rfl
              · exact HPRE.out j h9
              · rw [HX.out]; exact HFB.out
          | false =>
            have hnr : ¬ RightB rate bn chs := fun hr => by
              have h9 := (hr.2.2.2.2.2.2 _ hmem).2.2 x hxm
              rw [HBN.out, HFB.out] at h9
              cases h9
            have HNR : Hid (¬ RightB rate bn chs) := hnr
            clear hnr
            go_upto_region 13 with fail
            go_quiet ((go_at_call 53; exact Calls.quiet_of_same (HFI _)))
            have hpost := HF2.out HNR.out (d + (d' + nq))
            rw [← World.drewN_drewN, ← HWR.out, ← World.drewN_drewN, ← HWQ.out] at hpost
            go_wp2
            exact bodyPost_ret (v := .bool false) (by simp [results, Try.results24, go_sem]) rfl hpost
        · have hkm : k = m1 := by omega
          subst hkm
          clear hpre hwq hgq
          go_wp2
          go_roundg (ko - 1)
          case measure => omega
          case rel =>
            refine ⟨i + 1, d + d', by omega, by go_num, by rw [HWQ.out, HWR.out, World.drewN_drewN], fun j hj => ?_⟩
            rcases (show j < i ∨ j = i by omega) with h9 | rfl
            · exact HPREV.out j h9
            · refine ⟨HM1.out, by omega, fun x hx => ?_⟩
              obtain ⟨q, hq, rfl⟩ := List.mem_iff_getElem.1 hx
              have h8 := HPRE.out q (by rw [← HM1.out]; exact hq)
              have e8 : (chs.getD j []).getD q 0 = (chs.getD j [])[q] := by
                rw [List.getD, List.getElem?_eq_getElem hq]
                rfl
              rw [e8] at h8
              exact h8
    · have hin : i = n := by omega
      subst hin
      have hR : RightB rate bn chs := by
        refine ⟨q1, q2, q3, q4, by rw [HN.out]; exact q5, by rw [HN.out]; exact q6, fun d9 hd => ?_⟩
        obtain ⟨j, hj, rfl⟩ := List.mem_iff_getElem.1 hd
        have h9 := HPREV.out j (by rw [← HN.out]; exact hj)
        have e9 : chs.getD j [] = chs[j] := by rw [List.getD, List.getElem?_eq_getElem hj]; rfl
        rw [e9] at h9
        rw [HM0.out, HBN.out]
        exact ⟨h9.1, by rw [h9.1]; exact h9.2.1, h9.2.2⟩
      have hpost : w.grownBy wr none ∧ ∃ ok : Bool, Ending.returned (.bool true) = .returned (.bool ok) ∧ (ok = true ↔ RightB rate bn chs) := ⟨by rw [HWR.out]; exact grown_drewN HG0.out d, true, rfl, by simp [hR]⟩
      clear hR hprev hwr hgk
      go_wp2
      exact bodyPost_ret (v := .bool true) (by simp [results, Try.results24, go_sem]) rfl hpost
end Go.Proofs.Ytncmgnmcggkhnaa

namespace Go.Proofs.Ytncmgnmcggkhnaa
open Go.RowKit

theorem natAbs_sum_take : ∀ (fs : List Int) (j : Nat), ((fs.take j).map (fun f => (f.natAbs : Int))).sum ≤ (fs.map (fun f => (f.natAbs : Int))).sum
  | [], j => by simp
  | f :: fs, 0 => by
    have h : ∀ l : List Int, 0 ≤ (l.map (fun f => (f.natAbs : Int))).sum := by
      intro l
      induction l with
      | nil => simp
      | cons a l ih => rw [List.map_cons, List.sum_cons]; omega
    simpa using h (f :: fs)
  | f :: fs, j + 1 => by
    have := natAbs_sum_take fs j
    rw [List.take_succ_cons, List.map_cons, List.map_cons, List.sum_cons, List.sum_cons]
    omega

theorem dot_take_bound (o j i : Nat) (l : List Int) (h : Abs 32768 l) : -491520 ≤ dot ((fixedFactors o).take j) (l.take i).reverse ∧ dot ((fixedFactors o).take j) (l.take i).reverse ≤ 491520 := by
  have h1 := edot_bound 32768 (by decide) ((fixedFactors o).take j) (l.take i).reverse (fun a ha => h a (List.mem_of_mem_take (List.mem_reverse.1 ha)))
  have h2 := natAbs_sum_take (fixedFactors o) j
  have h3 := factors_sum o
  omega

theorem miss_take_succ (o : Nat) (l : List Int) (j : Nat) (h : o + j < l.length) (k : Nat) :
    partLen ((miss (fixedFactors o) (l.take o).reverse (l.drop o)).take (j + 1)) k = partLen ((miss (fixedFactors o) (l.take o).reverse (l.drop o)).take j) k + (fold1 (l.getD (o + j) 0 - dot (fixedFactors o) (l.take (o + j)).reverse) / 2 ^ k + 1 + k) := by
  have hl : (miss (fixedFactors o) (l.take o).reverse (l.drop o)).length = l.length - o := by rw [miss_length, List.length_drop]
  rw [take_succ_getD _ j (by omega), partLen_snoc, miss_at _ _ _ _ h]

theorem cast10 (n : Nat) : Value.int .i64 ((10 + n : Nat) : Int) = Value.int .i64 (10 + (n : Int)) := by rw [Int.natCast_add]; rfl

def BitsPost (w : World) (b : Nat) (e : Ending) (w' : World) : Prop := e = .returned (.int .i64 ((10 + b : Nat) : Int)) ∧ b ≤ 1073741824 ∧ w.grownBy w' none

theorem bits_step (P s k P' : Nat) (h : P' = P + (s + 1 + k)) (hb : P' ≤ 1073741824) : wrap64 (wrap64 (wrap64 (10 + (P : Int) + (s : Int)) + 1) + (k : Int)) = ((10 + P' : Nat) : Int) := by
  have e1 : wrap64 (10 + (P : Int) + (s : Int)) = 10 + (P : Int) + (s : Int) := by unfold wrap64; omega
  have e2 : wrap64 (10 + (P : Int) + (s : Int) + 1) = 10 + (P : Int) + (s : Int) + 1 := by unfold wrap64; omega
  have e3 : wrap64 (10 + (P : Int) + (s : Int) + 1 + (k : Int)) = ((10 + P' : Nat) : Int) := by unfold wrap64; omega
  rw [e1, e2, e3]

set_option maxHeartbeats 4000000 in
set_option maxRecDepth 20000 in
theorem rbits (w : World) (v : Value) (l : List Int) (o : Nat) (ho : o ≤ 4) (hol : o ≤ l.length) (hl : l.length ≤ 256) (hab : Abs 32768 l) (h : Lo w v l) :
    Calls Try.prog 78 #[v, .int .i64 o] w (BitsPost w (bestAux (partLen (miss (fixedFactors o) (l.take o).reverse (l.drop o))) 14).2) := by
  obtain ⟨a, c, rfl⟩ := h.slice
  obtain ⟨n, hn⟩ : ∃ n, l.length = n := ⟨_, rfl⟩
  have HN : Hid (l.length = n) := hn
  have HMT := fun j hj k => miss_take_succ o l j hj k
  have hRl : (miss (fixedFactors o) (l.take o).reverse (l.drop o)).length = n - o := by rw [miss_length, List.length_drop, hn]
  have hRb : ∀ x ∈ miss (fixedFactors o) (l.take o).reverse (l.drop o), -1048576 ≤ x ∧ x ≤ 1048576 := by
    intro x hx
    have := miss_bound 32768 (by decide) o (l.drop o) (l.take o).reverse (fun a ha => hab a (List.mem_of_mem_drop ha)) (fun a ha => hab a (List.mem_of_mem_take (List.mem_reverse.1 ha))) x hx
    omega
  obtain ⟨R, hR⟩ : ∃ R, miss (fixedFactors o) (l.take o).reverse (l.drop o) = R := ⟨_, rfl⟩
  rw [hR] at HMT hRl hRb ⊢
  rw [hn] at h hol hl ⊢
  have HMTH : Hid (∀ j, o + j < l.length → ∀ k, partLen (R.take (j + 1)) k = partLen (R.take j) k + (fold1 (l.getD (o + j) 0 - dot (fixedFactors o) (l.take (o + j)).reverse) / 2 ^ k + 1 + k)) := HMT
  have HRL : Hid (R.length = n - o) := hRl
  have HRB : Hid (∀ x ∈ R, -1048576 ≤ x ∧ x ≤ 1048576) := hRb
  have HFX := rfixed w o ho (o : Int) rfl
  have hpl : ∀ k j, k ≤ 14 → partLen (R.take j) k ≤ 1073741824 := by
    intro k j hk
    have h1 := partLen_le k (by omega) (R.take j) (fun x hx => hRb x (List.mem_of_mem_take hx))
    rw [List.length_take, hRl] at h1
    omega
  have HPL : Hid (∀ k j, k ≤ 14 → partLen (R.take j) k ≤ 1073741824) := hpl
  have hfall : R.take (n - o) = R := List.take_of_length_le (by omega)
  have HFALL : Hid (R.take (n - o) = R) := hfall
  have HFL := (fixed_abs2 o ho).2
  have HFLH : Hid ((fixedFactors o).length = o) := HFL
  clear HMT hRl hRb hR hn hpl hfall HFL
  go_enter Try.func78, Try.ntmps78
  go_wp2_with fail
  refine HFX.mono ?_
  rintro e wf ⟨gf, capf, rfl, hownf, hgf⟩
  clear HFX
  have hlof := hownf.lo
  have hlol := h.kept hgf
  have HGF : Hid (w.grownBy wf none) := hgf
  clear hownf h hgf
  go_wp2_with fail
  go_loopg [6, 7] 15 (fun gk t6 t7 wr => ∃ (k d : Nat), gk + k = 15 ∧ t7 = .int .i64 k ∧ wr = wf.drewN d ∧ ((k = 0 ∧ t6 = .int .i64 0) ∨ ∃ j, k = j + 1 ∧ t6 = .int .i64 ((10 + (bestAux (partLen R) j).2 : Nat) : Int)))
  case atStart => exact ⟨0, 0, rfl, rfl, rfl, .inl ⟨rfl, rfl⟩⟩
  case round =>
    obtain ⟨k, d, hgk, rfl, hwr, hbest⟩ := hrel
    by_cases hk : k ≤ 14
    · have hkz : (k : Int) ≤ 14 := by omega
      obtain ⟨ko, rfl⟩ : ∃ ko : Nat, ko = gk := ⟨_, rfl⟩
      obtain ⟨wo, rfl⟩ : ∃ wo : World, wo = wr := ⟨_, rfl⟩
      have HWR : Hid (wo = wf.drewN d) := hwr
      have hlof1 : Lo wo (.slice (some ⟨gf, 0, none⟩) o capf) (fixedFactors o) := by rw [hwr]; exact hlof.drewN d
      have hlol1 : Lo wo (.slice a n c) l := by rw [hwr]; exact hlol.drewN d
      have HBEST : Hid _ := hbest
      clear hwr hbest
      go_wp2_with fail
      go_loopg [8, 9] (n - o) (fun gq t8 t9 wr => ∃ (j d' : Nat), gq + j = n - o ∧ t9 = .int .i64 ((o + j : Nat) : Int) ∧ wr = wo.drewN d' ∧ t8 = .int .i64 ((10 + partLen (R.take j) k : Nat) : Int))
      case atStart => exact ⟨0, 0, rfl, rfl, rfl, by simp [partLen]⟩
      case round =>
        obtain ⟨j, d', hgq, rfl, hwr, rfl⟩ := hrel
        obtain ⟨kq, rfl⟩ : ∃ kq : Nat, kq = gk := ⟨_, rfl⟩
        obtain ⟨wq, rfl⟩ : ∃ wq : World, wq = wr := ⟨_, rfl⟩
        by_cases hj : o + j < n
        · have hjz : ((o + j : Nat) : Int) < (n : Int) := by omega
          have hlof2 : Lo wq (.slice (some ⟨gf, 0, none⟩) o capf) (fixedFactors o) := by rw [hwr]; exact hlof1.drewN d'
          have hlol2 : Lo wq (.slice a n c) l := by rw [hwr]; exact hlol1.drewN d'
          have HWQ : Hid (wq = wo.drewN d') := hwr
          obtain ⟨p, hp⟩ : ∃ p, o + j = p := ⟨_, rfl⟩
          rw [hp] at hjz ⊢
          have HP : Hid (o + j = p) := hp
          obtain ⟨ba, oa, hba, hcy⟩ := hlol2.at p (by rw [HN.out]; omega)
          subst hba
          obtain ⟨y, hy⟩ : ∃ y, l.getD p 0 = y := ⟨_, rfl⟩
          rw [hy] at hcy
          have hyb : -32768 ≤ y ∧ y ≤ 32768 := by rw [← hy]; exact hab.get (by decide) p
          have HY : Hid (l.getD p 0 = y) := hy
          clear hwr hy
          go_wp2_with fail
          go_loopg [10, 11] o (fun gi t10 t11 wr => ∃ (q d2 : Nat), gi + q = o ∧ t11 = .int .i64 q ∧ wr = wq.drewN d2 ∧ t10 = .int .i64 (y - dot ((fixedFactors o).take q) (l.take p).reverse))
          case atStart => exact ⟨0, 0, rfl, rfl, rfl, by simp [dot]⟩
          case round =>
            clear hcy
            obtain ⟨q, d2, hgi, rfl, hwr, rfl⟩ := hrel
            have HWI : Hid (wr = wq.drewN d2) := hwr
            by_cases hq : q < o
            · obtain ⟨fx, hfx⟩ : ∃ fx, (fixedFactors o).getD q 0 = fx := ⟨_, rfl⟩
              obtain ⟨r, hr⟩ : ∃ r, p - 1 - q = r := ⟨_, rfl⟩
              obtain ⟨x, hx⟩ : ∃ x, l.getD r 0 = x := ⟨_, rfl⟩
              obtain ⟨bf, of, hbf, hcf⟩ := hlof2.at q (by rw [HFLH.out]; exact hq)
              obtain ⟨bl, ol, hbl, hcl⟩ := hlol2.at r (by rw [HN.out]; omega)
              injection hbf with hbf
              injection hbf with hb1 hb2
              subst hb1
              subst hb2
              injection hbl with hbl
              injection hbl with hb1 hb2
              subst hb1
              subst hb2
              rw [hfx] at hcf
              rw [hx] at hcl
              have CF : wr.cell? ⟨gf, 0 + q, none⟩ = some (.int .i64 fx) := by rw [hwr, World.cell?_drewN]; exact hcf
              rw [Nat.zero_add] at CF
              have CL : wr.cell? ⟨ba, oa + r, none⟩ = some (.int .i64 x) := by rw [hwr, World.cell?_drewN]; exact hcl
              have hd := dot_take_succ (fixedFactors o) (l.take p).reverse q (by rw [HFLH.out]; exact hq) (by rw [List.length_reverse, List.length_take, HN.out]; omega)
              have e1 : (fixedFactors o)[q]'(by rw [HFLH.out]; exact hq) = fx := by rw [← hfx, List.getD, List.getElem?_eq_getElem (by rw [HFLH.out]; exact hq)]; rfl
              have e2 : (l.take p).reverse[q]'(by rw [List.length_reverse, List.length_take, HN.out]; omega) = x := by
                rw [← hx, List.getElem_reverse, List.getElem_take, List.getD, List.getElem?_eq_getElem (by rw [HN.out]; omega)]
                simp only [Option.getD_some, List.length_take, HN.out]
                congr 1
                omega
              rw [e1, e2] at hd
              have b1 := dot_take_bound o q p l hab
              have b2 := dot_take_bound o (q + 1) p l hab
              have HD : Hid _ := hd
              obtain ⟨u, hu⟩ : ∃ u, dot ((fixedFactors o).take q) (l.take p).reverse = u := ⟨_, rfl⟩
              obtain ⟨u', hu'⟩ : ∃ u', dot ((fixedFactors o).take (q + 1)) (l.take p).reverse = u' := ⟨_, rfl⟩
              rw [hu] at b1 HD ⊢
              rw [hu'] at b2 HD
              obtain ⟨m, hm⟩ : ∃ m, fx * x = m := ⟨_, rfl⟩
              have HDm : u' = u + m := by rw [← hm]; exact HD.out
              have hmw : IntKind.i64.wrap (fx * x) = m := by rw [hm]; rw [IntKind.wrap_i64]; omega
              have hym : IntKind.i64.wrap (y - u - m) = y - u' := by rw [IntKind.wrap_i64]; omega
              have hqz : (q : Int) < (o : Int) := by omega
              have hr1 : IntKind.i64.wrap ((p : Int) - 1) = (p : Int) - 1 := by rw [IntKind.wrap_i64]; omega
              have hr2 : IntKind.i64.wrap ((p : Int) - 1 - (q : Int)) = (r : Int) := by rw [IntKind.wrap_i64]; omega
              have hrn : (r : Int) < (n : Int) := by omega
              have HU' : Hid (dot ((fixedFactors o).take (q + 1)) (l.take p).reverse = u') := hu'
              clear hd HD hfx hx hu hu' hm HDm hcf hcl hwr e1 e2 hr
              go_wp2_with fail
              go_quiet (fail)
              go_wp2
              go_roundg (gk - 1)
              case measure => omega
              case rel => exact ⟨q + 1, _, by omega, by go_num, by rw [HWI.out, World.drewN_drewN], by rw [HU'.out]⟩
            · have hqo : q = o := by omega
              subst hqo
              have hft : (fixedFactors q).take q = fixedFactors q := List.take_of_length_le (by rw [HFLH.out]; exact Nat.le_refl _)
              rw [hft]
              have hmt := HMTH.out j (by rw [HN.out]; exact hj) k
              rw [HP.out, HY.out] at hmt
              have hpl := HPL.out k (j + 1) hk
              have b1 := dot_take_bound q q p l hab
              rw [hft] at b1
              obtain ⟨u, hu⟩ : ∃ u, dot (fixedFactors q) (l.take p).reverse = u := ⟨_, rfl⟩
              rw [hu] at hmt b1 ⊢
              obtain ⟨z, hz⟩ : ∃ z, y - u = z := ⟨_, rfl⟩
              rw [hz] at hmt ⊢
              have hzb : -524288 ≤ z ∧ z ≤ 524288 := by omega
              obtain ⟨P, hP⟩ : ∃ P, partLen (R.take j) k = P := ⟨_, rfl⟩
              obtain ⟨P', hP'⟩ : ∃ P', partLen (R.take (j + 1)) k = P' := ⟨_, rfl⟩
              rw [hP'] at hpl
              rw [hP, hP'] at hmt
              rw [hP]
              have HP' : Hid (partLen (R.take (j + 1)) k = P') := hP'
              clear hft hu hz hP hP' hyb b1 hgi hwr
              obtain ⟨f, hf⟩ : ∃ f, fold1 z = f := ⟨_, rfl⟩
              rw [hf] at hmt
              have hfb : f ≤ 1048577 := by rw [← hf]; have := fold1_le (x := z) (M := 524288) (by omega); omega
              obtain ⟨s, hs⟩ : ∃ s, f / 2 ^ k = s := ⟨_, rfl⟩
              rw [hs] at hmt
              have hfs : ((f : Int) / 2 ^ k) = (s : Int) := by rw [← hs]; push_cast; rfl
              have hw4 := bits_step P s k P' hmt hpl
              have HFS : Hid ((f : Int) / 2 ^ k = (s : Int)) := hfs
              have HW4 : Hid (wrap64 (wrap64 (wrap64 (10 + (P : Int) + (s : Int)) + 1) + (k : Int)) = ((10 + P' : Nat) : Int)) := hw4
              clear hfs hs hmt hw4
              by_cases hz0 : z < 0
              · have t0 : decide (z < 0) = true := decide_eq_true hz0
                have hfz : (f : Int) = -2 * z - 1 := by rw [← hf]; unfold fold1; rw [if_neg (by omega)]; omega
                have HFZ : Hid ((f : Int) = -2 * z - 1) := hfz
                have w1 : IntKind.i64.wrap (2 * z) = 2 * z := by rw [IntKind.wrap_i64]; omega
                have w2 : IntKind.i64.wrap (-2 * z) = -2 * z := by rw [IntKind.wrap_i64]; omega
                have w3 : IntKind.i64.wrap (-2 * z - 1) = (f : Int) := by rw [IntKind.wrap_i64]; omega
                clear hf hfz
                go_wp2_with fail
                rw [HFS.out, HW4.out]
                go_roundg (kq - 1)
                case measure => omega
                case rel =>
                  refine ⟨j + 1, d' + d2, ?_⟩
                  have hp9 : ((q + (j + 1) : Nat) : Int) = (p : Int) + 1 := by have := HP.out; omega
                  rw [hp9, HP'.out]
                  refine ⟨by omega, rfl, ?_, rfl⟩
                  rw [HWI.out, HWQ.out, World.drewN_drewN]
              · have t0 : decide (z < 0) = false := decide_eq_false hz0
                have hfz : (f : Int) = 2 * z := by rw [← hf]; unfold fold1; rw [if_pos (by omega)]; omega
                have HFZ : Hid ((f : Int) = 2 * z) := hfz
                have w1 : IntKind.i64.wrap (2 * z) = 2 * z := by rw [IntKind.wrap_i64]; omega
                clear hf hfz
                go_wp2_with fail
                rw [← HFZ.out, HFS.out, HW4.out]
                go_roundg (kq - 1)
                case measure => omega
                case rel =>
                  refine ⟨j + 1, d' + d2, ?_⟩
                  have hp9 : ((q + (j + 1) : Nat) : Int) = (p : Int) + 1 := by have := HP.out; omega
                  rw [hp9, HP'.out]
                  refine ⟨by omega, rfl, ?_, rfl⟩
                  rw [HWI.out, HWQ.out, World.drewN_drewN]
        · have hjn : j = n - o := by omega
          have tj : decide (((o + j : Nat) : Int) < (n : Int)) = false := decide_eq_false (by omega)
          have hpl := HPL.out k j hk
          have hPe : partLen (R.take j) k = partLen R k := by rw [hjn, HFALL.out]
          rw [hPe] at hpl ⊢
          obtain ⟨P, hP⟩ : ∃ P, partLen R k = P := ⟨_, rfl⟩
          have HPH : Hid (partLen R k = P) := hP
          rw [hP] at hpl ⊢
          have HWQ : Hid (wq = wo.drewN d') := hwr
          have hbest := HBEST.out
          clear hjn hPe hP hwr hgq
          rcases hbest with ⟨rfl, rfl⟩ | ⟨j9, rfl, rfl⟩
          · go_wp2_with fail
            go_roundg (ko - 1)
            case measure => omega
            case rel =>
              refine ⟨1, d + d', by omega, by go_num, by rw [HWQ.out, HWR.out, World.drewN_drewN], .inr ⟨0, rfl, ?_⟩⟩
              show _ = Value.int .i64 ((10 + partLen R 0 : Nat) : Int)
              rw [HPH.out, cast10]
          · have hb9 := bestAux_spec (partLen R) j9
            have hb8 := HPL.out _ (n - o) (show (bestAux (partLen R) j9).1 ≤ 14 by omega)
            rw [HFALL.out, ← hb9.2.1] at hb8
            have hb7 : (bestAux (partLen R) (j9 + 1)) = if partLen R (j9 + 1) < (bestAux (partLen R) j9).2 then (j9 + 1, partLen R (j9 + 1)) else bestAux (partLen R) j9 := rfl
            rw [HPH.out] at hb7
            obtain ⟨B, hB⟩ : ∃ B, (bestAux (partLen R) j9).2 = B := ⟨_, rfl⟩
            rw [hB] at hb8 hb7 ⊢
            have tk : (((j9 + 1 : Nat) : Int) == 0) = false := by simp; omega
            clear hb9
            by_cases hlt : P < B
            · have tl : decide (((10 + P : Nat) : Int) < ((10 + B : Nat) : Int)) = true := decide_eq_true (by omega)
              rw [if_pos hlt] at hb7
              have HB7 : Hid (bestAux (partLen R) (j9 + 1) = (j9 + 1, P)) := hb7
              clear hb7 hB
              go_wp2_with fail
              go_roundg (ko - 1)
              case measure => omega
              case rel =>
                refine ⟨j9 + 1 + 1, d + d', by omega, by go_num, by rw [HWQ.out, HWR.out, World.drewN_drewN], .inr ⟨j9 + 1, rfl, ?_⟩⟩
                rw [HB7.out, cast10]
            · have tl : decide (((10 + P : Nat) : Int) < ((10 + B : Nat) : Int)) = false := decide_eq_false (by omega)
              rw [if_neg hlt] at hb7
              have HB7 : Hid ((bestAux (partLen R) (j9 + 1)).2 = B) := by rw [hb7]; exact hB
              clear hb7 hB
              go_wp2_with fail
              go_roundg (ko - 1)
              case measure => omega
              case rel =>
                refine ⟨j9 + 1 + 1, d + d', by omega, by go_num, by rw [HWQ.out, HWR.out, World.drewN_drewN], .inr ⟨j9 + 1, rfl, ?_⟩⟩
                rw [HB7.out, cast10]
    · have hk15 : k = 15 := by omega
      subst hk15
      rcases hbest with ⟨h9, _⟩ | ⟨j9, h9, rfl⟩
      · omega
      · have hj9 : j9 = 14 := by omega
        subst hj9
        have hb9 := bestAux_spec (partLen R) 14
        have hb8 := HPL.out _ (n - o) hb9.1
        rw [HFALL.out, ← hb9.2.1] at hb8
        clear hb9
        obtain ⟨B, hB⟩ : ∃ B, (bestAux (partLen R) 14).2 = B := ⟨_, rfl⟩
        rw [hB] at hb8 ⊢
        have hpost : BitsPost w B (.returned (.int .i64 (10 + (B : Int)))) wr := ⟨by rw [cast10], hb8, by rw [hwr]; exact grown_drewN HGF.out d⟩
        clear hwr
        go_wp2
        exact bodyPost_ret (v := .int .i64 (10 + (B : Int))) (by simp [results, Try.results78, go_sem]) rfl hpost
end Go.Proofs.Ytncmgnmcggkhnaa
