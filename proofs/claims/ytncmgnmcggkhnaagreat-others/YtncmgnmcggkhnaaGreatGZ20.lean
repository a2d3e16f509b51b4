import Derived.Test.YtncmgnmcggkhnaaGreatGZ19
import Derived.Test.YtncmgnmcggkhnaaGreatGZ01
namespace Go.Proofs.YtncmgnmcggkhnaaGreat
open Go.RowKit

theorem pickBest_snoc (cost : ESub → Nat) (s : ESub) : ∀ (l : List ESub) (b : ESub), pickBest cost b (l ++ [s]) = if cost s < cost (pickBest cost b l) then s else pickBest cost b l
  | [], b => by
    show pickBest cost (if cost s < cost b then s else b) [] = _
    rfl
  | t :: l, b => by
    show pickBest cost (if cost t < cost b then t else b) (l ++ [s]) = _
    rw [pickBest_snoc cost s l]
    rfl

theorem subs_small {w : World} {b off cap : Nat} {l : List Int} (h : SmpIn w b off cap l) : ∀ s ∈ ESub.plain l :: others l, ESmall s := by
  intro s hs
  have hsm : ∀ x ∈ l, -1048576 ≤ x ∧ x ≤ 1048576 := fun x hx => by have := h.small x hx; omega
  rcases List.mem_cons.1 hs with rfl | hs
  · exact ⟨by have := h.len.2; omega, hsm⟩
  · unfold others at hs
    rcases List.mem_append.1 hs with hs | hs
    · by_cases ha : allAlike l = true
      · rw [if_pos ha] at hs
        rw [List.mem_singleton.1 hs]
        cases l with
        | nil => have := h.len.1; simp at this
        | cons a t => exact hsm a (by simp)
      · rw [if_neg ha] at hs; simp at hs
    · obtain ⟨o, ho, rfl⟩ := List.mem_map.1 hs
      rw [List.mem_range] at ho
      have h2 := h.len.2
      refine ⟨by rw [List.length_take]; omega, fun x hx => hsm x (List.mem_of_mem_take hx), by rw [miss_length, List.length_drop]; omega, fun v hv => ?_⟩
      have := miss_bound 32768 (by decide) o (l.drop o) (l.take o).reverse (fun a ha => h.small a (List.mem_of_mem_drop ha)) (fun a ha => h.small a (List.mem_of_mem_take (List.mem_reverse.1 ha))) v hv
      omega

theorem eqn_no (t : TypeId) (v : Value) (w : World) : (binOp .eql 93 (.iface t v) .nilIface).run Tryz.prog w = .ok (.bool false) w := by kernel_rfl
theorem eqn_yes (w : World) : (binOp .eql 93 .nilIface .nilIface).run Tryz.prog w = .ok (.bool true) w := by kernel_rfl

theorem ESubV.iface {w : World} {D : Nat → Prop} {sv : Value} {s : ESub} (h : ESubV w D sv s) : ∃ t v, sv = .iface t v := by
  cases s using ESub.each with
  | alike x => exact ⟨_, _, h⟩
  | plain l => obtain ⟨v, e, _⟩ := h; exact ⟨_, _, e⟩
  | fixed f r => obtain ⟨vf, vr, e, _⟩ := h; exact ⟨_, _, e⟩

theorem WrS.start (w : World) : WrS (w.alloc (.cells #[.slice none 0 0, .int .i64 0] 85)) w.heap.size (w.heap.size + 1) (.slice none 0 0) [] :=
  ⟨Box.new _ _ _, by rw [pack_nil]; exact World.ownsRow_nil _ _ _ _, by omega⟩

def ShortPost (w : World) (b : Nat) (s : ESub) (e : Ending) (w' : World) : Prop :=
  ∃ sv, e = .returned sv ∧ w.grownBy w' none ∧ ESubV w' (fun q => q = b ∨ w.heap.size ≤ q) sv s

/-- what the loop over those that are tried knows: the best of the first `k` -/
def BestI (w w1 wr : World) (b : Nat) (lv : Value) (l : List Int) (wide k : Nat) (s5 s6 : Value) : Prop :=
  w1.grownBy wr none ∧ ((k = 0 ∧ s5 = .nilIface ∧ s6 = .int .i64 0) ∨ ∃ j s, k = j + 1 ∧ s = pickBest (subCost wide) (.plain l) ((others l).take j) ∧ ESubV wr (DT w b lv) s5 s ∧ s6 = .int .i64 (subCost wide s))

theorem take_snoc_get {α : Type} (l : List α) (k : Nat) (x : α) (h : l[k]? = some x) : l.take (k + 1) = l.take k ++ [x] := by
  have hk : k < l.length := by
    rcases Nat.lt_or_ge k l.length with h1 | h1
    · exact h1
    · rw [List.getElem?_eq_none h1] at h; cases h
  rw [List.take_succ_eq_append_getElem hk]
  rw [List.getElem?_eq_getElem hk] at h
  injection h with h
  rw [h]

set_option maxHeartbeats 4000000 in
set_option maxRecDepth 20000 in
theorem qshort (w : World) (b off cap : Nat) (l : List Int) (wide : Nat) (hw : wide ≤ 20) (h : SmpIn w b off cap l) :
    Calls Tryz.prog 40 #[.slice (some ⟨b, off, none⟩) l.length cap, .int .i64 wide] w (ShortPost w b (shortest wide l)) := by
  have HT := qtried w b off cap l h
  have hsmall := subs_small h
  have hlen : (ESub.plain l :: others l).length ≤ 7 := by
    unfold others
    rw [List.length_cons, List.length_append, List.length_map, List.length_range]
    split <;> simp <;> omega
  go_enter Tryz.func40, Tryz.ntmps40
  go_wp2_with fail
  refine HT.mono ?_
  rintro e w1 ⟨lv, vs, rfl, htr⟩
  obtain ⟨subs, hsubs⟩ : ∃ subs, ESub.plain l :: others l = subs := ⟨_, rfl⟩
  rw [hsubs] at htr hlen hsmall
  have HSUBS : Hid (ESub.plain l :: others l = subs) := hsubs
  obtain ⟨a, c, hlv⟩ := row_slice htr.row
  have hlen2 := htr.len
  obtain ⟨n, hn⟩ : ∃ n, vs.length = n := ⟨_, rfl⟩
  rw [hn] at hlv
  have hn7 : n ≤ 7 := by omega
  have HN : Hid (vs.length = n) := hn
  have HTR : Hid (TrI w w1 b lv vs subs) := htr
  subst hlv
  have HL2 : Hid (vs.length = subs.length) := hlen2
  clear HT hsubs htr hn hlen2 hlen h
  go_wp2_with fail
  go_loopg [5, 6, 13] n (fun gk s5 s6 s13 wr => ∃ k : Nat, gk + k = n ∧ s13 = .int .i64 k ∧ BestI w w1 wr b (.slice a n c) l wide k s5 s6)
  case atStart => exact ⟨0, rfl, rfl, grown_refl _ _, .inl ⟨rfl, rfl, rfl⟩⟩
  case round =>
    obtain ⟨k, hgk, rfl, hgr, hbest⟩ := hrel
    by_cases hlt : k < n
    · have hkv : k < vs.length := by rw [HN.out]; exact hlt
      have hks : k < subs.length := by rw [← HL2.out]; exact hkv
      obtain ⟨sv, hsv⟩ : ∃ sv, vs[k]? = some sv := ⟨_, List.getElem?_eq_getElem hkv⟩
      obtain ⟨s, hss⟩ : ∃ s, subs[k]? = some s := ⟨_, List.getElem?_eq_getElem hks⟩
      have hES := HTR.out.each k sv s hsv hss
      obtain ⟨g, cp, hform, hbg, hgl⟩ := World.ownsRow.form HTR.out.row (by omega)
      injection hform with hf1 hf2 hf3
      have hck : w1.cell? ⟨g, k, none⟩ = some sv := by
        have h1 := HTR.out.row
        rw [hf1, HN.out] at h1
        rw [World.ownsRow.cellAt h1 k (by omega)]
        exact hsv
      subst hf1
      have hcr : wr.cell? ⟨g, k, none⟩ = some sv := hgr.cell hck (by simp)
      have hESr := hES.kp (Kp.ofNone (S := fun _ => False) hgr) (fun _ _ e => e)
      have hsm : ESmall s := hsmall s (List.mem_of_getElem? hss)
      obtain ⟨w2, hw2⟩ : ∃ w2, wr.alloc (.cells #[.slice none 0 0, .int .i64 0] 85) = w2 := ⟨_, rfl⟩
      have hg2 : wr.grownBy w2 none := by rw [← hw2]; exact grown_alloc (grown_refl _ _) _
      have hs2 : w2.heap.size = wr.heap.size + 1 := by rw [← hw2]; simp
      have hW2 := WrS.start wr
      rw [hw2] at hW2
      have hES2 := (hESr.mono (D' := fun q => DT w b (.slice (some ⟨g, 0, none⟩) n c) q ∧ q < wr.heap.size) (fun q hq hl => ⟨hq, hl⟩)).kp (Kp.ofNone (S := fun _ => False) hg2) (fun _ _ e => e)
      have HWS := qwsub w2 wr.heap.size (wr.heap.size + 1) (.slice none 0 0) sv [] _ s wide hW2 (by omega) (by simp) hw hsm hES2 (fun q hq => ⟨by omega, by omega, by simp [Value.ownBlock]⟩)
      have HW2 : Hid (wr.alloc (.cells #[.slice none 0 0, .int .i64 0] 85) = w2) := hw2
      have HG2 : Hid (wr.grownBy w2 none) := hg2
      have HS2 : Hid (w2.heap.size = wr.heap.size + 1) := hs2
      obtain ⟨cs, hcs⟩ : ∃ cs, subCost wide s = cs := ⟨_, rfl⟩
      have HCS : Hid (subCost wide s = cs) := hcs
      have hcs2 : ([] ++ subBits wide s).length = cs := by rw [← hcs]; rfl
      have HSS : Hid (subs[k]? = some s) := hss
      obtain ⟨gw, hgw⟩ : ∃ gw, wr.heap.size = gw := ⟨_, rfl⟩
      rw [hgw] at HWS
      have HGW : Hid (wr.heap.size = gw) := hgw
      have hkn : (k : Int) < (n : Int) := by omega
      have HESK : Hid (ESubV wr (DT w b (.slice (some ⟨g, 0, none⟩) n c)) sv s) := hESr
      have hfin : ∀ w3 v3, Wrote w2 w3 gw (.slice none 0 0) v3 → wr.grownBy w3 none := by
        intro w3 v3 hwr3
        have h1 : Kp wr w3 (fun b => b = gw ∨ (Value.slice none 0 0).ownBlock = some b) := (Kp.ofNone hg2).trans hwr3.kp (fun b hb => .inl hb)
        refine h1.grown (fun b hb => ?_)
        rcases hb with hb | hb
        · omega
        · cases hb
      have HFIN : Hid _ := hfin
      clear hW2 hES2 hES hESr hsm hss hsv hck hg2 hw2 hs2 hcs hgw hfin hf2 hf3
      rcases hbest with ⟨rfl, rfl, rfl⟩ | ⟨j, s0, rfl, hs0, hE0, rfl⟩
      · have hs : s = .plain l := by
          have h1 := HSS.out
          rw [← HSUBS.out] at h1
          injection h1 with h1
          exact h1.symm
        have hq := eqn_yes
        go_upto_region 7 with fail
        rw [HW2.out, HGW.out]
        go_wp2_with fail
        refine HWS.mono ?_
        rintro e w3 ⟨rfl, v3, hS3, hwr3⟩
        have hg3 := HFIN.out w3 v3 hwr3
        have HB := qwbits w3 gw (gw + 1) v3 _ hS3
        rw [hcs2] at HB
        clear HW2 HGW HWS hS3 hcs2
        go_wp2_with (go_at_call 62; refine HB.mono ?_; rintro e w4 ⟨rfl, rfl⟩)
        go_roundg (gk - 1)
        case measure => omega
        case rel => exact ⟨1, by omega, by go_num, grown_trans hgr hg3, .inr ⟨0, s, rfl, hs, HESK.out.kp (Kp.ofNone (S := fun _ => False) hg3) (fun _ _ e => e), by rw [HCS.out]⟩⟩
      · have hsj : (others l)[j]? = some s := by
          have h1 := HSS.out
          rw [← HSUBS.out] at h1
          exact h1
        have hnew : pickBest (subCost wide) (.plain l) ((others l).take (j + 1)) = if cs < subCost wide s0 then s else s0 := by
          rw [take_snoc_get _ _ _ hsj, pickBest_snoc, HCS.out, ← hs0]
        obtain ⟨c0, hc0⟩ : ∃ c0, subCost wide s0 = c0 := ⟨_, rfl⟩
        rw [hc0] at hnew
        rw [hc0]
        have HC0 : Hid (subCost wide s0 = c0) := hc0
        have HNEW : Hid _ := hnew
        obtain ⟨t0, v0, rfl⟩ := hE0.iface
        have hq := eqn_no t0 v0
        have HE0 : Hid (ESubV wr (DT w b (.slice (some ⟨g, 0, none⟩) n c)) (.iface t0 v0) s0) := hE0
        clear hsj hnew hc0 hE0 hs0
        go_upto_region 7 with fail
        rw [HW2.out, HGW.out]
        go_wp2_with fail
        refine HWS.mono ?_
        rintro e w3 ⟨rfl, v3, hS3, hwr3⟩
        have hg3 := HFIN.out w3 v3 hwr3
        have HB := qwbits w3 gw (gw + 1) v3 _ hS3
        rw [hcs2] at HB
        clear HW2 HGW HWS hS3 hcs2
        by_cases hcc : cs < c0
        · have tc : decide ((cs : Int) < (c0 : Int)) = true := decide_eq_true (by omega)
          go_wp2_with (go_at_call 62; refine HB.mono ?_; rintro e w4 ⟨rfl, rfl⟩)
          go_roundg (gk - 1)
          case measure => omega
          case rel => exact ⟨j + 1 + 1, by omega, by go_num, grown_trans hgr hg3, .inr ⟨j + 1, s, rfl, by rw [HNEW.out, if_pos hcc], HESK.out.kp (Kp.ofNone (S := fun _ => False) hg3) (fun _ _ e => e), by rw [HCS.out]⟩⟩
        · have tc : decide ((cs : Int) < (c0 : Int)) = false := decide_eq_false (by omega)
          go_wp2_with (go_at_call 62; refine HB.mono ?_; rintro e w4 ⟨rfl, rfl⟩)
          go_roundg (gk - 1)
          case measure => omega
          case rel => exact ⟨j + 1 + 1, by omega, by go_num, grown_trans hgr hg3, .inr ⟨j + 1, s0, rfl, by rw [HNEW.out, if_neg hcc], HE0.out.kp (Kp.ofNone (S := fun _ => False) hg3) (fun _ _ e => e), by rw [HC0.out]⟩⟩
    · have hkn : k = n := by omega
      subst hkn
      rcases hbest with ⟨h0, _⟩ | ⟨j, s0, hj, hs0, hE0, rfl⟩
      · have h1 := HL2.out
        have h2 := HN.out
        rw [← HSUBS.out, List.length_cons] at h1
        omega
      · have hall : s0 = shortest wide l := by
          rw [hs0]
          unfold shortest
          rw [List.take_of_length_le]
          have h1 := HL2.out
          have h2 := HN.out
          rw [← HSUBS.out, List.length_cons] at h1
          omega
        rw [hall] at hE0
        have hpost : ShortPost w b (shortest wide l) (.returned u5) wr := ⟨u5, rfl, grown_trans HTR.out.grow hgr, hE0.mono (fun q hq _ => hq.1)⟩
        clear hE0 hall hs0 hj hgk hgr
        go_wp2
        exact bodyPost_ret (v := u5) (by simp [results, Tryz.results40, go_sem]) rfl hpost
end Go.Proofs.YtncmgnmcggkhnaaGreat

namespace Go.Proofs.YtncmgnmcggkhnaaGreat
open Go.RowKit

/-- channels in memory, with samples to be written -/
def ChIn (w : World) (v : Value) (chs : List (List Int)) : Prop :=
  ∃ lg lcap, v = .slice (some ⟨lg, 0, none⟩) chs.length lcap ∧ lg < w.heap.size ∧ ∀ i, i < chs.length → ∃ b off cap, w.cell? ⟨lg, i, none⟩ = some (.slice (some ⟨b, off, none⟩) (chs.getD i []).length cap) ∧ SmpIn w b off cap (chs.getD i [])

theorem ChIn.kept {w w' : World} {v : Value} {chs : List (List Int)} (h : ChIn w v chs) (hg : w.grownBy w' none) : ChIn w' v chs := by
  obtain ⟨lg, lcap, hv, hlt, hc⟩ := h
  refine ⟨lg, lcap, hv, Nat.lt_of_lt_of_le hlt hg.size, fun i hi => ?_⟩
  obtain ⟨b, off, cap, h1, h2⟩ := hc i hi
  exact ⟨b, off, cap, hg.cell h1 (by simp), h2.kept hg⟩

theorem qapart (w : World) (n : Nat) (hn : n ≤ 2) :
    Calls Tryz.prog 37 #[.int .i64 n] w fun e w' => e = .returned (.int .i64 (modeOf n)) ∧ w' = w := by
  rcases (show n = 1 ∨ n ≠ 1 by omega) with rfl | hn1
  · go_enter Tryz.func37, Tryz.ntmps37
    go_wp2
    go_ret
    exact ⟨rfl, rfl⟩
  · have t : ((n : Int) == 1) = false := by simp; omega
    have hm : modeOf n = 1 := by unfold modeOf; rw [if_neg hn1]
    rw [hm]
    go_enter Tryz.func37, Tryz.ntmps37
    go_wp2
    go_ret
    exact ⟨rfl, rfl⟩

/-- a new writer has written: all else is as it was -/
theorem wrote_new {w w0 wr : World} {v' : Value} (hw0 : w.alloc (.cells #[.slice none 0 0, .int .i64 0] 85) = w0) (h : Wrote w0 wr w.heap.size (.slice none 0 0) v') : w.grownBy wr none := by
  have hg : w.grownBy w0 none := by rw [← hw0]; exact grown_alloc (grown_refl _ _) _
  have h1 : Kp w wr (fun b => b = w.heap.size ∨ (Value.slice none 0 0).ownBlock = some b) := (Kp.ofNone hg).trans h.kp (fun b hb => .inl hb)
  refine h1.grown (fun b hb => ?_)
  rcases hb with hb | hb
  · omega
  · cases hb

def FrWPost (w : World) (bytes : List UInt8) (e : Ending) (w' : World) : Prop := e = .returned (.string ⟨bytes.toArray⟩) ∧ w.grownBy w' none

theorem sub_len (wide : Nat) (hw : wide ≤ 16) (l : List Int) (hl : l.length ≤ 256) : (subBits wide (shortest wide l)).length ≤ 5000 := by
  have h := shortest_le wide l
  have h2 : l.length * wide ≤ 256 * 16 := Nat.mul_le_mul hl hw
  unfold subCost at h
  omega

theorem subs_len (wide : Nat) (hw : wide ≤ 16) : ∀ (chs : List (List Int)), (∀ c ∈ chs, c.length ≤ 256) → ((chs.map (shortest wide)).flatMap (subBits wide)).length ≤ chs.length * 5000
  | [], _ => by simp
  | c :: chs, h => by
    have ih := subs_len wide hw chs (fun d hd => h d (by simp [hd]))
    have h1 := sub_len wide hw c (h c (by simp))
    rw [List.map_cons, List.flatMap_cons, List.length_append, List.length_cons, Nat.succ_mul]
    omega

set_option maxHeartbeats 4000000 in
set_option maxRecDepth 20000 in
theorem qfrwrite (w : World) (v : Value) (chs : List (List Int)) (wide number : Nat) (hwd : wide ≤ 16) (hn : number < 256) (hc1 : 1 ≤ chs.length) (hc2 : chs.length ≤ 2) (h : ChIn w v chs) :
    Calls Tryz.prog 26 #[v, .int .i64 wide, .int .i64 number] w (FrWPost w (frameBytes (modeOf chs.length) number (chs.headD []).length wide (chs.map (shortest wide)))) := by
  have hch := h
  obtain ⟨lg, lcap, rfl, hlg, hcells⟩ := h
  obtain ⟨b0, off0, cap0, hc0, hs0⟩ := hcells 0 (by omega)
  obtain ⟨cnt, hcnt⟩ : ∃ cnt, (chs.getD 0 []).length = cnt := ⟨_, rfl⟩
  have hcb := hs0.len
  rw [hcnt] at hc0 hcb
  have hhd : (chs.headD []).length = cnt := by rw [headD_getD]; exact hcnt
  rw [hhd]
  obtain ⟨mode, hmode⟩ : ∃ mode, modeOf chs.length = mode := ⟨_, rfl⟩
  have hm1 : mode ≤ 1 := by rw [← hmode]; unfold modeOf; split <;> omega
  have HAP := fun w => qapart w chs.length hc2
  rw [hmode] at HAP ⊢
  obtain ⟨w0, hw0⟩ : ∃ w0, w.alloc (.cells #[.slice none 0 0, .int .i64 0] 85) = w0 := ⟨_, rfl⟩
  have hs0 : w0.heap.size = w.heap.size + 1 := by rw [← hw0]; simp
  have hW0 := WrS.start w
  rw [hw0] at hW0
  obtain ⟨gw, hgw⟩ : ∃ gw, w.heap.size = gw := ⟨_, rfl⟩
  have HNEW : Hid (∀ wr v', Wrote w0 wr gw (.slice none 0 0) v' → w.grownBy wr none) := fun wr v' h => by rw [← hgw] at h; exact wrote_new hw0 h
  rw [hgw] at hW0 hs0
  have HW0 : Hid (w.alloc (.cells #[.slice none 0 0, .int .i64 0] 85) = w0) := hw0
  have HGW : Hid (w.heap.size = gw) := hgw
  have HS0 : Hid (w0.heap.size = gw + 1) := hs0
  have hb0 : gw + 1 ≤ w0.heap.size := by omega
  have H1 : Calls _ _ #[_, .int .i64 16775280, .int .i64 24] _ _ := qwnum w0 gw (gw + 1) _ [] ((16775280 : Nat) : Int) 24 hW0 hb0 (by simp) (by omega) (by omega)
  clear hw0 hgw hs0 hhd hmode hcnt
  go_enter Tryz.func26, Tryz.ntmps26
  go_upto_region 2 with fail
  rw [HW0.out, HGW.out]
  clear HW0
  go_wp2_with fail
  refine H1.mono ?_
  rintro e w1 ⟨rfl, v1, hs1, hw1⟩
  have hb1 := Nat.le_trans hb0 hw1.kp.size
  have HA1 := HAP w1
  have H2 : Calls _ _ #[_, .int .i64 mode, .int .i64 4] _ _ := qwnum w1 gw (gw + 1) v1 _ (mode : Int) 4 hs1 hb1 (by simp [numBits_length]) (by omega) (by omega)
  clear HAP H1
  go_wp2_with (first
    | (go_at_call 37; refine HA1.mono ?_; rintro e w9 ⟨rfl, rfl⟩))
  refine H2.mono ?_
  rintro e w2 ⟨rfl, v2, hs2, hw2⟩
  have hb2 := Nat.le_trans hb1 hw2.kp.size
  have H3 : Calls _ _ #[_, .int .i64 0, .int .i64 4] _ _ := qwnum w2 gw (gw + 1) v2 _ ((0 : Nat) : Int) 4 hs2 hb2 (by simp [numBits_length]) (by omega) (by omega)
  clear HA1 H2
  go_wp2_with fail
  refine H3.mono ?_
  rintro e w3 ⟨rfl, v3, hs3, hw3⟩
  have hb3 := Nat.le_trans hb2 hw3.kp.size
  have H4 : Calls _ _ #[_, .int .i64 number, .int .i64 8] _ _ := qwnum w3 gw (gw + 1) v3 _ (number : Int) 8 hs3 hb3 (by simp [numBits_length]) (by omega) (by omega)
  clear H3
  go_wp2_with fail
  refine H4.mono ?_
  rintro e w4 ⟨rfl, v4, hs4, hw4⟩
  have hb4 := Nat.le_trans hb3 hw4.kp.size
  have hw04 := hw1.trans (hw2.trans (hw3.trans hw4))
  have hg4 := HNEW.out w4 v4 hw04
  have hcm : (cnt : Int) - 1 = ((cnt - 1 : Nat) : Int) := by omega
  have H5 : Calls _ _ #[_, .int .i64 ((cnt - 1 : Nat) : Int), .int .i64 16] _ _ := qwnum w4 gw (gw + 1) v4 _ ((cnt - 1 : Nat) : Int) 16 hs4 hb4 (by simp [numBits_length]) (by omega) (by omega)
  have k0 : w4.cell? ⟨lg, 0, none⟩ = some (.slice (some ⟨b0, off0, none⟩) cnt cap0) := hg4.cell hc0 (by simp)
  have hcl : (0 : Int) < (chs.length : Int) := by omega
  clear H4
  go_wp2_with fail
  refine H5.mono ?_
  rintro e w5 ⟨rfl, v5, hs5, hw5⟩
  have hb5 := Nat.le_trans hb4 hw5.kp.size
  have hw05 := hw04.trans hw5
  have hL5 : ((((([] : List Bool) ++ numBits ((16775280 : Nat) : Int) 24) ++ numBits (mode : Int) 4) ++ numBits ((0 : Nat) : Int) 4) ++ numBits (number : Int) 8) ++ numBits ((cnt - 1 : Nat) : Int) 16 = headBits mode number cnt := by
    unfold headBits
    simp [List.append_assoc]
  rw [hL5] at hs5
  have HST := qwstring w5 gw (gw + 1) v5 _ hs5 (by rw [headBits_length]; omega)
  have HC8 := crc8_any ⟨(pack (headBits mode number cnt)).toArray⟩ w5 (by show (pack (headBits mode number cnt)).toArray.size ≤ maxLen; rw [List.size_toArray, pack_length, headBits_length]; unfold maxLen; omega)
  obtain ⟨c8, hc8⟩ : ∃ c8, crc 8 7 (pack (headBits mode number cnt)) = c8 := ⟨_, rfl⟩
  have hc8l := crc_lt8 (pack (headBits mode number cnt))
  rw [hc8] at hc8l
  have HC8' : Calls Tryz.prog 38 #[.string ⟨(pack (headBits mode number cnt)).toArray⟩] w5 fun e w' => e = .returned (.int .i64 c8) ∧ w' = w5 := by
    refine HC8.mono ?_
    rintro e w' ⟨rfl, rfl⟩
    exact ⟨by rw [← hc8], rfl⟩
  have HC8E : Hid (crc 8 7 (pack (headBits mode number cnt)) = c8) := hc8
  have H6 : Calls _ _ #[_, .int .i64 c8, .int .i64 8] _ _ := qwnum w5 gw (gw + 1) v5 _ (c8 : Int) 8 hs5 hb5 (by rw [headBits_length]; omega) (by omega) (by omega)
  clear hs1 hs2 hs3 hs4 H5 hL5 hc8 HC8 hcm k0
  go_wp2_with (first
    | (go_at_call 36; refine HST.mono ?_; rintro e w9 ⟨rfl, rfl⟩)
    | (go_at_call 38; refine HC8'.mono ?_; rintro e w9 ⟨rfl, rfl⟩))
  refine H6.mono ?_
  rintro e w6 ⟨rfl, v6, hs6, hw6⟩
  have hb6 := Nat.le_trans hb5 hw6.kp.size
  have hw06 := hw05.trans hw6
  have HCH : Hid (ChIn w (.slice (some ⟨lg, 0, none⟩) chs.length lcap) chs) := hch
  have hl256 : ∀ c ∈ chs, c.length ≤ 256 := by
    intro c hc
    obtain ⟨i, hi, rfl⟩ := List.mem_iff_getElem.1 hc
    obtain ⟨_, _, _, _, hsm⟩ := hcells i hi
    have := hsm.len.2
    simpa [List.getD, hi] using this
  clear H6 HC8' HST hw1 hw2 hw3 hw4 hw5 hw6 hw04 hw05 hb1 hb2 hb3 hb4 hb5 hg4 hs5 hcells hch hc0 hs0
  go_wp2_with fail
  go_loopg [29] chs.length (fun gk t29 wr => ∃ (k : Nat) (v' : Value), gk + k = chs.length ∧ t29 = .int .i64 k ∧ WrS wr gw (gw + 1) v' ((headBits mode number cnt ++ numBits (c8 : Int) 8) ++ ((chs.take k).map (shortest wide)).flatMap (subBits wide)) ∧ Wrote w0 wr gw (.slice none 0 0) v')
  case atStart => exact ⟨0, v6, rfl, rfl, by simpa using hs6, hw06⟩
  case round =>
    clear hs6 hw06 hb6
    obtain ⟨k, v', hgk, rfl, hs, hwr⟩ := hrel
    have hgr := HNEW.out wr v' hwr
    have hbr := Nat.le_trans hb0 hwr.kp.size
    obtain ⟨L, hL⟩ : ∃ L, (headBits mode number cnt ++ numBits (c8 : Int) 8) ++ ((chs.take k).map (shortest wide)).flatMap (subBits wide) = L := ⟨_, rfl⟩
    have hLl : L.length ≤ 20064 := by
      rw [← hL, List.length_append, List.length_append, headBits_length, numBits_length]
      have h1 := subs_len wide hwd (chs.take k) (fun c hc => hl256 c (List.mem_of_mem_take hc))
      rw [List.length_take] at h1
      omega
    rw [hL] at hs
    have HL : Hid ((headBits mode number cnt ++ numBits (c8 : Int) 8) ++ ((chs.take k).map (shortest wide)).flatMap (subBits wide) = L) := hL
    by_cases hlt : k < chs.length
    · obtain ⟨lg', lcap', hv', _, hcl2⟩ := HCH.out
      have elg : lg = lg' := by injection hv' with e1; injection e1 with e1; injection e1 with e1
      subst elg
      obtain ⟨b, off, cap, hck, hsm⟩ := hcl2 k hlt
      have hckr : wr.cell? ⟨lg, k, none⟩ = some (.slice (some ⟨b, off, none⟩) (chs.getD k []).length cap) := hgr.cell hck (by simp)
      obtain ⟨c, hc⟩ : ∃ c, chs.getD k [] = c := ⟨_, rfl⟩
      have hnext : ((chs.take (k + 1)).map (shortest wide)).flatMap (subBits wide) = ((chs.take k).map (shortest wide)).flatMap (subBits wide) ++ subBits wide (shortest wide c) := by
        have e : chs.take (k + 1) = chs.take k ++ [c] := by rw [← hc, List.take_succ_eq_append_getElem hlt]; simp [List.getD, hlt]
        rw [e, List.map_append, List.flatMap_append]
        simp
      rw [hc] at hckr hsm
      have HSH := qshort wr b off cap c wide (by omega) (hsm.kept hgr)
      have hsmall := subs_small hsm
      have hmem : shortest wide c ∈ ESub.plain c :: others c := by
        rcases (pickBest_spec (subCost wide) (others c) (.plain c)).1 with e | e
        · unfold shortest; rw [e]; simp
        · exact List.mem_cons_of_mem _ e
      have hes := hsmall _ hmem
      have HNEXT : Hid _ := hnext
      have hkn : (k : Int) < (chs.length : Int) := by omega
      have hbgw : b < gw := by have := hsm.lt; have := HGW.out; omega
      have hgwr : gw < wr.heap.size := hs.box.lt
      have hvl : ∀ q, v'.ownBlock = some q → gw + 1 ≤ q ∧ q < wr.heap.size := fun q hq => World.ownsRow.lt hs.row q hq
      obtain ⟨sub, hsub⟩ : ∃ sub, shortest wide c = sub := ⟨_, rfl⟩
      rw [hsub] at HSH hes
      have HSUB : Hid (shortest wide c = sub) := hsub
      obtain ⟨ln, hln⟩ : ∃ ln, c.length = ln := ⟨_, rfl⟩
      rw [hln] at HSH hckr
      clear hc hck hcl2 hv' hnext hsmall hmem hsm hsub hln
      go_wp2_with (first
        | (go_at_call 40; refine HSH.mono ?_; rintro e w7 ⟨sv, rfl, hg7, hES⟩))
      have hs7 := hs.grown hg7
      have hES7 := hES.mono (D' := fun q => (q = b ∨ wr.heap.size ≤ q) ∧ q < w7.heap.size) (fun q hq hl => ⟨hq, hl⟩)
      have HWS := qwsub w7 gw (gw + 1) v' sv L _ sub wide hs7 (Nat.le_trans hbr hg7.size) (by omega) (by omega) hes hES7 (fun q hq => ⟨hq.2, by omega, fun e => by have := hvl q e; omega⟩)
      refine HWS.mono ?_
      rintro e w8 ⟨rfl, v8, hs8, hw8⟩
      have hwr8 := hwr.trans ((Wrote.grown wr w7 gw v' hg7).trans hw8)
      clear HWS HSH hES hES7 hs7 hs hL hLl hg7 hw8 hwr hgr
      go_wp2
      go_roundg (gk - 1)
      case measure => omega
      case rel => exact ⟨k + 1, v8, by omega, by go_num, by rw [HNEXT.out, HSUB.out, ← List.append_assoc, HL.out]; exact hs8, hwr8⟩
    · have hkn : k = chs.length := by omega
      subst hkn
      have hLe : L = preBits mode number cnt wide (chs.map (shortest wide)) := by
        rw [← hL, List.take_length]
        unfold preBits
        rw [HC8E.out, List.append_assoc]
      have HAL := qwalign wr gw (gw + 1) v' L hs (by omega)
      have hLpos : 64 ≤ L.length := by rw [← hL, List.length_append, List.length_append, headBits_length, numBits_length]; omega
      have HLE : Hid (L = preBits mode number cnt wide (chs.map (shortest wide))) := hLe
      clear hLe hL HL hgk
      go_wp2_with fail
      refine HAL.mono ?_
      rintro e w7 ⟨rfl, v7, hs7, hw7⟩
      have hL7 : (L ++ List.replicate (padLen L.length) false).length ≤ 20080 := by rw [List.length_append, List.length_replicate]; unfold padLen; omega
      have HST := qwstring w7 gw (gw + 1) v7 _ hs7 (by rw [List.length_append]; omega)
      rw [pack_pad] at HST
      have HC16 := crc16_any ⟨(pack L).toArray⟩ w7 (by show (pack L).toArray.size ≤ maxLen; rw [List.size_toArray, pack_length]; unfold maxLen; omega)
      obtain ⟨c16, hc16⟩ : ∃ c16, crc 16 32773 (pack L) = c16 := ⟨_, rfl⟩
      have hc16l := crc_lt16 (pack L)
      rw [hc16] at hc16l
      have HC16' : Calls Tryz.prog 42 #[.string ⟨(pack L).toArray⟩] w7 fun e w' => e = .returned (.int .i64 c16) ∧ w' = w7 := by
        refine HC16.mono ?_
        rintro e w' ⟨rfl, rfl⟩
        exact ⟨by rw [← hc16], rfl⟩
      have HC16E : Hid (crc 16 32773 (pack L) = c16) := hc16
      have H8 : Calls _ _ #[_, .int .i64 c16, .int .i64 16] _ _ := qwnum w7 gw (gw + 1) v7 _ (c16 : Int) 16 hs7 (Nat.le_trans hbr hw7.kp.size) (by omega) (by omega) (by omega)
      clear HC16 hc16 HAL
      go_wp2_with (first
        | (go_at_call 36; refine HST.mono ?_; rintro e w9 ⟨rfl, rfl⟩)
        | (go_at_call 42; refine HC16'.mono ?_; rintro e w9 ⟨rfl, rfl⟩))
      refine H8.mono ?_
      rintro e w10 ⟨rfl, v10, hs10, hw10⟩
      have HST2 := qwstring w10 gw (gw + 1) v10 _ hs10 (by rw [List.length_append, List.length_append]; omega)
      have hbytes : pack ((L ++ List.replicate (padLen L.length) false) ++ numBits (c16 : Int) 16) = frameBytes mode number cnt wide (chs.map (shortest wide)) := by
        unfold frameBytes
        rw [← HLE.out, HC16E.out, pack_append _ _ (by rw [List.length_append, List.length_replicate]; unfold padLen; omega), pack_pad]
      rw [hbytes] at HST2
      have hgf := HNEW.out w10 v10 (hwr.trans (hw7.trans hw10))
      have hpost : FrWPost w (frameBytes mode number cnt wide (chs.map (shortest wide))) (.returned (.string ⟨(frameBytes mode number cnt wide (chs.map (shortest wide))).toArray⟩)) w10 := ⟨rfl, hgf⟩
      clear H8 HC16' HST hbytes hs10 hs7 hs hgf hL7 hLl
      go_wp2_with (go_at_call 36; refine HST2.mono ?_; rintro e w11 ⟨rfl, rfl⟩)
      exact bodyPost_ret (v := .string ⟨(frameBytes mode number cnt wide (chs.map (shortest wide))).toArray⟩) (by simp [results, Tryz.results26, go_sem]) rfl hpost
end Go.Proofs.YtncmgnmcggkhnaaGreat
