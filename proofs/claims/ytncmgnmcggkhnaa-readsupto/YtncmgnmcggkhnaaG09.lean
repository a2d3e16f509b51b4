import Derived.Test.YtncmgnmcggkhnaaG08
import Derived.Deep.DeepCutAuto
import Derived.Deep.CutBlock
import Derived.Deep.LoopGhost
import Derived.Test.YtncmgnmcggkhnaaG07
namespace Go.Proofs.Ytncmgnmcggkhnaa
open Go.RowKit

/-- the cells of a head -/
def headC (h : Head) : Array Value := #[.int .i64 h.block, .int .i64 h.rate, .int .i64 h.channels, .int .i64 h.bits, .int .i64 h.total]

/-- alive, or the mark is set -/
def StM (t : TypeId) (w : World) (b : Nat) (s : ByteArray) : Option (List Bool) → Prop
  | some l => St t w b s (some l)
  | none => w.cell? ⟨b, 2, none⟩ = some (.bool true)

theorem StM.of {t : TypeId} {w : World} {b : Nat} {s : ByteArray} {σ : Option (List Bool)} (h : St t w b s σ) : StM t w b s σ := by
  cases σ with
  | none => exact h.mark
  | some l => exact h

theorem StM.mark {t : TypeId} {w : World} {b : Nat} {s : ByteArray} {σ : Option (List Bool)} (h : StM t w b s σ) : w.cell? ⟨b, 2, none⟩ = some (.bool σ.isNone) := by
  cases σ with
  | none => exact h
  | some l => exact St.mark (σ := some l) h

theorem StM.kept {t : TypeId} {w w' : World} {b : Nat} {s : ByteArray} {σ : Option (List Bool)} {row : Option Nat} (h : StM t w b s σ) (hb : b < w.heap.size) (hg : w.grownBy w' row) (hne : some b ≠ row) : StM t w' b s σ := by
  cases σ with
  | none =>
    show w'.cell? _ = _
    rw [World.cell?_of_block (hg.block b hb hne)]
    exact h
  | some l => exact St.kept (σ := some l) h hg hne

def BlocksPost (w : World) (b : Nat) (s : ByteArray) (l : List Bool) (e : Ending) (w' : World) : Prop :=
  ∃ h : Head, e = .returned (headV h) ∧ w.grownBy w' (some b) ∧
    ((∃ r, pBlocks l = some (h, r) ∧ St 86 w' b s (some r)) ∨ (pBlocks l = none ∧ w'.cell? ⟨b, 2, none⟩ = some (.bool true)))

/-- what the loop knows of memory -/
def BlkMem (w wr : World) (b r g : Nat) (s : ByteArray) (h : Head) (σ : Option (List Bool)) : Prop :=
  w.grownBy wr (some b) ∧ Box wr r #[Value.int .i64 0, .int .i64 0, .int .i64 0, .int .i64 0, .int .i64 0] 87 ∧ Box wr g (headC h) 87 ∧ StM 86 wr b s σ

theorem BlkMem.step {w wr w' : World} {b r g : Nat} {s : ByteArray} {h : Head} {σ σ' : Option (List Bool)} (hm : BlkMem w wr b r g s h σ) (hr : some r ≠ some b) (hg : some g ≠ some b) (k : wr.grownBy w' (some b))
    (hs : StM 86 w' b s σ') : BlkMem w w' b r g s h σ' :=
  ⟨grown_trans hm.1 k, hm.2.1.kept k hr, hm.2.2.1.kept k hg, hs⟩

/-- the answer is laid into its block -/
theorem blk_fin {w wr : World} {b g : Nat} {s : ByteArray} {h : Head} {σ : Option (List Bool)} {l : List Bool} (hb : b < w.heap.size) (hm : BlkMem w wr b w.heap.size g s h σ)
    (hp : pBlocks l = σ.map fun r => (h, r)) (W : World)
    (hW : W = ((((wr.setCell ⟨w.heap.size, 0, none⟩ (.int .i64 h.block)).setCell ⟨w.heap.size, 1, none⟩ (.int .i64 h.rate)).setCell ⟨w.heap.size, 2, none⟩ (.int .i64 h.channels)).setCell ⟨w.heap.size, 3, none⟩ (.int .i64 h.bits)).setCell ⟨w.heap.size, 4, none⟩ (.int .i64 h.total)) :
    Box W w.heap.size (headC h) 87 ∧ BlocksPost w b s l (.returned (headV h)) W := by
  subst hW
  obtain ⟨hg, hr, hgb, hst⟩ := hm
  have h5 := five_stores wr w.heap.size _ _ _ _ _ _ (.int .i64 h.block) (.int .i64 h.rate) (.int .i64 h.channels) (.int .i64 h.bits) (.int .i64 h.total) hr
  refine ⟨h5.1, h, rfl, grown_own hg h5.2 (fun q hq => by injection hq with hq; omega), ?_⟩
  have hst' := hst.kept (Nat.lt_of_lt_of_le hb hg.size) h5.2 (fun e => by injection e with e; omega)
  cases σ with
  | none => exact .inr ⟨hp, hst'⟩
  | some r => exact .inl ⟨r, hp, hst'⟩

set_option maxHeartbeats 4000000 in
set_option maxRecDepth 20000 in
theorem rblocks (w : World) (b : Nat) (s : ByteArray) (hs : s.size ≤ 6000) (hst : St 86 w b s (some (bitsOf s.data.toList))) :
    Calls Try.prog 44 #[.pointer (some ⟨b, 0, none⟩)] w (BlocksPost w b s (bitsOf s.data.toList)) := by
  obtain ⟨l, hl⟩ : ∃ l, bitsOf s.data.toList = l := ⟨_, rfl⟩
  have hl8 : l.length = 8 * s.size := by rw [← hl, total_bits]
  rw [hl] at hst ⊢
  clear hl
  have hblt := hst.lt
  go_enter Try.func44, Try.ntmps44
  go_wp2_with fail
  have hbr0 := Box.new w #[Value.int .i64 0, .int .i64 0, .int .i64 0, .int .i64 0, .int .i64 0] 87
  have hst0 := hst.alloc (.cells #[Value.int .i64 0, .int .i64 0, .int .i64 0, .int .i64 0, .int .i64 0] 87)
  have hg0 : w.grownBy (w.alloc (.cells #[Value.int .i64 0, .int .i64 0, .int .i64 0, .int .i64 0, .int .i64 0] 87)) (some b) := grown_alloc (grown_refl _ _) _
  have hnr : some w.heap.size ≠ some b := fun e => by injection e with e; omega
  refine (rmustI _ _ _ _ _ 8 102 _ rfl rfl hs (by omega) (by omega) hst0).mono ?_
  rintro e w1 ⟨σ1, rfl, hg1, hst1, hends1⟩
  have hbr1 := hbr0.kept hg1 hnr
  have hgg1 := grown_trans hg0 hg1
  clear hbr0 hst0 hg0 hg1 hst
  go_wp2_with fail
  refine (rmustI _ _ _ _ _ 8 76 _ rfl rfl hs (by omega) (by omega) hst1).mono ?_
  rintro e w2 ⟨σ2, rfl, hg2, hst2, hends2⟩
  have hbr2 := hbr1.kept hg2 hnr
  have hgg2 := grown_trans hgg1 hg2
  clear hbr1 hgg1 hg2 hst1
  go_wp2_with fail
  refine (rmustI _ _ _ _ _ 8 97 _ rfl rfl hs (by omega) (by omega) hst2).mono ?_
  rintro e w3 ⟨σ3, rfl, hg3, hst3, hends3⟩
  have hbr3 := hbr2.kept hg3 hnr
  have hgg3 := grown_trans hgg2 hg3
  clear hbr2 hgg2 hg3 hst2
  go_wp2_with fail
  refine (rmustI _ _ _ _ _ 8 67 _ rfl rfl hs (by omega) (by omega) hst3).mono ?_
  rintro e w4 ⟨σ4, rfl, hg4, hst4, hends4⟩
  have hbr4 := hbr3.kept hg4 hnr
  have hgg4 := grown_trans hgg3 hg4
  have hstart := blk_start (by omega) hends1 hends2 hends3 hends4 ⟨0, 0, 0, 0, 0⟩
  clear hbr3 hgg3 hg4 hst3 hends1 hends2 hends3 hends4
  obtain ⟨g, hg⟩ : ∃ g, w4.heap.size = g := ⟨_, rfl⟩
  have hrg : w.heap.size < g := by rw [← hg]; exact hbr4.lt
  have hbg4 := Box.new w4 #[Value.int .i64 0, .int .i64 0, .int .i64 0, .int .i64 0, .int .i64 0] 87
  have hmem : BlkMem w (w4.alloc (.cells #[Value.int .i64 0, .int .i64 0, .int .i64 0, .int .i64 0, .int .i64 0] 87)) b w.heap.size g s ⟨0, 0, 0, 0, 0⟩ σ4 :=
    ⟨grown_alloc hgg4 _, hbr4.kept (grown_alloc (grown_refl _ none) _) (by simp), by rw [← hg]; exact hbg4, StM.of (hst4.alloc _)⟩
  clear hbr4 hgg4 hst4 hbg4
  have HG : Hid (w4.heap.size = g) := hg
  clear hg
  have hng : some g ≠ some b := fun e => by injection e with e; omega
  go_wp2_with fail
  rw [HG.out]
  go_loopg [4] (l.length + 1) (fun gk i wr => ∃ (first : Bool) (h : Head) (σ : Option (List Bool)), i = .bool first ∧ BlkMem w wr b w.heap.size g s h σ ∧ BlkInv l first h σ gk)
  case atStart => exact ⟨true, ⟨0, 0, 0, 0, 0⟩, σ4, rfl, hmem, hstart⟩
  case round =>
    obtain ⟨first, h, σ, rfl, hmem, hinv⟩ := hrel
    clear hstart
    rcases σ with _ | r
    · have hm : wr.cell? ⟨b, 2, none⟩ = some (.bool true) := hmem.2.2.2
      have e0 : wr.cell? ⟨g, 0, none⟩ = some (.int .i64 h.block) := hmem.2.2.1.cell 0
      have e1 : wr.cell? ⟨g, 1, none⟩ = some (.int .i64 h.rate) := hmem.2.2.1.cell 1
      have e2 : wr.cell? ⟨g, 2, none⟩ = some (.int .i64 h.channels) := hmem.2.2.1.cell 2
      have e3 : wr.cell? ⟨g, 3, none⟩ = some (.int .i64 h.bits) := hmem.2.2.1.cell 3
      have e4 : wr.cell? ⟨g, 4, none⟩ = some (.int .i64 h.total) := hmem.2.2.1.cell 4
      have z0 : wr.cell? ⟨w.heap.size, 0, none⟩ = some (.int .i64 0) := hmem.2.1.cell 0
      have z1 : wr.cell? ⟨w.heap.size, 1, none⟩ = some (.int .i64 0) := hmem.2.1.cell 1
      have z2 : wr.cell? ⟨w.heap.size, 2, none⟩ = some (.int .i64 0) := hmem.2.1.cell 2
      have z3 : wr.cell? ⟨w.heap.size, 3, none⟩ = some (.int .i64 0) := hmem.2.1.cell 3
      have z4 : wr.cell? ⟨w.heap.size, 4, none⟩ = some (.int .i64 0) := hmem.2.1.cell 4
      have y0 := hmem.2.1.fz 0
      have y1 := hmem.2.1.fz 1
      have y2 := hmem.2.1.fz 2
      have y3 := hmem.2.1.fz 3
      have y4 := hmem.2.1.fz 4
      have hf := blk_fin hblt hmem hinv _ rfl
      go_wp2
      generalize (World.setCell _ _ (Value.int .i64 h.total)) = wf at hf ⊢
      have x0 := hf.1.cell 0
      have x1 := hf.1.cell 1
      have x2 := hf.1.cell 2
      have x3 := hf.1.cell 3
      have x4 := hf.1.cell 4
      exact bodyPost_ret (v := headV h) (by simp [results, Try.results44, go_sem, x0, x1, x2, x3, x4, headV, headC]) rfl hf.2
    · have hm : wr.cell? ⟨b, 2, none⟩ = some (.bool false) := hmem.2.2.2.mark
      have hstr : St 86 wr b s (some r) := hmem.2.2.2
      go_wp2_with fail
      refine (rnum _ _ _ 1 _ hs (by omega) hstr).mono ?_
      rintro e w1 ⟨last, σ1, rfl, hlast0, hg1, hst1, hends1⟩
      have hlast : last < 2 := hlast0
      have hmem1 := hmem.step hnr hng hg1 (StM.of hst1)
      clear hmem hm hstr hlast0 hg1
      go_wp2_with fail
      refine (rnum _ _ _ 7 _ hs (by omega) hst1).mono ?_
      rintro e w2 ⟨kind, σ2, rfl, hkind0, hg2, hst2, hends2⟩
      have hkind : kind < 128 := hkind0
      have hmem2 := hmem1.step hnr hng hg2 (StM.of hst2)
      clear hmem1 hst1 hkind0 hg2
      go_wp2_with fail
      refine (rnum _ _ _ 24 _ hs (by omega) hst2).mono ?_
      rintro e w3 ⟨size, σ3, rfl, hsize0, hg3, hst3, hends3⟩
      have hsize : size < 16777216 := hsize0
      have hmem3 := hmem2.step hnr hng hg3 (StM.of hst3)
      have hblk := block_ends hends1 hends2 hends3
      clear hmem2 hst2 hsize0 hg3 hends1 hends2 hends3
      obtain ⟨a, m, ha, hrd, hma⟩ := hst3.rd hs
      have HMA : Hid (m = σ3.isNone ∧ ∀ l, σ3 = some l → a = 8 * s.size - l.length) := hma
      clear hma
      have k0 := hrd.c0
      have k1 := hrd.c1
      obtain ⟨ok, hok⟩ : ∃ ok, (((kind == 0) == first) && !(kind == 127) && !(kind == 3 && !(size % 18 == 0)) && decide (a / 8 + size ≤ s.size)) = ok := ⟨_, rfl⟩
      have HOK : Hid ((((kind == 0) == first) && !(kind == 127) && !(kind == 3 && !(size % 18 == 0)) && decide (a / 8 + size ≤ s.size)) = ok) := hok
      clear hok
      go_upto_region 12 with fail
      go_cut [58] (fun s58 wx => (∃ d, wx = w3.drewN d) ∧ s58 = .bool (!ok))
      case first =>
        have hcast : ∀ c : Nat, ((kind : Int) == (c : Int)) = (kind == c) := fun c => by
          rw [Bool.eq_iff_iff]; simp; omega
        have hc0 : ((kind : Int) == 0) = (kind == 0) := hcast 0
        have hc1 : ((kind : Int) == 127) = (kind == 127) := hcast 127
        have hc3 : ((kind : Int) == 3) = (kind == 3) := hcast 3
        have hrem : ((size : Int) % 18 != 0) = !(size % 18 == 0) := by rw [Bool.eq_iff_iff]; simp; omega
        have hcmp : decide ((s.size : Int) < (a : Int) / 8 + size) = !decide (a / 8 + size ≤ s.size) := by rw [Bool.eq_iff_iff]; simp; omega
        clear hcast
        obtain ⟨p0, hp0⟩ : ∃ p0, (kind == 0) = p0 := ⟨_, rfl⟩
        obtain ⟨p1, hp1⟩ : ∃ p1, (kind == 127) = p1 := ⟨_, rfl⟩
        obtain ⟨p3, hp3⟩ : ∃ p3, (kind == 3) = p3 := ⟨_, rfl⟩
        obtain ⟨p4, hp4⟩ : ∃ p4, (size % 18 == 0) = p4 := ⟨_, rfl⟩
        obtain ⟨p5, hp5⟩ : ∃ p5, decide (a / 8 + size ≤ s.size) = p5 := ⟨_, rfl⟩
        have HOK2 : Hid (((p0 == first) && !p1 && !(p3 && !p4) && p5) = ok) := by
          show _ = _
          rw [← HOK.out, hp0, hp1, hp3, hp4, hp5]
        rw [hp0] at hc0
        rw [hp1] at hc1
        rw [hp3] at hc3
        rw [hp4] at hrem
        rw [hp5] at hcmp
        clear hp0 hp1 hp3 hp4 hp5 HOK
        cases p0 <;> cases first
        · skip
          cases p1
          · cases p3
            · cases p5
              · go_quiet (fail)
                go_wp2
                go_meet
                case rel => exact ⟨⟨_, rfl⟩, congrArg Value.bool (by rw [← HOK2.out]; simp)⟩
              · go_quiet (fail)
                go_wp2
                go_meet
                case rel => exact ⟨⟨_, rfl⟩, congrArg Value.bool (by rw [← HOK2.out]; simp)⟩
            · cases p4
              · go_quiet (fail)
                go_wp2
                go_meet
                case rel => exact ⟨⟨_, rfl⟩, congrArg Value.bool (by rw [← HOK2.out]; simp)⟩
              · cases p5
                · go_quiet (fail)
                  go_wp2
                  go_meet
                  case rel => exact ⟨⟨_, rfl⟩, congrArg Value.bool (by rw [← HOK2.out]; simp)⟩
                · go_quiet (fail)
                  go_wp2
                  go_meet
                  case rel => exact ⟨⟨_, rfl⟩, congrArg Value.bool (by rw [← HOK2.out]; simp)⟩
          · go_quiet (fail)
            go_wp2
            go_meet
            case rel => exact ⟨⟨_, rfl⟩, congrArg Value.bool (by rw [← HOK2.out]; simp)⟩
        · go_quiet (fail)
          go_wp2
          go_meet
          case rel => exact ⟨⟨_, rfl⟩, congrArg Value.bool (by rw [← HOK2.out]; simp)⟩
        · go_quiet (fail)
          go_wp2
          go_meet
          case rel => exact ⟨⟨_, rfl⟩, congrArg Value.bool (by rw [← HOK2.out]; simp)⟩
        · skip
          cases p1
          · cases p3
            · cases p5
              · go_quiet (fail)
                go_wp2
                go_meet
                case rel => exact ⟨⟨_, rfl⟩, congrArg Value.bool (by rw [← HOK2.out]; simp)⟩
              · go_quiet (fail)
                go_wp2
                go_meet
                case rel => exact ⟨⟨_, rfl⟩, congrArg Value.bool (by rw [← HOK2.out]; simp)⟩
            · cases p4
              · go_quiet (fail)
                go_wp2
                go_meet
                case rel => exact ⟨⟨_, rfl⟩, congrArg Value.bool (by rw [← HOK2.out]; simp)⟩
              · cases p5
                · go_quiet (fail)
                  go_wp2
                  go_meet
                  case rel => exact ⟨⟨_, rfl⟩, congrArg Value.bool (by rw [← HOK2.out]; simp)⟩
                · go_quiet (fail)
                  go_wp2
                  go_meet
                  case rel => exact ⟨⟨_, rfl⟩, congrArg Value.bool (by rw [← HOK2.out]; simp)⟩
          · go_quiet (fail)
            go_wp2
            go_meet
            case rel => exact ⟨⟨_, rfl⟩, congrArg Value.bool (by rw [← HOK2.out]; simp)⟩
      case rest =>
        obtain ⟨⟨d, hwc⟩, hs58⟩ := hcut
        subst hs58
        have hmem4 := hmem3.step hnr hng (grown_drewN (grown_refl _ _) d) (StM.of (hst3.drewN d))
        have hst4 := hst3.drewN d
        have hrd4 := hrd.drewN d
        rw [← hwc] at hmem4 hst4 hrd4
        clear hwc hmem3 hst3 hrd k0 k1
        have hblkok : ∀ r3, σ3 = some r3 → blkOk first kind size r3.length = ok := by
          intro r3 e
          subst e
          have e1 := HMA.out.2 r3 rfl
          rcases hblk.cases with ⟨r3', e2, e3⟩ | ⟨_, e3⟩
          · injection e3 with e3
            subst e3
            have e4 := block_left e2
            have e5 := hinv.1
            have e6 := Live.length hst4
            rw [← HOK.out]
            unfold blkOk
            congr 1
            exact decide_eq_decide.mpr (by omega)
          · cases e3
        have k1 := hrd4.c1
        have k2 := hrd4.c2
        have f1 := hrd4.fz 1
        have f2 := hrd4.fz 2
        have hgb : b < g := by omega
        have hgk : 0 < gk := by
          cases first with
          | true => have := hinv.2.1; omega
          | false => have := hinv.2.1; omega
        cases ok with
        | false =>
          have hnone : pBlocks l = none := blk_none hinv hblk hblkok
          have hmem5 : BlkMem w (wc.setCell ⟨b, 2, none⟩ (.bool true)) b w.heap.size g s h none := hmem4.step hnr hng (grown_set _ _ _ _) (hrd4.set2 true).c2
          have hf := blk_fin hblt hmem5 hnone _ rfl
          have e0 : wc.cell? ⟨g, 0, none⟩ = some (.int .i64 h.block) := hmem4.2.2.1.cell 0
          have e1 : wc.cell? ⟨g, 1, none⟩ = some (.int .i64 h.rate) := hmem4.2.2.1.cell 1
          have e2 : wc.cell? ⟨g, 2, none⟩ = some (.int .i64 h.channels) := hmem4.2.2.1.cell 2
          have e3 : wc.cell? ⟨g, 3, none⟩ = some (.int .i64 h.bits) := hmem4.2.2.1.cell 3
          have e4 : wc.cell? ⟨g, 4, none⟩ = some (.int .i64 h.total) := hmem4.2.2.1.cell 4
          have z0 : wc.cell? ⟨w.heap.size, 0, none⟩ = some (.int .i64 0) := hmem4.2.1.cell 0
          have z1 : wc.cell? ⟨w.heap.size, 1, none⟩ = some (.int .i64 0) := hmem4.2.1.cell 1
          have z2 : wc.cell? ⟨w.heap.size, 2, none⟩ = some (.int .i64 0) := hmem4.2.1.cell 2
          have z3 : wc.cell? ⟨w.heap.size, 3, none⟩ = some (.int .i64 0) := hmem4.2.1.cell 3
          have z4 : wc.cell? ⟨w.heap.size, 4, none⟩ = some (.int .i64 0) := hmem4.2.1.cell 4
          have y0 := hmem4.2.1.fz 0
          have y1 := hmem4.2.1.fz 1
          have y2 := hmem4.2.1.fz 2
          have y3 := hmem4.2.1.fz 3
          have y4 := hmem4.2.1.fz 4
          clear hmem5 hblkok hinv hblk hst4
          go_wp2
          generalize (World.setCell _ _ (Value.int .i64 h.total)) = wf at hf ⊢
          have x0 := hf.1.cell 0
          have x1 := hf.1.cell 1
          have x2 := hf.1.cell 2
          have x3 := hf.1.cell 3
          have x4 := hf.1.cell 4
          exact bodyPost_ret (v := headV h) (by simp [results, Try.results44, go_sem, x0, x1, x2, x3, x4, headV, headC]) rfl hf.2
        | true =>
          cases first with
          | true =>
            have hk0 : kind = 0 := by
              have := HOK.out
              simp at this
              omega
            have hroom : ∀ l, σ3 = some l → size = 34 → 272 ≤ l.length := by
              intro r3 e e34
              have := hblkok r3 e
              simp [blkOk] at this
              omega
            clear HOK
            go_wp2_with fail
            refine (rhead wc b s size σ3 hs hsize hroom hst4).mono ?_
            rintro e w5 ⟨h', rfl, hg5, hcase⟩
            have hmid0 : ∃ σ', StM 86 w5 b s σ' ∧ BlkMid l last h' σ' (gk - 1) := by
              rcases hcase with ⟨r3, r5, e3, e34, e5, hst5⟩ | ⟨hno, hmk⟩
              · refine ⟨some r5, hst5, ?_⟩
                subst e3
                rcases hblk.cases with ⟨r3', e6, e7⟩ | ⟨_, e7⟩
                · injection e7 with e7
                  subst e7
                  subst hk0
                  subst e34
                  exact blk_first hinv e6 e5
                · cases e7
              · exact ⟨none, hmk, blk_dead (blk_first_none hinv hblk hno)⟩
            obtain ⟨σ', hstm, hmid⟩ := hmid0
            have hmem5 := hmem4.step hnr hng hg5 hstm
            clear hcase hmem4 hst4 hrd4 k1 k2 f1 f2 hroom hblkok hinv hblk hk0
            have h5 := five_stores w5 g _ _ _ _ _ _ (.int .i64 h'.block) (.int .i64 h'.rate) (.int .i64 h'.channels) (.int .i64 h'.bits) (.int .i64 h'.total) hmem5.2.2.1
            have hmem6 : BlkMem w (((((w5.setCell ⟨g, 0, none⟩ (.int .i64 h'.block)).setCell ⟨g, 1, none⟩ (.int .i64 h'.rate)).setCell ⟨g, 2, none⟩ (.int .i64 h'.channels)).setCell ⟨g, 3, none⟩ (.int .i64 h'.bits)).setCell ⟨g, 4, none⟩ (.int .i64 h'.total)) b w.heap.size g s h' σ' :=
              ⟨grown_own hmem5.1 h5.2 (fun q hq => by injection hq with hq; omega), hmem5.2.1.kept h5.2 (fun e => by injection e with e; omega), h5.1, hstm.kept (Nat.lt_of_lt_of_le hblt hmem5.1.size) h5.2 (fun e => by injection e with e; omega)⟩
            have e0 : w5.cell? ⟨g, 0, none⟩ = some (.int .i64 h.block) := hmem5.2.2.1.cell 0
            have e1 : w5.cell? ⟨g, 1, none⟩ = some (.int .i64 h.rate) := hmem5.2.2.1.cell 1
            have e2 : w5.cell? ⟨g, 2, none⟩ = some (.int .i64 h.channels) := hmem5.2.2.1.cell 2
            have e3 : w5.cell? ⟨g, 3, none⟩ = some (.int .i64 h.bits) := hmem5.2.2.1.cell 3
            have e4 : w5.cell? ⟨g, 4, none⟩ = some (.int .i64 h.total) := hmem5.2.2.1.cell 4
            have y0 := hmem5.2.2.1.fz 0
            have y1 := hmem5.2.2.1.fz 1
            have y2 := hmem5.2.2.1.fz 2
            have y3 := hmem5.2.2.1.fz 3
            have y4 := hmem5.2.2.1.fz 4
            clear h5 hmem5 hstm
            unfold headV
            go_upto_region 18 with fail
            generalize (World.setCell _ _ (Value.int .i64 h'.total)) = W at hmem6 ⊢
            clear e0 e1 e2 e3 e4 y0 y1 y2 y3 y4
            by_cases h1 : last = 1
            · have hmid1 : pBlocks l = σ'.map (fun r => (h', r)) := by
                unfold BlkMid at hmid
                rw [if_pos h1] at hmid
                exact hmid
              have hf := blk_fin hblt hmem6 hmid1 _ rfl
              clear hmid hmid1
              have t1 : ((last : Int) == 1) = true := by simp; omega
              clear h1
              have e0 : W.cell? ⟨g, 0, none⟩ = some (.int .i64 h'.block) := hmem6.2.2.1.cell 0
              have e1 : W.cell? ⟨g, 1, none⟩ = some (.int .i64 h'.rate) := hmem6.2.2.1.cell 1
              have e2 : W.cell? ⟨g, 2, none⟩ = some (.int .i64 h'.channels) := hmem6.2.2.1.cell 2
              have e3 : W.cell? ⟨g, 3, none⟩ = some (.int .i64 h'.bits) := hmem6.2.2.1.cell 3
              have e4 : W.cell? ⟨g, 4, none⟩ = some (.int .i64 h'.total) := hmem6.2.2.1.cell 4
              have z0 : W.cell? ⟨w.heap.size, 0, none⟩ = some (.int .i64 0) := hmem6.2.1.cell 0
              have z1 : W.cell? ⟨w.heap.size, 1, none⟩ = some (.int .i64 0) := hmem6.2.1.cell 1
              have z2 : W.cell? ⟨w.heap.size, 2, none⟩ = some (.int .i64 0) := hmem6.2.1.cell 2
              have z3 : W.cell? ⟨w.heap.size, 3, none⟩ = some (.int .i64 0) := hmem6.2.1.cell 3
              have z4 : W.cell? ⟨w.heap.size, 4, none⟩ = some (.int .i64 0) := hmem6.2.1.cell 4
              have y0 := hmem6.2.1.fz 0
              have y1 := hmem6.2.1.fz 1
              have y2 := hmem6.2.1.fz 2
              have y3 := hmem6.2.1.fz 3
              have y4 := hmem6.2.1.fz 4
              go_wp2
              generalize (World.setCell _ _ (Value.int .i64 h'.total)) = wf at hf ⊢
              have x0 := hf.1.cell 0
              have x1 := hf.1.cell 1
              have x2 := hf.1.cell 2
              have x3 := hf.1.cell 3
              have x4 := hf.1.cell 4
              exact bodyPost_ret (v := headV h') (by simp [results, Try.results44, go_sem, x0, x1, x2, x3, x4, headV, headC]) rfl hf.2
            · have hmid1 : BlkInv l false h' σ' (gk - 1) := by
                unfold BlkMid at hmid
                rw [if_neg h1] at hmid
                exact hmid
              have t1 : ((last : Int) == 1) = false := by simp; omega
              clear hmid h1
              go_wp2
              go_roundg (gk - 1)
              case measure => omega
              case rel => exact ⟨false, h', σ', rfl, hmem6, hmid1⟩
          | false =>
            have hmid0 : ∃ σ', StM 86 (wc.setCell ⟨b, 1, none⟩ (.int .i64 ((a : Int) + 8 * (size : Int)))) b s σ' ∧ BlkMid l last h σ' (gk - 1) := by
              have hrd5 := hrd4.set1 (a + 8 * size)
              rcases σ3 with _ | r3
              · refine ⟨none, ?_, blk_dead (blk_next_none hinv hblk)⟩
                have : m = true := HMA.out.1
                rw [this] at hrd5
                exact hrd5.c2
              · have hbk := hblkok r3 rfl
                have hsz : 8 * size ≤ r3.length := by simp [blkOk] at hbk; omega
                refine ⟨some (r3.drop (8 * size)), ?_, ?_⟩
                · have hm1 : m = false := HMA.out.1
                  have ha1 := HMA.out.2 r3 rfl
                  rw [hm1] at hrd5
                  obtain ⟨a', ha', hl', _⟩ := hst4
                  have hlen : r3.length = 8 * s.size - a' := by rw [hl', List.length_drop, total_bits]
                  refine ⟨a + 8 * size, by omega, ?_, hrd5⟩
                  rw [hl', List.drop_drop]
                  congr 1
                  omega
                · rcases hblk.cases with ⟨r3', e6, e7⟩ | ⟨_, e7⟩
                  · injection e7 with e7
                    subst e7
                    exact blk_next hinv e6 hbk
                  · cases e7
            obtain ⟨σ', hstm, hmid⟩ := hmid0
            have hmem6 := hmem4.step hnr hng (grown_set wc b 1 (.int .i64 ((a : Int) + 8 * (size : Int)))) hstm
            clear hmem4 hst4 hrd4 hblkok hinv hblk hstm HOK
            go_upto_region 18 with fail
            generalize (World.setCell _ _ (Value.int .i64 ((a : Int) + 8 * (size : Int)))) = W at hmem6 ⊢
            clear k1 k2 f1 f2
            by_cases h1 : last = 1
            · have hmid1 : pBlocks l = σ'.map (fun r => (h, r)) := by
                unfold BlkMid at hmid
                rw [if_pos h1] at hmid
                exact hmid
              have hf := blk_fin hblt hmem6 hmid1 _ rfl
              clear hmid hmid1
              have t1 : ((last : Int) == 1) = true := by simp; omega
              clear h1
              have e0 : W.cell? ⟨g, 0, none⟩ = some (.int .i64 h.block) := hmem6.2.2.1.cell 0
              have e1 : W.cell? ⟨g, 1, none⟩ = some (.int .i64 h.rate) := hmem6.2.2.1.cell 1
              have e2 : W.cell? ⟨g, 2, none⟩ = some (.int .i64 h.channels) := hmem6.2.2.1.cell 2
              have e3 : W.cell? ⟨g, 3, none⟩ = some (.int .i64 h.bits) := hmem6.2.2.1.cell 3
              have e4 : W.cell? ⟨g, 4, none⟩ = some (.int .i64 h.total) := hmem6.2.2.1.cell 4
              have z0 : W.cell? ⟨w.heap.size, 0, none⟩ = some (.int .i64 0) := hmem6.2.1.cell 0
              have z1 : W.cell? ⟨w.heap.size, 1, none⟩ = some (.int .i64 0) := hmem6.2.1.cell 1
              have z2 : W.cell? ⟨w.heap.size, 2, none⟩ = some (.int .i64 0) := hmem6.2.1.cell 2
              have z3 : W.cell? ⟨w.heap.size, 3, none⟩ = some (.int .i64 0) := hmem6.2.1.cell 3
              have z4 : W.cell? ⟨w.heap.size, 4, none⟩ = some (.int .i64 0) := hmem6.2.1.cell 4
              have y0 := hmem6.2.1.fz 0
              have y1 := hmem6.2.1.fz 1
              have y2 := hmem6.2.1.fz 2
              have y3 := hmem6.2.1.fz 3
              have y4 := hmem6.2.1.fz 4
              go_wp2
              generalize (World.setCell _ _ (Value.int .i64 h.total)) = wf at hf ⊢
              have x0 := hf.1.cell 0
              have x1 := hf.1.cell 1
              have x2 := hf.1.cell 2
              have x3 := hf.1.cell 3
              have x4 := hf.1.cell 4
              exact bodyPost_ret (v := headV h) (by simp [results, Try.results44, go_sem, x0, x1, x2, x3, x4, headV, headC]) rfl hf.2
            · have hmid1 : BlkInv l false h σ' (gk - 1) := by
                unfold BlkMid at hmid
                rw [if_neg h1] at hmid
                exact hmid
              have t1 : ((last : Int) == 1) = false := by simp; omega
              clear hmid h1
              go_wp2
              go_roundg (gk - 1)
              case measure => omega
              case rel => exact ⟨false, h, σ', rfl, hmem6, hmid1⟩
end Go.Proofs.Ytncmgnmcggkhnaa

namespace Go.Proofs.Ytncmgnmcggkhnaa
open Go.RowKit

theorem apart_spec (mode n : Nat) (subs : List (List Int)) (h : ∀ j, j < subs.length → (subs.getD j []).length = n) :
    (apart mode subs).length = subs.length ∧ ∀ j, j < subs.length → ((apart mode subs).getD j []).length = n := by
  match subs, h with
  | [], _ => exact ⟨rfl, fun j hj => by simp at hj⟩
  | [a], h => exact ⟨rfl, h⟩
  | [a, b], h =>
    have h0 : a.length = n := h 0 (by simp)
    have h1 : b.length = n := h 1 (by simp)
    refine ⟨rfl, fun j hj => ?_⟩
    rcases (show j = 0 ∨ j = 1 by simp at hj; omega) with rfl | rfl
    · show ((List.zipWith (pair mode) a b).map (·.1)).length = n
      rw [List.length_map, List.length_zipWith]; omega
    · show ((List.zipWith (pair mode) a b).map (·.2)).length = n
      rw [List.length_map, List.length_zipWith]; omega
  | a :: b :: c :: r, h => exact ⟨rfl, h⟩

theorem pHead_left {h : Head} {number : Nat} {bytes : List UInt8} {l r : List Bool} {x : Nat × Nat} (e : pHead h number bytes l = some (x, r)) : r.length + 64 = l.length ∧ 1 ≤ x.2 ∧ x.2 ≤ h.block := by
  unfold pHead at e
  obtain ⟨⟨a1, r1⟩, e1, e⟩ := Option.bind_eq_some_iff.mp e
  obtain ⟨⟨a2, r2⟩, e2, e⟩ := Option.bind_eq_some_iff.mp e
  obtain ⟨⟨a3, r3⟩, e3, e⟩ := Option.bind_eq_some_iff.mp e
  obtain ⟨⟨a4, r4⟩, e4, e⟩ := Option.bind_eq_some_iff.mp e
  obtain ⟨⟨a5, r5⟩, e5, e⟩ := Option.bind_eq_some_iff.mp e
  obtain ⟨⟨a6, r6⟩, e6, e⟩ := Option.bind_eq_some_iff.mp e
  obtain ⟨⟨a7, r7⟩, e7, e⟩ := Option.bind_eq_some_iff.mp e
  have := pmust_left e1
  have := pmust_left e2
  have := pnum_left e3
  have := pmust_left e4
  have := pmust_left e5
  have := pnum_left e6
  have := pmust_left e7
  simp only at e
  split at e
  · rename_i hc
    injection e with e
    injection e with e0 e
    subst e
    subst e0
    refine ⟨by omega, ?_, hc.1⟩
    show 1 ≤ a6 + 1
    omega
  · cases e

/-- what a frame is -/
theorem pFrame_spec {h : Head} {number : Nat} {bytes rest : List UInt8} {chs : List (List Int)} (e : pFrame h number bytes = some (chs, rest)) :
    chs.length = h.channels ∧ ∃ n k, 1 ≤ n ∧ n ≤ h.block ∧ (∀ j, j < h.channels → (chs.getD j []).length = n) ∧ 1 ≤ k ∧ k ≤ bytes.length ∧ rest = bytes.drop k := by
  unfold pFrame at e
  obtain ⟨⟨⟨mode, n⟩, r⟩, e1, e⟩ := Option.bind_eq_some_iff.mp e
  obtain ⟨⟨subs, r1⟩, e2, e⟩ := Option.bind_eq_some_iff.mp e
  obtain ⟨⟨u, r2⟩, e3, e⟩ := Option.bind_eq_some_iff.mp e
  obtain ⟨⟨u', r3⟩, e4, e⟩ := Option.bind_eq_some_iff.mp e
  have h1 := pHead_left e1
  have h2 := Shr.channels n h.bits mode h.channels 0 r subs r1 e2
  have h3 := pmust_left e3
  have h4 := pmust_left e4
  have hs := chan_spec n h.bits mode h.channels 0 r subs r1 e2
  have ha := apart_spec mode n subs (fun j hj => (hs.2 j (by rw [← hs.1]; exact hj)).1)
  rw [bitsOf_length] at h1
  simp only at e
  split at e
  · injection e with e
    injection e with e5 e6
    subst e5
    subst e6
    refine ⟨by rw [ha.1, hs.1], n, bytes.length - r3.length / 8, h1.2.1, h1.2.2, fun j hj => ha.2 j (by rw [hs.1]; exact hj), by omega, by omega, rfl⟩
  · cases e

/-- where the loop over the frames stands -/
def FInv (h : Head) (s : ByteArray) (res : Except Nat (List (List Int))) (gk number total : Nat) (ended : Bool) (acc : List (List Int)) (f : Nat) : Prop :=
  f ≤ s.size ∧ s.size - f < gk ∧ number + gk = s.size + 1 ∧ total ≤ 1200 ∧ acc.length = h.channels ∧ (∀ j, j < h.channels → (acc.getD j []).length = total) ∧
    res = frames h gk number total ended acc (s.data.toList.drop f)

section
variable {h : Head} {s : ByteArray} {res : Except Nat (List (List Int))} {gk number total : Nat} {ended : Bool} {acc : List (List Int)} {f : Nat}

theorem drop_nil_iff (s : ByteArray) (f : Nat) (hf : f ≤ s.size) : s.data.toList.drop f = [] ↔ f = s.size := by
  rw [List.drop_eq_nil_iff]
  simp
  show s.size ≤ f ↔ f = s.size
  omega

theorem FInv.stop (hi : FInv h s res gk number total ended acc f) (e : f = s.size) : res = .ok acc := by
  obtain ⟨hf, hgk, _, _, _, _, rfl⟩ := hi
  obtain ⟨g, rfl⟩ : ∃ g, gk = g + 1 := ⟨gk - 1, by omega⟩
  unfold frames
  rw [if_pos ((drop_nil_iff s f hf).2 e)]

theorem FInv.none (hi : FInv h s res gk number total ended acc f) (e : f < s.size) (hp : pFrame h number (s.data.toList.drop f) = Option.none) : res = .error number := by
  obtain ⟨hf, hgk, _, _, _, _, rfl⟩ := hi
  obtain ⟨g, rfl⟩ : ∃ g, gk = g + 1 := ⟨gk - 1, by omega⟩
  unfold frames
  rw [if_neg (fun e' => by have := (drop_nil_iff s f hf).1 e'; omega), hp]

theorem headD_getD {chs : List (List Int)} : chs.headD [] = chs.getD 0 [] := by
  cases chs <;> rfl

theorem FInv.over {chs : List (List Int)} {rest : List UInt8} (hi : FInv h s res gk number total ended acc f) (e : f < s.size) (hp : pFrame h number (s.data.toList.drop f) = some (chs, rest))
    (ho : ended = true ∨ 1200 < total + (chs.getD 0 []).length) : res = .error number := by
  obtain ⟨hf, hgk, _, _, _, _, rfl⟩ := hi
  obtain ⟨g, rfl⟩ : ∃ g, gk = g + 1 := ⟨gk - 1, by omega⟩
  unfold frames
  rw [if_neg (fun e' => by have := (drop_nil_iff s f hf).1 e'; omega), hp]
  show (if _ then _ else _) = _
  rw [headD_getD, if_pos ho]

theorem zip_append_get (acc chs : List (List Int)) (c : Nat) (h1 : acc.length = c) (h2 : chs.length = c) (j : Nat) (hj : j < c) :
    (List.zipWith (· ++ ·) acc chs).getD j [] = acc.getD j [] ++ chs.getD j [] := by
  have e1 : acc[j]? = some (acc[j]'(by omega)) := List.getElem?_eq_getElem (by omega)
  have e2 : chs[j]? = some (chs[j]'(by omega)) := List.getElem?_eq_getElem (by omega)
  simp [List.getD, List.getElem?_zipWith, e1, e2]

theorem FInv.next {chs : List (List Int)} {rest : List UInt8} (hc : 1 ≤ h.channels) (hi : FInv h s res gk number total ended acc f) (e : f < s.size) (hp : pFrame h number (s.data.toList.drop f) = some (chs, rest))
    (ho : ¬ (ended = true ∨ 1200 < total + (chs.getD 0 []).length)) :
    ∃ f', rest = s.data.toList.drop f' ∧ FInv h s res (gk - 1) (number + 1) (total + (chs.getD 0 []).length) (decide ((chs.getD 0 []).length < h.block)) (List.zipWith (· ++ ·) acc chs) f' := by
  obtain ⟨hf, hgk, hnum, htot, hal, hac, rfl⟩ := hi
  obtain ⟨hcl, n, k, hn1, hn2, hcn, hk1, hk2, hrest⟩ := pFrame_spec hp
  obtain ⟨g, rfl⟩ : ∃ g, gk = g + 1 := ⟨gk - 1, by omega⟩
  have hbl : (s.data.toList.drop f).length = s.size - f := by rw [List.length_drop]; simp
  have hr : rest = s.data.toList.drop (f + k) := by rw [hrest, List.drop_drop]
  refine ⟨f + k, hr, by omega, by omega, by omega, by omega, by rw [List.length_zipWith]; omega, ?_, ?_⟩
  · intro j hj
    rw [zip_append_get acc chs h.channels hal hcl j hj, List.length_append, hac j hj, hcn j hj, hcn 0 (by omega)]
  · conv => lhs; unfold frames
    rw [if_neg (fun e' => by have := (drop_nil_iff s f hf).1 e'; omega), hp]
    show (if _ then _ else _) = _
    rw [headD_getD, if_neg ho, hr]
    rfl
end
end Go.Proofs.Ytncmgnmcggkhnaa
