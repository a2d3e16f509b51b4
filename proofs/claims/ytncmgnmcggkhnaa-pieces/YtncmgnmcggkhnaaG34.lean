import Derived.Test.YtncmgnmcggkhnaaG33
import Derived.Test.YtncmgnmcggkhnaaG21
import Derived.Test.YtncmgnmcggkhnaaG27
import Derived.Deep.RegionLaw
import Derived.Deep.AppendLies
import Derived.Test.YtncmgnmcggkhnaaG22
import Derived.Carry
namespace Go.Proofs.Ytncmgnmcggkhnaa
open Go.RowKit

theorem infoStr : (Try.prog.info? 9).map (fun i => (i.zero, i.size, i.bytes)) = some (some (.string ⟨#[]⟩), 1, 16) := by kernel_rfl

def strV (l : List UInt8) : Value := .string ⟨l.toArray⟩

theorem strV_data (s : ByteArray) : strV s.data.toList = .string s := by
  unfold strV
  rfl

/-- a reader in memory: its head, the bytes of its frames, where it is, the block of what it keeps -/
def readerC (h : Head) (pv : Value) (pos gM : Nat) : Array Value :=
  #[.int .i64 h.block, .int .i64 h.rate, .int .i64 h.channels, .int .i64 h.bits, .int .i64 h.total, pv, .int .i64 pos, .map (some gM)]

/-- what Open's function has made of the frames ahead: a list of their bytes -/
def JOpen (gV gB gM base : Nat) (h : Head) (w : World) (l : List Fr) (S : Nat → Prop) : Prop :=
  Box w gV #[.pointer (some ⟨gB, 0, none⟩)] 46 ∧ gM < gB ∧ gB < gV ∧ gV < base ∧ base ≤ w.heap.size ∧ w.heap[gM]? = some (.map #[] 0) ∧
    ∃ pv, Box w gB (readerC h pv 0 gM) 108 ∧ w.ownsRow base 9 1 pv l.length (l.map fun p => strV p.1) ∧ ∀ b, S b ↔ (b = gB ∨ pv.ownBlock = some b)

set_option maxHeartbeats 4000000 in
set_option maxRecDepth 20000 in
theorem take_open (gV gB gM base : Nat) (h : Head) : TakeOk 55 #[.pointer (some ⟨gV, 0, none⟩)] h (JOpen gV gB gM base h) := by
  refine ⟨?_, ?_, ?_⟩
  · intro w l S hJ b hb
    obtain ⟨_, _, _, _, h5, _, pv, hB, hrow, hS⟩ := hJ
    rcases (hS b).1 hb with rfl | e
    · exact hB.lt
    · exact (World.ownsRow.lt hrow b e).2
  · intro w w' l S hJ hg
    obtain ⟨h1, h2, h3, h4, h5, h6, pv, hB, hrow, hS⟩ := hJ
    refine ⟨h1.kept hg (by simp), h2, h3, h4, Nat.le_trans h5 hg.size, ?_, pv, hB.kept hg (by simp), ownsRow_kp hrow (Kp.ofNone (S := fun _ => False) hg) (fun _ _ e => e), hS⟩
    have hlt : gM < w.heap.size := by
      rcases Nat.lt_or_ge gM w.heap.size with h1 | h1
      · exact h1
      · rw [Array.getElem?_eq_none h1] at h6; cases h6
    rw [hg.block gM hlt (by simp), h6]
  · intro W l S D part chs v n total hJ _ _ _ _ _ _ _ _ hll hps
    obtain ⟨h1, h2, h3, h4, h5, h6, pv, hB, hrow, hS⟩ := hJ
    obtain ⟨i0, hi, hz0, hz1, hz2⟩ := info_parts infoStr
    have HI : Hid _ := hi
    have HZ0 : Hid _ := hz0
    have HZ1 : Hid _ := hz1
    have HZ2 : Hid _ := hz2
    clear hi hz0 hz1 hz2
    have HCL := fun w => qsclone w part hps
    obtain ⟨ap, cp, rfl⟩ := row_slice hrow
    obtain ⟨m, hm⟩ : ∃ m, l.length = m := ⟨_, rfl⟩
    obtain ⟨vs, hvs⟩ : ∃ vs, l.map (fun p => strV p.1) = vs := ⟨_, rfl⟩
    rw [hm] at hll
    rw [hm, hvs] at hrow
    rw [hm] at hB hS
    have hlt := World.ownsRow.lt hrow
    have HOWN : Hid (∀ w4 o, W.grownBy w4 none → (w4.alloc o).ownsRow base 9 1 (.slice ap m cp) m vs) := by
      intro w4 o hg4
      exact World.ownsRow.alloc (ownsRow_kp hrow (Kp.ofNone (S := fun _ => False) hg4) (fun _ _ e => e)) o
    have HBASE : Hid (∀ (w4 : World) o, W.grownBy w4 none → base ≤ (w4.alloc o).heap.size) := by
      intro w4 o hg4
      exact Nat.le_trans (Nat.le_trans h5 hg4.size) (by simp)
    have cV : W.cell? ⟨gV, 0, none⟩ = some (.pointer (some ⟨gB, 0, none⟩)) := h1.cell 0
    have cB : W.cell? ⟨gB, 5, none⟩ = some (.slice ap m cp) := hB.cell 5
    have fB := hB.fz 5
    have HV : Hid (∀ (w5 : World) o (w4 : World), W.grownBy w4 none → (w4.alloc o).grownBy w5 (Value.slice ap m cp).ownBlock → Box w5 gV #[.pointer (some ⟨gB, 0, none⟩)] 46 ∧ Box w5 gB (readerC h (.slice ap m cp) 0 gM) 108) := by
      intro w5 o w4 hg4 hg5
      have hga : W.grownBy (w4.alloc o) none := grown_alloc hg4 _
      refine ⟨(h1.kept hga (by simp)).kept hg5 (fun e => ?_), (hB.kept hga (by simp)).kept hg5 (fun e => ?_)⟩
      · have := (hlt gV e.symm).1; omega
      · have := (hlt gB e.symm).1; omega
    have hgM : gM < W.heap.size := by omega
    have hfin : ∀ (w4 : World) o (g cap' : Nat) (w5 : World), W.grownBy w4 none → (w4.alloc o).grownBy w5 (Value.slice ap m cp).ownBlock → w5.ownsRow base 9 1 (.slice (some ⟨g, 0, none⟩) (m + 1) cap') (m + 1) (vs ++ [.string part]) →
        ((Value.slice ap m cp).ownBlock = some g ∨ g = (w4.alloc o).heap.size) → TakePost (JOpen gV gB gM base h) W l S (part.data.toList, chs) (.returned (.tuple #[])) (w5.setCell ⟨gB, 5, none⟩ (.slice (some ⟨g, 0, none⟩) (m + 1) cap')) := by
      intro w4 o g cap' w5 hg4 hg5 hrow5 hat
      have hga : W.grownBy (w4.alloc o) none := grown_alloc hg4 _
      have hk5 : Kp W w5 S := (Kp.ofNone (S := S) hga).trans (Kp.of hg5) (fun b hb => .inl ((hS b).2 (.inr hb.symm)))
      have hgs := grown_set w5 gB 5 (.slice (some ⟨g, 0, none⟩) (m + 1) cap')
      have hk6 : Kp W (w5.setCell ⟨gB, 5, none⟩ (.slice (some ⟨g, 0, none⟩) (m + 1) cap')) S := hk5.trans (Kp.of hgs) (fun b hb => .inl ((hS b).2 (.inl (by injection hb))))
      have hgb := (World.ownsRow.lt hrow5 g rfl).1
      obtain ⟨bV, bB⟩ := HV.out w5 o w4 hg4 hg5
      refine ⟨rfl, hk6, fun b => b = gB ∨ b = g, ⟨bV.kept hgs (by simp; omega), h2, h3, h4, Nat.le_trans h5 hk6.size, ?_, _, bB.set 5 (.slice (some ⟨g, 0, none⟩) (m + 1) cap'), ?_, fun b => ?_⟩, fun b hb => ?_⟩
      · rw [hk6.block gM hgM (fun e => ?_), h6]
        rcases (hS gM).1 e with e | e
        · omega
        · have := (hlt gM e).1; omega
      · have := ownsRow_kp hrow5 (Kp.of hgs) (fun q hq e => by have hq' : g = q := (by simpa [Value.ownBlock] using hq); injection e with e; omega)
        rw [List.length_append, List.length_singleton, hm, List.map_append, hvs, List.map_singleton, strV_data]
        exact this
      · show (b = gB ∨ b = g) ↔ (b = gB ∨ some g = some b)
        constructor
        · rintro (e | e)
          · exact .inl e
          · exact .inr (by rw [e])
        · rintro (e | e)
          · exact .inl e
          · injection e with e
            exact .inr e.symm
      · rcases hb with e | e
        · exact .inl ((hS b).2 (.inl e))
        · rcases hat with h9 | h9
          · exact .inl ((hS b).2 (.inr (by rw [e]; exact h9)))
          · refine .inr ?_
            have := hga.size
            omega
    have HFIN : Hid _ := hfin
    show Calls Try.prog 55 #[.string part, v, .pointer (some ⟨gV, 0, none⟩)] W _
    have HD : Hid (∀ d, W.grownBy (W.drewN d) none) := fun d => grown_drewN (grown_refl _ _) d
    clear hfin hrow hS hB h1 h6 hm hvs hlt hgM
    go_enter Try.func55, Try.ntmps55
    go_upto_region 0 with fail
    go_region_law ((first
      | (refine step_append_lies _ (by rfl) (.tmp 9) (.tmp 12) 50 (by rfl) base 9 i0 (.string ⟨#[]⟩) 1 16 Try.underlying50 HI.out HZ0.out HZ1.out HZ2.out rfl (by decide) (.slice ap m cp) m vs (by simp [Act.eval]) (HOWN.out w4 _ hg4) ⟨w4.heap.size, 0, none⟩ 1 1 [.string part] (by simp [Act.eval]) rfl (one_elem w4 _ _) (by intro u hu; rw [List.mem_singleton.1 hu]; rfl) (by omega) (by unfold maxLen; omega) (by omega) (HBASE.out w4 _ hg4) _ rfl ?_; intro g cap' w5 hrow' hgrow hat hglt; have cV5 : w5.cell? ⟨gV, 0, none⟩ = some (.pointer (some ⟨gB, 0, none⟩)) := (HV.out w5 _ w4 hg4 hgrow).1.cell 0; have cB5 : w5.cell? ⟨gB, 5, none⟩ = some (.slice ap m cp) := (HV.out w5 _ w4 hg4 hgrow).2.cell 5; have fB5 := (HV.out w5 _ w4 hg4 hgrow).2.fz 5; have HROW' : Hid _ := hrow'; have HGROW : Hid _ := hgrow; have HAT : Hid _ := hat; clear hrow' hgrow hat)
      | (go_simp; go_at_call 56; refine (HCL _).mono ?_; rintro e w4 ⟨rfl, hg4d⟩; have hg4 : W.grownBy w4 none := grown_trans (grown_drew (grown_refl W none)) hg4d; have cV4 := hg4.cell cV (by simp); have cB4 := hg4.cell cB (by simp); have cV4a := (grown_alloc hg4 (.cells #[.string part] 9)).cell cV (by simp); have cB4a := (grown_alloc hg4 (.cells #[.string part] 9)).cell cB (by simp))))
    all_goals
      exact bodyPost_end (v := .tuple #[]) (by simp [results, Try.results55, go_sem]) rfl (HFIN.out w4 _ g cap' w5 hg4 HGROW.out HROW'.out HAT.out)
end Go.Proofs.Ytncmgnmcggkhnaa

namespace Go.Proofs.Ytncmgnmcggkhnaa
open Go.RowKit

/-- a reader in memory, as Open leaves it: the bytes of the frames of a stream that is right -/
def RdrNew (w : World) (base gB : Nat) (rate bits : Nat) (chs : List (List Int)) : Prop :=
  ∃ (h : Head) (l : List Fr) (pv : Value) (gM : Nat) (D : List UInt8) (ended : Bool), h.rate = rate ∧ h.bits = bits ∧ joined h.channels l = chs ∧ Fls h D l D.length ended ∧ headOk h = true ∧ 1 ≤ h.channels ∧ (chs.headD []).length = h.total ∧ D.length ≤ 6000 ∧
    base ≤ gM ∧ gM < gB ∧ Box w gB (readerC h pv 0 gM) 108 ∧ w.heap[gM]? = some (.map #[] 0) ∧ ∃ b2, gB < b2 ∧ w.ownsRow b2 9 1 pv l.length (l.map fun p => strV p.1)

def OpenPost (w : World) (s : ByteArray) (e : Ending) (w' : World) : Prop :=
  w.grownBy w' none ∧ match decode s.data.toList with
    | .inl (er, p) => e = .returned (.tuple #[.pointer none, .int .i64 er, .int .i64 p])
    | .inr (r, b, chs) => ∃ gB, e = .returned (.tuple #[.pointer (some ⟨gB, 0, none⟩), .int .i64 0, .int .i64 0]) ∧ RdrNew w' w.heap.size gB r b chs

set_option maxHeartbeats 4000000 in
set_option maxRecDepth 20000 in
theorem qopen (w : World) (s : ByteArray) (hsz : s.size ≤ maxLen) :
    Calls Try.prog 27 #[.string s] w (OpenPost w s) := by
  have HPH := fun w => qphead w s hsz
  clear hsz
  go_enter Try.func27, Try.ntmps27
  go_wp2_with fail
  refine (HPH w).mono ?_
  rintro e w1 ⟨hg1, hv, d, er, rfl, hcase⟩
  clear HPH
  have hvf : ∃ b1 b2 b3 b4 b5 : Int, hv = .agg #[.int .i64 b1, .int .i64 b2, .int .i64 b3, .int .i64 b4, .int .i64 b5] := by
    rcases hcase with ⟨_, rfl, _⟩ | ⟨_, rfl, _⟩ | ⟨_, _, h, _, _, rfl, _⟩
    · exact ⟨_, _, _, _, _, rfl⟩
    · exact ⟨_, _, _, _, _, rfl⟩
    · exact ⟨_, _, _, _, _, rfl⟩
  obtain ⟨b1, b2, b3, b4, b5, rfl⟩ := hvf
  obtain ⟨w2, hw2⟩ : ∃ w2, w1.alloc (.cells #[Value.int .i64 b1, .int .i64 b2, .int .i64 b3, .int .i64 b4, .int .i64 b5] 77) = w2 := ⟨_, rfl⟩
  have hg2 : w1.grownBy w2 none := by rw [← hw2]; exact grown_alloc (grown_refl _ _) _
  have hgg2 := grown_trans hg1 hg2
  obtain ⟨gH, hgH⟩ : ∃ gH, w1.heap.size = gH := ⟨_, rfl⟩
  have hbh2 : Box w2 gH #[Value.int .i64 b1, .int .i64 b2, .int .i64 b3, .int .i64 b4, .int .i64 b5] 77 := by rw [← hgH, ← hw2]; exact Box.new _ _ _
  have hs2 : w2.heap.size = gH + 1 := by rw [← hw2, ← hgH]; simp
  have HW2 : Hid (w1.alloc (.cells #[Value.int .i64 b1, .int .i64 b2, .int .i64 b3, .int .i64 b4, .int .i64 b5] 77) = w2) := hw2
  have HGH : Hid (w1.heap.size = gH) := hgH
  have HS2 : Hid (w2.heap.size = gH + 1) := hs2
  have hwH : w.heap.size ≤ gH := by rw [← hgH]; exact hg1.size
  clear hg1 hw2 hgH hg2 hs2
  go_upto_region 2 with fail
  rw [HW2.out, HGH.out]
  clear HW2 HGH
  by_cases her : er ≠ 0
  · have hd : decode s.data.toList = .err er 0 := by
      rcases hcase with ⟨rfl, _, hlong⟩ | ⟨rfl, _, hs, hnone⟩ | ⟨h1, _⟩
      · exact decode_long s hlong
      · exact decode_meta s hs hnone
      · exact absurd h1 her
    have hpost : OpenPost w s (.returned (.tuple #[.pointer none, .int .i64 er, .int .i64 0])) w2 := ⟨hgg2, by rw [hd]; rfl⟩
    have te : ((er : Int) != 0) = true := by simp; omega
    clear hd hcase her
    go_wp2
    exact bodyPost_ret (v := .tuple #[.pointer none, .int .i64 er, .int .i64 0]) (by simp [results, Try.results27, go_sem]) rfl hpost
  have her0 : er = 0 := by omega
  subst her0
  obtain ⟨hs, h, at', hat, hhv, rfl, hpb⟩ : s.size ≤ 6000 ∧ ∃ (h : Head) (at' : Nat), at' ≤ s.size ∧ Value.agg #[.int .i64 b1, .int .i64 b2, .int .i64 b3, .int .i64 b4, .int .i64 b5] = .agg (headC h) ∧ d = s.extract at' s.size ∧ pBlocks (bitsOf s.data.toList) = some (h, bitsOf (s.data.toList.drop at')) := by
    rcases hcase with ⟨h1, _⟩ | ⟨h1, _⟩ | ⟨_, h2, h3⟩
    · omega
    · omega
    · exact ⟨h2, h3⟩
  clear hcase her
  have hb5 : b1 = h.block ∧ b2 = h.rate ∧ b3 = h.channels ∧ b4 = h.bits ∧ b5 = h.total := by
    unfold headC at hhv
    injection hhv with e
    injection e with e
    injection e with e1 e
    injection e with e2 e
    injection e with e3 e
    injection e with e4 e
    injection e with e5 e
    injection e1 with _ e1
    injection e2 with _ e2
    injection e3 with _ e3
    injection e4 with _ e4
    injection e5 with _ e5
    exact ⟨e1, e2, e3, e4, e5⟩
  obtain ⟨rfl, rfl, rfl, rfl, rfl⟩ := hb5
  clear hhv
  have hspec := pBlocks_spec hpb (by rw [total_bits]; omega)
  have hc1 := hspec.2.2.2
  have hhok := hspec.2.2.1
  have hb1 : 16 ≤ h.block ∧ h.block ≤ 256 ∧ 4 ≤ h.bits ∧ h.bits ≤ 16 ∧ h.rate ≤ 655350 ∧ h.total ≤ 1200 ∧ h.channels ≤ 2 := by unfold headOk at hhok; simp at hhok; omega
  have HHOK : Hid (headOk h = true) := hhok
  have hdf := decode_frames s hs hpb
  have hrl : s.size - (bitsOf (s.data.toList.drop at')).length / 8 = at' := by rw [bitsOf_length, List.length_drop, dlen]; omega
  rw [hrl] at hdf
  have hex : (s.extract at' s.size).data.toList = s.data.toList.drop at' := by rw [extract_list, List.take_of_length_le (by rw [List.length_drop, dlen]; omega)]
  have hexs : (s.extract at' s.size).size = s.size - at' := by rw [← dlen, hex, List.length_drop, dlen]
  rw [frames_fuel h (s.size + 1) ((s.extract at' s.size).size + 1) 0 0 false _ _ (by rw [List.length_drop, dlen]; omega) (by rw [List.length_drop, dlen]; omega), ← hex] at hdf
  obtain ⟨d, hd⟩ : ∃ d, s.extract at' s.size = d := ⟨_, rfl⟩
  rw [hd] at hdf hexs ⊢
  obtain ⟨res, hres⟩ : ∃ res, frames h (d.size + 1) 0 0 false (List.replicate h.channels []) d.data.toList = res := ⟨_, rfl⟩
  have HRES : Hid (frames h (d.size + 1) 0 0 false (List.replicate h.channels []) d.data.toList = res) := hres
  rw [hres] at hdf
  have HDF : Hid (decode s.data.toList = ansOf h res) := hdf
  have hdsz : d.size ≤ 6000 := by omega
  clear hdf hres hex hexs hrl hhok hspec hpb hd hat
  have e0 : w2.cell? ⟨gH, 0, none⟩ = some (.int .i64 h.block) := hbh2.cell 0
  have e1 : w2.cell? ⟨gH, 1, none⟩ = some (.int .i64 h.rate) := hbh2.cell 1
  have e2 : w2.cell? ⟨gH, 2, none⟩ = some (.int .i64 h.channels) := hbh2.cell 2
  have e3 : w2.cell? ⟨gH, 3, none⟩ = some (.int .i64 h.bits) := hbh2.cell 3
  have e4 : w2.cell? ⟨gH, 4, none⟩ = some (.int .i64 h.total) := hbh2.cell 4
  have hmm := @run_makeMap Try.prog
  go_upto_region 5 with fail
  obtain ⟨gM, hgM⟩ : ∃ gM, w2.heap.size = gM := ⟨_, rfl⟩
  rw [hgM]
  obtain ⟨w5, hw5⟩ : ∃ w5, (((w2.alloc (.map #[] 0)).alloc (.cells #[.int .i64 h.block, .int .i64 h.rate, .int .i64 h.channels, .int .i64 h.bits, .int .i64 h.total, .slice none 0 0, .int .i64 0, .map (some gM)] 108)).alloc (.cells #[.pointer (some ⟨gM + 1, 0, none⟩)] 46)) = w5 := ⟨_, rfl⟩
  rw [hw5]
  have hg5 : w2.grownBy w5 none := by rw [← hw5]; exact grown_alloc (grown_alloc (grown_alloc (grown_refl _ _) _) _) _
  have hs5 : w5.heap.size = gM + 3 := by rw [← hw5, ← hgM]; simp
  have hm5 : w5.heap[gM]? = some (.map #[] 0) := by
    rw [← hw5, ← hgM]
    rw [Below.heap_alloc _ _ _ (by simp; omega), Below.heap_alloc _ _ _ (by simp)]
    show (w2.heap.push _)[w2.heap.size]? = _
    simp
  have hbB5 : Box w5 (gM + 1) (readerC h (.slice none 0 0) 0 gM) 108 := by
    have e : (w2.alloc (.map #[] 0)).heap.size = gM + 1 := by rw [← hgM]; simp
    rw [← hw5, ← e]
    exact (Box.new _ _ _).kept (grown_alloc (grown_refl _ none) _) (by simp)
  have hbV5 : Box w5 (gM + 2) #[.pointer (some ⟨gM + 1, 0, none⟩)] 46 := by
    have e : ((w2.alloc (.map #[] 0)).alloc (.cells #[.int .i64 h.block, .int .i64 h.rate, .int .i64 h.channels, .int .i64 h.bits, .int .i64 h.total, .slice none 0 0, .int .i64 0, .map (some gM)] 108)).heap.size = gM + 2 := by rw [← hgM]; simp
    rw [← hw5, ← e]
    exact Box.new _ _ _
  have hgg5 := grown_trans hgg2 hg5
  have hbh5 := hbh2.kept hg5 (by simp)
  have hwM : w.heap.size ≤ gM := by rw [← hgM]; exact hgg2.size
  have hJ0 : JOpen (gM + 2) (gM + 1) gM (gM + 3) h w5 [] (fun b => b = gM + 1 ∨ (Value.slice none 0 0).ownBlock = some b) :=
    ⟨hbV5, by omega, by omega, by omega, by omega, hm5, _, hbB5, World.ownsRow_nil _ _ _ _, fun b => Iff.rfl⟩
  have HEA := qeachframe w5 d h res 55 #[.pointer (some ⟨gM + 2, 0, none⟩)] _ _ (enters_of Try.func55 (by kernel_rfl) rfl) (take_open (gM + 2) (gM + 1) gM (gM + 3) h) hJ0 hdsz hc1 (by omega) (by omega) (by omega) (by omega) HRES.out
  clear e0 e1 e2 e3 e4 hw5 hgM hg5 hs5 hm5 hbB5 hmm
  have e0 : w5.cell? ⟨gH, 0, none⟩ = some (.int .i64 h.block) := hbh5.cell 0
  have e1 : w5.cell? ⟨gH, 1, none⟩ = some (.int .i64 h.rate) := hbh5.cell 1
  have e2 : w5.cell? ⟨gH, 2, none⟩ = some (.int .i64 h.channels) := hbh5.cell 2
  have e3 : w5.cell? ⟨gH, 3, none⟩ = some (.int .i64 h.bits) := hbh5.cell 3
  have e4 : w5.cell? ⟨gH, 4, none⟩ = some (.int .i64 h.total) := hbh5.cell 4
  unfold headC at HEA
  go_wp2_with fail
  refine HEA.mono ?_
  intro e w6 hpost
  obtain ⟨er, k, rfl⟩ := each_shape hpost
  clear HEA e0 e1 e2 e3 e4 hbh5 hbh2
  have hk6 : Kp w5 w6 (fun b => b = gM + 1 ∨ (Value.slice none 0 0).ownBlock = some b) := by obtain ⟨_, _, _, hk, _⟩ := hpost; exact hk
  have hgg6 : w.grownBy w6 none := by
    refine ⟨hk6.os.trans hgg5.os, hk6.tape.trans hgg5.tape, hk6.output.trans hgg5.output, Nat.le_trans hgg5.size hk6.size, fun b hb hn => ?_⟩
    rw [hk6.block b (Nat.lt_of_lt_of_le hb hgg5.size) (fun e => by rcases e with e | e; omega; cases e), hgg5.block b hb hn]
  by_cases her : er ≠ 0
  · have hd : decode s.data.toList = .err er k := by rw [HDF.out]; exact each_err hpost her
    have hpo : OpenPost w s (.returned (.tuple #[.pointer none, .int .i64 er, .int .i64 k])) w6 := ⟨hgg6, by rw [hd]⟩
    have te : ((er : Int) != 0) = true := by simp; omega
    clear hd her hpost hJ0 hk6
    go_wp2
    exact bodyPost_ret (v := .tuple #[.pointer none, .int .i64 er, .int .i64 k]) (by simp [results, Try.results27, go_sem]) rfl hpo
  have her0 : er = 0 := by omega
  subst her0
  obtain ⟨rfl, l, S', hJ, _, hS', hres, hans, ended, hfls⟩ := each_ok hpost
  have hd : decode s.data.toList = .sound h.rate h.bits (joined h.channels l) := by rw [HDF.out]; exact hans
  obtain ⟨bV6, j1, j2, j3, j4, j5, pv, bB6, hrow6, _⟩ := hJ
  have htot : ((joined h.channels l).headD []).length = h.total := by
    rw [hres] at hans
    unfold ansOf at hans
    by_cases hc : ((joined h.channels l).headD []).length = h.total
    · exact hc
    · simp only at hans
      rw [if_neg hc] at hans
      cases hans
  have hpo : OpenPost w s (.returned (.tuple #[.pointer (some ⟨gM + 1, 0, none⟩), .int .i64 0, .int .i64 0])) w6 := by
    refine ⟨hgg6, ?_⟩
    rw [hd]
    exact ⟨gM + 1, rfl, h, l, pv, gM, d.data.toList, ended, rfl, rfl, rfl, hfls, HHOK.out, hc1, htot, by rw [dlen]; exact hdsz, hwM, j1, bB6, j5, gM + 3, by omega, hrow6⟩
  have eV : w6.cell? ⟨gM + 2, 0, none⟩ = some (.pointer (some ⟨gM + 1, 0, none⟩)) := bV6.cell 0
  clear hd her hpost hJ0 hk6 hres hans hS' hfls bV6 bB6 hrow6 j5 htot
  go_wp2
  exact bodyPost_ret (v := .tuple #[.pointer (some ⟨gM + 1, 0, none⟩), .int .i64 0, .int .i64 0]) (by simp [results, Try.results27, go_sem]) rfl hpo
end Go.Proofs.Ytncmgnmcggkhnaa
