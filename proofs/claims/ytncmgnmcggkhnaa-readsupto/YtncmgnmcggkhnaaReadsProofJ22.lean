import Derived.Test.YtncmgnmcggkhnaaReadsProofJ21
import Derived.Deep.DeepCutAuto
import Derived.Deep.CutBlock
import Derived.Deep.LoopGhost
import Derived.Shelf.Abstract
import Derived.Test.YtncmgnmcggkhnaaReadsProofJ20
import Derived.Deep.RegionLaw
import Derived.Deep.AppendLies
import Derived.Test.YtncmgnmcggkhnaaReadsProofJ17
import Derived.Test.YtncmgnmcggkhnaaReadsProofJ15
import Derived.Test.YtncmgnmcggkhnaaReadsProofJ13
import Derived.BigQuiet
namespace Go.Proofs.Ytncmgnmcggkhnaa
open Go.RowKit

set_option maxHeartbeats 8000000 in
set_option maxRecDepth 20000 in
theorem qeachframe (w : World) (d : ByteArray) (h : Head) (res : Except Nat (List (List Int))) (g : Nat) (lb : Array Value) (J : World → List Fr → (Nat → Prop) → Prop) (S0 : Nat → Prop)
    (eg : ∀ args w, (callFunc g args).run Try.prog w = .ok (.enter g args) w) (hT : TakeOk g lb h J) (hJ : J w [] S0)
    (hd : d.size ≤ 6000) (hc1 : 1 ≤ h.channels) (hc2 : h.channels ≤ 2) (hb1 : 4 ≤ h.bits) (hb2 : h.bits ≤ 16) (hblk : h.block ≤ 256)
    (hres : frames h (d.size + 1) 0 0 false (List.replicate h.channels []) d.data.toList = res) :
    Calls Try.prog 41 #[.string d, .agg (headC h), .func (.func g) #[] lb] w (EachPost J w S0 h d.data.toList res) := by
  have hd0 : d.data.toList.drop 0 = d.data.toList := rfl
  have hfinv : FInv h d res (d.size + 1) 0 0 false (List.replicate h.channels []) 0 :=
      ⟨by omega, by omega, by omega, by omega, by simp, fun j hj => by simp [List.getD, hj], by rw [hd0]; exact hres.symm⟩
  have hS0 := hT.lt w [] S0 hJ
  clear hres
  unfold headC
  go_enter Try.func41, Try.ntmps41
  go_upto_region 1 with fail
  obtain ⟨w0, hw0⟩ : ∃ w0, w.alloc (.cells #[Value.int .i64 h.block, .int .i64 h.rate, .int .i64 h.channels, .int .i64 h.bits, .int .i64 h.total] 77) = w0 := ⟨_, rfl⟩
  have hg0 : w.grownBy w0 none := by rw [← hw0]; exact grown_alloc (grown_refl _ _) _
  have hbI0 : Box w0 w.heap.size (headC h) 77 := by rw [← hw0]; exact Box.new _ _ _
  rw [hw0]
  clear hw0
  have hinv : EaInv J w w0 S0 h d d res (d.size + 1) 0 0 0 0 false [] S0 :=
    ⟨Kp.ofNone hg0, hbI0, hT.grow w w0 [] S0 hJ hg0, fun b hb => .inl hb, hfinv, Fls.start _ _, rfl, rfl, by omega, by simp⟩
  clear hg0 hbI0 hfinv hd0 hJ
  go_wp2_with fail
  go_loopg [0, 8, 9] (d.size + 1) (fun gk t0 t8 t9 wr => ∃ (dk : ByteArray) (number total nb f : Nat) (ended : Bool) (l : List Fr) (S : Nat → Prop), t0 = .string dk ∧ t8 = .int .i64 number ∧ t9 = .int .i64 total ∧
      EaInv J w wr S0 h d dk res gk number total nb f ended l S)
  case atStart => exact ⟨d, 0, 0, 0, 0, false, _, _, rfl, rfl, rfl, hinv⟩
  case round =>
    clear hinv
    obtain ⟨dk, number, total, nb, f, ended, l, S, rfl, rfl, rfl, hinv⟩ := hrel
    have hfinv := hinv.at_
    have hfl := hfinv.1
    have hnum : number ≤ 6001 := by have := hfinv.2.2.1; omega
    have htot := hfinv.2.2.2.1
    have hdk : dk.size = d.size - f := by rw [← dlen, hinv.data, List.length_drop, dlen]
    have hsub0 : ∀ b, S b → S0 b ∨ w.heap.size ≤ b := fun b hb => by rcases hinv.sub b hb with h1 | h1; exact .inl h1; exact .inr (by omega)
    by_cases hf : f < d.size
    rotate_left
    · have hok := hfinv.stop (by omega)
      have hds : dk.size = 0 := by omega
      have tds : decide (0 < dk.size) = false := decide_eq_false (by omega)
      have c4 : wr.cell? ⟨w.heap.size, 4, none⟩ = some (.int .i64 h.total) := hinv.inf.cell 4
      have hj0 : ((joined h.channels l).headD []).length = total := by rw [headD_getD]; exact hfinv.2.2.2.2.2.1 0 (by omega)
      have hfls : Fls h d.data.toList l d.data.toList.length ended := by
        have h1 := hinv.fls
        rwa [show f = d.data.toList.length by rw [dlen]; omega] at h1
      have hpost : EachPost J w S0 h d.data.toList res (.returned (.tuple #[.int .i64 ((if total = h.total then 0 else 5 : Nat) : Int), .int .i64 0])) wr :=
        ⟨l, S, hinv.j, hinv.kp, hsub0, by rw [hok]; exact ⟨rfl, ⟨ended, hfls⟩, by rw [hj0]⟩⟩
      by_cases htt : total = h.total
      · rw [if_pos htt] at hpost
        have tt : ((total : Int) != (h.total : Int)) = false := by simp; omega
        clear hinv hfinv hok hdk hfls hj0 htt hds
        go_wp2
        exact bodyPost_ret (v := .tuple #[.int .i64 0, .int .i64 0]) (by simp [results, Try.results41, go_sem]) rfl hpost
      · rw [if_neg htt] at hpost
        have tt : ((total : Int) != (h.total : Int)) = true := by simp; omega
        clear hinv hfinv hok hdk hfls hj0 htt hds
        go_wp2
        exact bodyPost_ret (v := .tuple #[.int .i64 5, .int .i64 0]) (by simp [results, Try.results41, go_sem]) rfl hpost
    have hstop := hinv.stop
    have hnb : nb ≤ 2000000 := by rw [← hinv.prod]; exact Nat.le_trans (Nat.mul_le_mul hnum hblk) (by omega)
    have hmul : (number : Int) * (h.block : Int) = (nb : Int) := by rw [← hinv.prod]; simp
    have hpos : 0 < dk.size := by omega
    have tpos : decide (0 < dk.size) = true := decide_eq_true hpos
    have c0 : wr.cell? ⟨w.heap.size, 0, none⟩ = some (.int .i64 h.block) := hinv.inf.cell 0
    have c1 : wr.cell? ⟨w.heap.size, 1, none⟩ = some (.int .i64 h.rate) := hinv.inf.cell 1
    have c2 : wr.cell? ⟨w.heap.size, 2, none⟩ = some (.int .i64 h.channels) := hinv.inf.cell 2
    have c3 : wr.cell? ⟨w.heap.size, 3, none⟩ = some (.int .i64 h.bits) := hinv.inf.cell 3
    have c4 : wr.cell? ⟨w.heap.size, 4, none⟩ = some (.int .i64 h.total) := hinv.inf.cell 4
    have hdk2 : dk.size ≤ 6000 := by omega
    cases ended
    rotate_left
    · have hst : total < nb := by simpa using hstop
      have hne : ((total : Int) != (nb : Int)) = true := by simp; omega
      have herr : res = .error number := by
        cases hp : pFrame h number (d.data.toList.drop f) with
        | none => exact hfinv.none hf hp
        | some x => obtain ⟨chs, rest⟩ := x; exact hfinv.over hf hp (.inl rfl)
      have hpost : EachPost J w S0 h d.data.toList res (.returned (.tuple #[.int .i64 4, .int .i64 number])) wr := ⟨l, S, hinv.j, hinv.kp, hsub0, by rw [herr]⟩
      clear hinv hfinv herr hstop hdk
      go_wp2
      exact bodyPost_ret (v := .tuple #[.int .i64 4, .int .i64 number]) (by simp [results, Try.results41, go_sem]) rfl hpost
    have hst : total = nb := by simpa using hstop
    have hne : ((total : Int) != (nb : Int)) = false := by simp; omega
    have HST : Hid (total = nb) := hst
    have HDK : Hid (dk.size = d.size - f) := hdk
    have HRD := qreadframe wr dk h number hdk2 hc1 hc2 hb1 hb2 hblk
    unfold headC at HRD
    clear hst hdk hstop
    go_wp2_with fail
    refine HRD.mono ?_
    rintro e w3 ⟨hg3, size, cnt, v, ok, rfl, hcase⟩
    clear HRD c0 c1 c2 c3 c4 hne hmul
    rw [hinv.data] at hcase
    have hkk3 : Kp w w3 S0 := hinv.kp.trans (Kp.ofNone (S := fun _ => False) hg3) (fun b e => e.elim)
    have hJ3 := hT.grow wr w3 l S hinv.j hg3
    rcases hcase with ⟨rfl, chs, cvs, hp, hsz, hsubs, hcn⟩ | ⟨rfl, rfl, rfl, hp⟩
    rotate_left
    · have herr := hfinv.none hf hp
      have hga : w3.grownBy (w3.alloc (.cells #[.int .i64 size, .int .i64 0, .slice none 0 0] 115)) none := grown_alloc (grown_refl _ _) _
      have hpost : EachPost J w S0 h d.data.toList res (.returned (.tuple #[.int .i64 4, .int .i64 number])) (w3.alloc (.cells #[.int .i64 size, .int .i64 0, .slice none 0 0] 115)) :=
        ⟨l, S, hT.grow _ _ l S hJ3 hga, hkk3.trans (Kp.ofNone (S := fun _ => False) hga) (fun b e => e.elim), hsub0, by rw [herr]⟩
      clear hinv hfinv herr hp
      go_wp2
      exact bodyPost_ret (v := .tuple #[.int .i64 4, .int .i64 number]) (by simp [results, Try.results41, go_sem]) rfl hpost
    have hsp := pFrame_spec hp
    have hcl := hsp.1
    have hn2 : 1 ≤ cnt ∧ cnt ≤ h.block := by
      obtain ⟨_, n', k', h1, h2, h3, _⟩ := hsp
      have : n' = cnt := by rw [← hcn 0 (by omega), h3 0 (by omega)]
      omega
    have hc0 : (chs.getD 0 []).length = cnt := hcn 0 (by omega)
    have hview3 := hsubs.views (by omega) (fun j hj => by rw [hcn j (by omega)]; exact hn2.1)
    have hview3' := hview3
    obtain ⟨lg, lcap, rfl, hlcap, hlg, hlgt, _⟩ := hview3'
    have hover := fun ho => hfinv.over hf hp ho
    have hnext := fun ho => hfinv.next hc1 hf hp ho
    rw [hc0] at hover hnext
    have HCL : Hid (chs.length = h.channels) := hcl
    have HP : Hid (pFrame h number (d.data.toList.drop f) = some (chs, (d.data.toList.drop f).drop size)) := hp
    clear hsp hp hc0 hsubs hcl
    obtain ⟨w4, hw4⟩ : ∃ w4, w3.alloc (.cells #[.int .i64 size, .int .i64 cnt, .slice (some ⟨lg, 0, none⟩) chs.length lcap] 115) = w4 := ⟨_, rfl⟩
    obtain ⟨gF, hgF⟩ : ∃ gF, w3.heap.size = gF := ⟨_, rfl⟩
    have hg4 : w3.grownBy w4 none := by rw [← hw4]; exact grown_alloc (grown_refl _ _) _
    have hbF4 : Box w4 gF #[.int .i64 size, .int .i64 cnt, .slice (some ⟨lg, 0, none⟩) chs.length lcap] 115 := by rw [← hgF, ← hw4]; exact Box.new _ _ _
    have hkk4 : Kp w w4 S0 := hkk3.trans (Kp.ofNone (S := fun _ => False) hg4) (fun b e => e.elim)
    have hgr4 := grown_trans hg3 hg4
    have hJ4 := hT.grow _ _ l S hJ3 hg4
    have hview4 := hview3.kp (Kp.ofNone (S := fun _ => False) hg4) (fun q _ e => e)
    have hF3 : wr.heap.size ≤ gF := by rw [← hgF]; exact hg3.size
    have hinf4 := hinv.inf.kept hgr4 (by simp)
    have HW4 : Hid (w3.alloc (.cells #[.int .i64 size, .int .i64 cnt, .slice (some ⟨lg, 0, none⟩) chs.length lcap] 115) = w4) := hw4
    have HGF : Hid (w3.heap.size = gF) := hgF
    rw [hgF] at hview4
    have hF4 : gF < w4.heap.size := hbF4.lt
    clear hw4 hgF hg3 hg4 hkk3 hJ3 hview3
    go_upto_region 6 with fail
    rw [HW4.out, HGF.out]
    clear HW4 HGF
    have f0 : w4.cell? ⟨gF, 0, none⟩ = some (.int .i64 size) := hbF4.cell 0
    have f1 : w4.cell? ⟨gF, 1, none⟩ = some (.int .i64 cnt) := hbF4.cell 1
    have f2 : w4.cell? ⟨gF, 2, none⟩ = some (.slice (some ⟨lg, 0, none⟩) chs.length lcap) := hbF4.cell 2
    by_cases hov : 1200 < total + cnt
    · have herr := hover (.inr hov)
      have hpost : EachPost J w S0 h d.data.toList res (.returned (.tuple #[.int .i64 4, .int .i64 number])) w4 := ⟨l, S, hJ4, hkk4, hsub0, by rw [herr]⟩
      have tt : decide ((1200 : Int) < (total : Int) + (cnt : Int)) = true := decide_eq_true (by omega)
      clear hinv hfinv herr hover hnext hview4
      go_wp2
      exact bodyPost_ret (v := .tuple #[.int .i64 4, .int .i64 number]) (by simp [results, Try.results41, go_sem]) rfl hpost
    obtain ⟨f', hrest, hfinv'⟩ := hnext (by simp; omega)
    have tt : decide ((1200 : Int) < (total : Int) + (cnt : Int)) = false := decide_eq_false (by omega)
    obtain ⟨part, hpart⟩ : ∃ part, dk.extract 0 size = part := ⟨_, rfl⟩
    have hpl : part.data.toList = (d.data.toList.drop f).take size := by
      rw [← hpart, extract_list, ← hinv.data]
      simp
    have hpsz : part.size ≤ 6000 := by rw [← dlen, hpl, List.length_take, List.length_drop, dlen]; omega
    have hDn : ∀ q, (wr.heap.size ≤ q ∧ q < gF) → ¬ S q ∧ q < w4.heap.size := fun q hq => ⟨fun e => by have := hT.lt wr l S hinv.j q e; omega, by omega⟩
    have hle : l.length ≤ 6000 := by rw [hinv.num]; have := hfinv.2.2.1; have := hfinv.2.1; omega
    have HCALL : Calls Try.prog g (#[.string part, .slice (some ⟨lg, 0, none⟩) chs.length lcap] ++ lb) w4.drew (TakePost J w4.drew l S (part.data.toList, chs)) :=
      hT.call w4.drew l S _ part chs _ cnt total (hT.grow _ _ l S hJ4 (grown_drew (grown_refl _ _))) hview4 hDn HCL.out hcn hn2.1 hfinv.2.2.2.2.2.1 hfinv.2.2.2.2.1 (by omega) hle hpsz
    have hff : f' = f + size := by
      have h1 := congrArg List.length hrest
      rw [List.length_drop, List.length_drop, List.length_drop, dlen] at h1
      have := hfinv'.1
      have := HDK.out
      omega
    have hfls' := hinv.fls.next hpl (by rw [hinv.num]; exact HP.out) hcn hn2.2
    rw [← hff] at hfls'
    have HFLS : Hid _ := hfls'
    have HDATA : Hid (dk.data.toList = d.data.toList.drop f) := hinv.data
    have HPROD : Hid (number * h.block = nb) := hinv.prod
    have HNUM : Hid (l.length = number) := hinv.num
    have HREST : Hid ((d.data.toList.drop f).drop size = d.data.toList.drop f') := hrest
    have HPART : Hid (dk.extract 0 size = part) := hpart
    have HSUB : Hid (∀ b, S b → S0 b ∨ w.heap.size < b) := hinv.sub
    have hslt : ∀ b, S b → b < gF := fun b hb => by have := hT.lt wr l S hinv.j b hb; omega
    have hw4 : w.heap.size < gF := by have := hinv.inf.lt; omega
    have HP4 : dk.extract 0 size = part := hpart
    clear hov hover hnext hrest hpl hpsz hDn hle hview4 hJ4 hfls' hff hpart HP hinv hfinv
    go_upto_region 8 with fail
    go_cut [] (fun wx => TakePost J w4 l S (part.data.toList, chs) (.returned (.tuple #[])) wx)
    case first =>
      go_region_with (first
        | (go_at_fn g; refine HCALL.mono ?_; rintro e w5 ⟨rfl, hk5, S5, hJ5, hs5⟩))
      all_goals
        go_wp2
        go_meet
        case rel => exact ⟨rfl, ⟨hk5.os, hk5.tape, hk5.output, hk5.size, hk5.block⟩, S5, hJ5, hs5⟩
    case rest =>
      obtain ⟨_, hk5, S5, hJ5, hs5⟩ := hcut
      have hfr5 := hbF4.kp hk5 (fun e => by have := hslt gF e; omega)
      have hin5 := hinf4.kp hk5 (fun e => by
        rcases HSUB.out _ e with h1 | h1
        · have := hS0 _ h1; omega
        · omega)
      have f0 : wc.cell? ⟨gF, 0, none⟩ = some (.int .i64 size) := hfr5.cell 0
      have f1 : wc.cell? ⟨gF, 1, none⟩ = some (.int .i64 cnt) := hfr5.cell 1
      have hkk5 : Kp w wc S0 := hkk4.trans hk5 (fun b hb => by
        rcases HSUB.out b hb with h1 | h1
        · exact .inl h1
        · exact .inr (by omega))
      have hsub5 : ∀ b, S5 b → S0 b ∨ w.heap.size < b := fun b hb => by
        rcases hs5 b hb with h1 | h1
        · exact HSUB.out b h1
        · exact .inr (by have := hF4; omega)
      have hex : (dk.extract size dk.size).data.toList = d.data.toList.drop f' := by
        rw [extract_list, HDATA.out, HREST.out, List.take_of_length_le]
        rw [← HREST.out, ← HDATA.out, List.length_drop, dlen]
        omega
      have hinv' : EaInv J w wc S0 h d (dk.extract size dk.size) res (gk - 1) (number + 1) (total + cnt) (nb + h.block) f' (decide (cnt < h.block)) (l ++ [(part.data.toList, chs)]) S5 := by
        refine ⟨hkk5, hin5, hJ5, hsub5, by rw [joined_snoc]; exact hfinv', HFLS.out, by rw [List.length_append, HNUM.out]; rfl, hex, by rw [Nat.succ_mul, HPROD.out], ?_⟩
        have := HST.out
        by_cases hlt : cnt < h.block
        · simp [hlt]; omega
        · simp [hlt]; omega
      have hko : 0 < gk := by have := hfinv'.2.1; omega
      clear hex hkk5 hin5 hJ5 hsub5 hfr5 hk5 hs5 hfinv' hkk4 hinf4 hbF4
      go_wp2
      go_roundg (gk - 1)
      case measure => omega
      case rel => exact ⟨_, number + 1, total + cnt, nb + h.block, f', decide (cnt < h.block), _, S5, rfl, by go_num, by go_num, hinv'⟩
end Go.Proofs.Ytncmgnmcggkhnaa

namespace Go.Proofs.Ytncmgnmcggkhnaa
open Go.RowKit

theorem infoStr : (Try.prog.info? 9).map (fun i => (i.zero, i.size, i.bytes)) = some (some (.string ⟨#[]⟩), 1, 16) := by kernel_rfl

def strV (l : List UInt8) : Value := .string ⟨l.toArray⟩

theorem strV_data (s : ByteArray) : strV s.data.toList = .string s := by
  unfold strV
  rfl

/-- a reader in memory: its head, the bytes of its frames, where it is, the block of what it keeps -/
def readerC (h : Head) (pv : Value) (pos gM : Nat) : Array Value :=
  #[.int .i64 h.block, .int .i64 h.rate, .int .i64 h.channels, .int .i64 h.bits, .int .i64 h.total, pv, .int .i64 pos, .map (some gM)]

/-- what Open's function has made of the frames ahead: a list of their bytes -/
def JOpen (gV gB gM base : Nat) (h : Head) (w : World) (l : List Fr) (S : Nat → Prop) : Prop :=
  Box w gV #[.pointer (some ⟨gB, 0, none⟩)] 46 ∧ gM < gB ∧ gB < gV ∧ gV < base ∧ base ≤ w.heap.size ∧ w.heap[gM]? = some (.map #[] 0) ∧
    ∃ pv, Box w gB (readerC h pv 0 gM) 108 ∧ w.ownsRow base 9 1 pv l.length (l.map fun p => strV p.1) ∧ ∀ b, S b ↔ (b = gB ∨ pv.ownBlock = some b)

set_option maxHeartbeats 4000000 in
set_option maxRecDepth 20000 in
theorem take_open (gV gB gM base : Nat) (h : Head) : TakeOk 55 #[.pointer (some ⟨gV, 0, none⟩)] h (JOpen gV gB gM base h) := by
  refine ⟨?_, ?_, ?_⟩
  · intro w l S hJ b hb
    obtain ⟨_, _, _, _, h5, _, pv, hB, hrow, hS⟩ := hJ
    rcases (hS b).1 hb with rfl | e
    · exact hB.lt
    · exact (World.ownsRow.lt hrow b e).2
  · intro w w' l S hJ hg
    obtain ⟨h1, h2, h3, h4, h5, h6, pv, hB, hrow, hS⟩ := hJ
    refine ⟨h1.kept hg (by simp), h2, h3, h4, Nat.le_trans h5 hg.size, ?_, pv, hB.kept hg (by simp), ownsRow_kp hrow (Kp.ofNone (S := fun _ => False) hg) (fun _ _ e => e), hS⟩
    have hlt : gM < w.heap.size := by
      rcases Nat.lt_or_ge gM w.heap.size with h1 | h1
      · exact h1
      · rw [Array.getElem?_eq_none h1] at h6; cases h6
    rw [hg.block gM hlt (by simp), h6]
  · intro W l S D part chs v n total hJ _ _ _ _ _ _ _ _ hll hps
    obtain ⟨h1, h2, h3, h4, h5, h6, pv, hB, hrow, hS⟩ := hJ
    obtain ⟨i0, hi, hz0, hz1, hz2⟩ := info_parts infoStr
    have HI : Hid _ := hi
    have HZ0 : Hid _ := hz0
    have HZ1 : Hid _ := hz1
    have HZ2 : Hid _ := hz2
    clear hi hz0 hz1 hz2
    have HCL := fun w => qsclone w part hps
    obtain ⟨ap, cp, rfl⟩ := row_slice hrow
    obtain ⟨m, hm⟩ : ∃ m, l.length = m := ⟨_, rfl⟩
    obtain ⟨vs, hvs⟩ : ∃ vs, l.map (fun p => strV p.1) = vs := ⟨_, rfl⟩
    rw [hm] at hll
    rw [hm, hvs] at hrow
    rw [hm] at hB hS
    have hlt := World.ownsRow.lt hrow
    have HOWN : Hid (∀ w4 o, W.grownBy w4 none → (w4.alloc o).ownsRow base 9 1 (.slice ap m cp) m vs) := by
      intro w4 o hg4
      exact World.ownsRow.alloc (ownsRow_kp hrow (Kp.ofNone (S := fun _ => False) hg4) (fun _ _ e => e)) o
    have HBASE : Hid (∀ (w4 : World) o, W.grownBy w4 none → base ≤ (w4.alloc o).heap.size) := by
      intro w4 o hg4
      exact Nat.le_trans (Nat.le_trans h5 hg4.size) (by simp)
    have cV : W.cell? ⟨gV, 0, none⟩ = some (.pointer (some ⟨gB, 0, none⟩)) := h1.cell 0
    have cB : W.cell? ⟨gB, 5, none⟩ = some (.slice ap m cp) := hB.cell 5
    have fB := hB.fz 5
    have HV : Hid (∀ (w5 : World) o (w4 : World), W.grownBy w4 none → (w4.alloc o).grownBy w5 (Value.slice ap m cp).ownBlock → Box w5 gV #[.pointer (some ⟨gB, 0, none⟩)] 46 ∧ Box w5 gB (readerC h (.slice ap m cp) 0 gM) 108) := by
      intro w5 o w4 hg4 hg5
      have hga : W.grownBy (w4.alloc o) none := grown_alloc hg4 _
      refine ⟨(h1.kept hga (by simp)).kept hg5 (fun e => ?_), (hB.kept hga (by simp)).kept hg5 (fun e => ?_)⟩
      · have := (hlt gV e.symm).1; omega
      · have := (hlt gB e.symm).1; omega
    have hgM : gM < W.heap.size := by omega
    have hfin : ∀ (w4 : World) o (g cap' : Nat) (w5 : World), W.grownBy w4 none → (w4.alloc o).grownBy w5 (Value.slice ap m cp).ownBlock → w5.ownsRow base 9 1 (.slice (some ⟨g, 0, none⟩) (m + 1) cap') (m + 1) (vs ++ [.string part]) →
        ((Value.slice ap m cp).ownBlock = some g ∨ g = (w4.alloc o).heap.size) → TakePost (JOpen gV gB gM base h) W l S (part.data.toList, chs) (.returned (.tuple #[])) (w5.setCell ⟨gB, 5, none⟩ (.slice (some ⟨g, 0, none⟩) (m + 1) cap')) := by
      intro w4 o g cap' w5 hg4 hg5 hrow5 hat
      have hga : W.grownBy (w4.alloc o) none := grown_alloc hg4 _
      have hk5 : Kp W w5 S := (Kp.ofNone (S := S) hga).trans (Kp.of hg5) (fun b hb => .inl ((hS b).2 (.inr hb.symm)))
      have hgs := grown_set w5 gB 5 (.slice (some ⟨g, 0, none⟩) (m + 1) cap')
      have hk6 : Kp W (w5.setCell ⟨gB, 5, none⟩ (.slice (some ⟨g, 0, none⟩) (m + 1) cap')) S := hk5.trans (Kp.of hgs) (fun b hb => .inl ((hS b).2 (.inl (by injection hb))))
      have hgb := (World.ownsRow.lt hrow5 g rfl).1
      obtain ⟨bV, bB⟩ := HV.out w5 o w4 hg4 hg5
      refine ⟨rfl, hk6, fun b => b = gB ∨ b = g, ⟨bV.kept hgs (by simp; omega), h2, h3, h4, Nat.le_trans h5 hk6.size, ?_, _, bB.set 5 (.slice (some ⟨g, 0, none⟩) (m + 1) cap'), ?_, fun b => ?_⟩, fun b hb => ?_⟩
      · rw [hk6.block gM hgM (fun e => ?_), h6]
        rcases (hS gM).1 e with e | e
        · omega
        · have := (hlt gM e).1; omega
      · have := ownsRow_kp hrow5 (Kp.of hgs) (fun q hq e => by have hq' : g = q := (by simpa [Value.ownBlock] using hq); injection e with e; omega)
        rw [List.length_append, List.length_singleton, hm, List.map_append, hvs, List.map_singleton, strV_data]
        exact this
      · show (b = gB ∨ b = g) ↔ (b = gB ∨ some g = some b)
        constructor
        · rintro (e | e)
          · exact .inl e
          · exact .inr (by rw [e])
        · rintro (e | e)
          · exact .inl e
          · injection e with e
            exact .inr e.symm
      · rcases hb with e | e
        · exact .inl ((hS b).2 (.inl e))
        · rcases hat with h9 | h9
          · exact .inl ((hS b).2 (.inr (by rw [e]; exact h9)))
          · refine .inr ?_
            have := hga.size
            omega
    have HFIN : Hid _ := hfin
    show Calls Try.prog 55 #[.string part, v, .pointer (some ⟨gV, 0, none⟩)] W _
    have HD : Hid (∀ d, W.grownBy (W.drewN d) none) := fun d => grown_drewN (grown_refl _ _) d
    clear hfin hrow hS hB h1 h6 hm hvs hlt hgM
    go_enter Try.func55, Try.ntmps55
    go_upto_region 0 with fail
    go_region_law ((first
      | (refine step_append_lies _ (by rfl) (.tmp 9) (.tmp 12) 50 (by rfl) base 9 i0 (.string ⟨#[]⟩) 1 16 Try.underlying50 HI.out HZ0.out HZ1.out HZ2.out rfl (by decide) (.slice ap m cp) m vs (by simp [Act.eval]) (HOWN.out w4 _ hg4) ⟨w4.heap.size, 0, none⟩ 1 1 [.string part] (by simp [Act.eval]) rfl (one_elem w4 _ _) (by intro u hu; rw [List.mem_singleton.1 hu]; rfl) (by omega) (by unfold maxLen; omega) (by omega) (HBASE.out w4 _ hg4) _ rfl ?_; intro g cap' w5 hrow' hgrow hat hglt; have cV5 : w5.cell? ⟨gV, 0, none⟩ = some (.pointer (some ⟨gB, 0, none⟩)) := (HV.out w5 _ w4 hg4 hgrow).1.cell 0; have cB5 : w5.cell? ⟨gB, 5, none⟩ = some (.slice ap m cp) := (HV.out w5 _ w4 hg4 hgrow).2.cell 5; have fB5 := (HV.out w5 _ w4 hg4 hgrow).2.fz 5; have HROW' : Hid _ := hrow'; have HGROW : Hid _ := hgrow; have HAT : Hid _ := hat; clear hrow' hgrow hat)
      | (go_simp; go_at_call 56; refine (HCL _).mono ?_; rintro e w4 ⟨rfl, hg4d⟩; have hg4 : W.grownBy w4 none := grown_trans (grown_drew (grown_refl W none)) hg4d; have cV4 := hg4.cell cV (by simp); have cB4 := hg4.cell cB (by simp); have cV4a := (grown_alloc hg4 (.cells #[.string part] 9)).cell cV (by simp); have cB4a := (grown_alloc hg4 (.cells #[.string part] 9)).cell cB (by simp))))
    all_goals
      exact bodyPost_end (v := .tuple #[]) (by simp [results, Try.results55, go_sem]) rfl (HFIN.out w4 _ g cap' w5 hg4 HGROW.out HROW'.out HAT.out)
end Go.Proofs.Ytncmgnmcggkhnaa

namespace Go.Proofs.Ytncmgnmcggkhnaa
open Go.RowKit

def JoinPost (w : World) (gC base n : Nat) (vs : List Value) (acc chs : List (List Int)) (e : Ending) (w' : World) : Prop :=
  e = .returned (.tuple #[]) ∧ Kp w w' (ownsB gC vs) ∧ ∃ vs', CM w' gC base vs' (List.zipWith (· ++ ·) acc chs) ∧ vs'.length = n ∧ ∀ b, ownsB gC vs' b → ownsB gC vs b ∨ w.heap.size ≤ b

set_option maxHeartbeats 4000000 in
set_option maxRecDepth 20000 in
theorem qjoin (w : World) (gC base n : Nat) (D : Nat → Prop) (v : Value) (vs : List Value) (acc chs : List (List Int)) (hcm : CM w gC base vs acc) (hvl : vs.length = n) (hcl : chs.length = n) (hn : n ≤ 2) (hcb : gC < base) (hbw : base ≤ w.heap.size)
    (hview : Views w D v chs) (hD : ∀ q, D q → ¬ ownsB gC vs q ∧ q < w.heap.size)
    (hlen : ∀ j, j < n → 1 ≤ (chs.getD j []).length ∧ (acc.getD j []).length + (chs.getD j []).length ≤ 1200) :
    Calls Try.prog 43 #[.slice (some ⟨gC, 0, none⟩) n n, v] w (JoinPost w gC base n vs acc chs) := by
  obtain ⟨i0, hi, hz0, hz1, hz2⟩ := info_parts Try.info3
  have HI : Hid _ := hi
  have HZ0 : Hid _ := hz0
  have HZ1 : Hid _ := hz1
  have HZ2 : Hid _ := hz2
  clear hi hz0 hz1 hz2
  have hal : acc.length = n := by rw [hcm.len, hvl]
  have hinv : JoinInv w w gC base n D v vs acc chs 0 vs acc := ⟨hcm, hvl, Kp.refl _ _, fun b hb => .inl hb, hview, GrownUpto.start _ _ _ hal⟩
  obtain ⟨lg, lcap, rfl, hlc, hDlg, hlgl, _⟩ := hview
  have HCL : Hid (chs.length = n) := hcl
  have HAL : Hid (acc.length = n) := hal
  rw [hcl] at hlc
  rw [hcl] at hinv ⊢
  clear hcm hvl hcl hal
  go_enter Try.func43, Try.ntmps43
  go_wp2_with fail
  go_loopg [8] n (fun gq t8 wq => ∃ (k : Nat) (vs' : List Value) (acc' : List (List Int)), gq + k = n ∧ t8 = .int .i64 k ∧ JoinInv w wq gC base n D (.slice (some ⟨lg, 0, none⟩) n lcap) vs acc chs k vs' acc')
  case atStart => exact ⟨0, vs, acc, rfl, rfl, hinv⟩
  case round =>
    clear hinv
    obtain ⟨k, vs', acc', hgq, rfl, hinv⟩ := hrel
    by_cases hk : k < n
    · obtain ⟨lg', lcap', elg, _, _, _, hcells⟩ := hinv.view
      have elg1 : lg = lg' := by injection elg with e1; injection e1 with e1; injection e1 with e1
      subst elg1
      clear elg
      obtain ⟨g1, off, cap1, hDg, hgl, hlk, hcap1, hnews⟩ := hcells k (by rw [HCL.out]; exact hk)
      obtain ⟨hy1, hlen2⟩ := hlen k hk
      have hownk := hinv.cm.own k (by rw [hinv.len]; exact hk)
      have hacck : acc'.getD k [] = acc.getD k [] := by rw [hinv.up.2 k hk, if_neg (by omega)]
      rw [hacck] at hownk
      obtain ⟨a9, c9, hV⟩ := own_slice hownk
      obtain ⟨xs, hxs⟩ : ∃ xs, acc.getD k [] = xs := ⟨_, rfl⟩
      obtain ⟨ys, hys⟩ : ∃ ys, chs.getD k [] = ys := ⟨_, rfl⟩
      rw [hxs] at hV hownk hlen2
      rw [hys] at hlk hnews hlen2 hy1 hcap1
      obtain ⟨m1, hm1⟩ : ∃ m1, xs.length = m1 := ⟨_, rfl⟩
      obtain ⟨m2, hm2⟩ : ∃ m2, ys.length = m2 := ⟨_, rfl⟩
      rw [hm1] at hV hlen2
      rw [hm2] at hlk hlen2 hy1 hcap1
      have ck : wr.cell? ⟨gC, k, none⟩ = some (.slice a9 m1 c9) := by
        rw [hinv.cm.row.cell k, ← hV]
        simp [List.getD, show k < vs'.length by rw [hinv.len]; exact hk]
      have fk := hinv.cm.row.fz k
      have tk : decide ((k : Int) < (n : Int)) = true := decide_eq_true (by omega)
      have HOWN : Hid (wr.ownsRow base 3 1 (.slice a9 m1 c9) m1 (xs.map (Value.int .i64))) := by
        have h9 := hownk
        unfold Own at h9
        rw [hV, hm1] at h9
        exact h9
      have HNEWS : Hid (∀ j u, (ys.map (Value.int .i64))[j]? = some u → wr.cell? ((⟨g1, off, none⟩ : Addr).add j) = some u) := hnews
      have HINT : Hid (∀ u ∈ ys.map (Value.int .i64), u.oneCell' = true) := by
        intro u hu
        obtain ⟨x, _, rfl⟩ := List.mem_map.1 hu
        rfl
      have HLN : Hid ((ys.map (Value.int .i64)).length = m2 * 1) := by show _ = _; rw [List.length_map, hm2]; omega
      have HBS : Hid (base ≤ wr.heap.size) := by have := hinv.kp.size; exact Nat.le_trans hbw this
      have HIN : Hid (∀ w' g cap, wr.grownBy w' (Value.slice a9 m1 c9).ownBlock → w'.ownsRow base 3 1 (.slice (some ⟨g, 0, none⟩) (m1 + m2) cap) (m1 + m2) (xs.map (Value.int .i64) ++ ys.map (Value.int .i64)) →
          ((Value.slice a9 m1 c9).ownBlock = some g ∨ g = wr.heap.size) →
          JoinInv w (w'.setCell ⟨gC, k, none⟩ (.slice (some ⟨g, 0, none⟩) (m1 + m2) cap)) gC base n D (.slice (some ⟨lg, 0, none⟩) n lcap) vs acc chs (k + 1) (vs'.set k (.slice (some ⟨g, 0, none⟩) (m1 + m2) cap)) (acc'.set k (acc.getD k [] ++ chs.getD k []))) := by
        intro w' g cap hg' hown' hat'
        rw [← hV] at hg' hat'
        refine join_step hinv hcb hk hD hg' ?_ hat'
        unfold Own
        rw [hxs, hys, List.map_append, List.length_append, hm1, hm2]
        exact hown'
      have HNC : Hid (some gC ≠ (Value.slice a9 m1 c9).ownBlock) := by
        intro e
        rw [← hV] at e
        have := (hownk.lt gC e.symm).1
        omega
      have HCK : Hid (wr.cell? ⟨gC, k, none⟩ = some (.slice a9 m1 c9)) := ck
      have HFK : Hid (wr.frozen? ⟨gC, k, none⟩ = false) := fk
      have HCLT : Hid (gC < wr.heap.size) := hinv.cm.row.lt
      clear hxs hys hm1 hm2 hownk hV hacck hcells hinv hnews hlen hcap1 hDg hgl
      go_wp2_with (first
        | (at_builtin; refine wpList_append_lies _ rfl _ _ 30 rfl base 3 i0 (.int .i64 0) 1 8 Try.underlying30 HI.out HZ0.out HZ1.out HZ2.out rfl (by decide) (.slice a9 m1 c9) m1 (xs.map (Value.int .i64)) rfl HOWN.out ⟨g1, off, none⟩ m2 cap1 (ys.map (Value.int .i64)) rfl HLN.out HNEWS.out HINT.out ?c1 ?c2 ?c3 ?c4 _ rfl ?_))
      case c1 => omega
      case c2 => unfold maxLen; omega
      case c3 => omega
      case c4 => exact HBS.out
      intro g cap w' hown' hgrow hat' hlt'
      have hin := HIN.out w' g cap hgrow hown' hat'
      have q2 : w'.cell? ⟨gC, k, none⟩ = some (.slice a9 m1 c9) := hgrow.cell HCK.out HNC.out
      have q3 : w'.frozen? ⟨gC, k, none⟩ = false := (World.frozen?_of_block (a := ⟨gC, k, none⟩) (hgrow.block gC HCLT.out HNC.out)).trans HFK.out
      clear hown' hgrow hat' hlt' HIN HOWN HNEWS ck fk hlk
      go_wp2
      go_roundg (gk - 1)
      case measure => omega
      case rel => exact ⟨k + 1, _, _, by omega, by go_num, hin⟩
    · have hke : k = n := by omega
      have hall := (hke ▸ hinv.up : GrownUpto acc chs acc' n n).all HAL.out HCL.out
      subst hall
      have hpost : JoinPost w gC base n vs acc chs (.returned (.tuple #[])) wr := ⟨rfl, hinv.kp, vs', hinv.cm, hinv.len, hinv.sub⟩
      have tk : decide ((k : Int) < (n : Int)) = false := decide_eq_false (by omega)
      clear hinv hke hgq
      go_wp2
      exact bodyPost_end (v := .tuple #[]) (by simp [results, Try.results43, go_sem]) rfl hpost
end Go.Proofs.Ytncmgnmcggkhnaa

namespace Go.Proofs.Ytncmgnmcggkhnaa
open Go.RowKit

/-- what Decode's function has made of the frames ahead: their samples, joined -/
def JDec (gV gC base n : Nat) (w : World) (l : List Fr) (S : Nat → Prop) : Prop :=
  Box w gV #[.slice (some ⟨gC, 0, none⟩) n n] 24 ∧ gC < gV ∧ gV < base ∧ base ≤ w.heap.size ∧ ∃ vs, CM w gC base vs (joined n l) ∧ vs.length = n ∧ ∀ b, S b ↔ ownsB gC vs b

theorem JDec.apart {gV gC base : Nat} {w : World} {vs : List Value} {acc : List (List Int)} (hm : CM w gC base vs acc) (h1 : gC < gV) (h2 : gV < base) : ¬ ownsB gC vs gV := by
  intro e
  rcases e with e | ⟨i, hi, hq⟩
  · omega
  · have := ((hm.own i hi).lt gV hq).1
    omega

set_option maxHeartbeats 1000000 in
theorem take_dec (gV gC base : Nat) (h : Head) (hc2 : h.channels ≤ 2) : TakeOk 42 #[.pointer (some ⟨gV, 0, none⟩)] h (JDec gV gC base h.channels) := by
  refine ⟨?_, ?_, ?_⟩
  · intro w l S hJ b hb
    obtain ⟨_, _, _, _, vs, hm, _, hS⟩ := hJ
    exact hm.ownsLt b ((hS b).1 hb)
  · intro w w' l S hJ hg
    obtain ⟨h1, h2, h3, h4, vs, hm, hl, hS⟩ := hJ
    exact ⟨h1.kept hg (by simp), h2, h3, Nat.le_trans h4 hg.size, vs, hm.kp (Kp.ofNone (S := fun _ => False) hg) (fun _ _ e => e), hl, hS⟩
  · intro W l S D part chs v n total hJ hview hD hcl hcn hn1 hjl hjn hmax hll hps
    obtain ⟨h1, h2, h3, h4, vs, hm, hl, hS⟩ := hJ
    have hD' : ∀ q, D q → ¬ ownsB gC vs q ∧ q < W.heap.size := fun q hq => ⟨fun e => (hD q hq).1 ((hS q).2 e), (hD q hq).2⟩
    have HJ := qjoin W gC base h.channels D v vs (joined h.channels l) chs hm hl hcl hc2 (by omega) h4 hview hD' (fun j hj => by rw [hcn j hj, hjl j hj]; omega)
    have hap := JDec.apart hm h2 h3
    show Calls Try.prog 42 #[.string part, v, .pointer (some ⟨gV, 0, none⟩)] W _
    have c0 : W.cell? ⟨gV, 0, none⟩ = some (.slice (some ⟨gC, 0, none⟩) h.channels h.channels) := h1.cell 0
    have hfin : ∀ w', JoinPost W gC base h.channels vs (joined h.channels l) chs (.returned (.tuple #[])) w' → TakePost (JDec gV gC base h.channels) W l S (part.data.toList, chs) (.returned (.tuple #[])) w' := by
      rintro w' ⟨_, hk, vs', hm', hl', hs'⟩
      refine ⟨rfl, hk.mono (fun b hb => .inl ((hS b).2 hb)), ownsB gC vs', ⟨h1.kp hk hap, h2, h3, Nat.le_trans h4 hk.size, vs', by rw [joined_snoc]; exact hm', hl', fun b => Iff.rfl⟩, fun b hb => ?_⟩
      rcases hs' b hb with e | e
      · exact .inl ((hS b).2 e)
      · exact .inr e
    clear hview hD hD' hm h1 hcl hcn hjl hjn hS hap
    go_enter Try.func42, Try.ntmps42
    go_wp2_with (go_at_call 43; refine HJ.mono ?_; rintro e w' hpost; obtain rfl := hpost.1)
    exact bodyPost_end (v := .tuple #[]) (by simp [results, Try.results42, go_sem]) rfl (hfin w' hpost)
end Go.Proofs.Ytncmgnmcggkhnaa

namespace Go.Proofs.Ytncmgnmcggkhnaa
open Go.RowKit

def noHead : Value := .agg #[.int .i64 0, .int .i64 0, .int .i64 0, .int .i64 0, .int .i64 0]

def PHead (w : World) (s : ByteArray) (e : Ending) (w' : World) : Prop :=
  w.grownBy w' none ∧ ∃ (hv : Value) (d : ByteArray) (er : Nat), e = .returned (.tuple #[hv, .string d, .int .i64 er]) ∧
    ((er = 2 ∧ hv = noHead ∧ 6000 < s.size) ∨ (er = 3 ∧ hv = noHead ∧ s.size ≤ 6000 ∧ pBlocks (bitsOf s.data.toList) = none) ∨
     (er = 0 ∧ s.size ≤ 6000 ∧ ∃ (h : Head) (at' : Nat), at' ≤ s.size ∧ hv = .agg (headC h) ∧ d = s.extract at' s.size ∧ pBlocks (bitsOf s.data.toList) = some (h, bitsOf (s.data.toList.drop at'))))

theorem five_cells (w : World) (g : Nat) (z0 z1 z2 z3 z4 : Value) (t : TypeId) (v0 v1 v2 v3 v4 : Value) (h : Box w g #[z0, z1, z2, z3, z4] t) :
    Box (((((w.setCell ⟨g, 0, none⟩ v0).setCell ⟨g, 1, none⟩ v1).setCell ⟨g, 2, none⟩ v2).setCell ⟨g, 3, none⟩ v3).setCell ⟨g, 4, none⟩ v4) g #[v0, v1, v2, v3, v4] t ∧
    w.grownBy (((((w.setCell ⟨g, 0, none⟩ v0).setCell ⟨g, 1, none⟩ v1).setCell ⟨g, 2, none⟩ v2).setCell ⟨g, 3, none⟩ v3).setCell ⟨g, 4, none⟩ v4) (some g) :=
  ⟨((((h.set 0 v0).set 1 v1).set 2 v2).set 3 v3).set 4 v4, grown_trans (grown_trans (grown_trans (grown_trans (grown_set _ _ _ _) (grown_set _ _ _ _)) (grown_set _ _ _ _)) (grown_set _ _ _ _)) (grown_set _ _ _ _)⟩

set_option maxHeartbeats 4000000 in
set_option maxRecDepth 20000 in
theorem qphead (w : World) (s : ByteArray) (hsz : s.size ≤ maxLen) :
    Calls Try.prog 40 #[.string s] w (PHead w s) := by
  have hmax : s.size ≤ 9223372036854775807 := hsz
  by_cases hlong : 6000 < s.size
  · go_enter Try.func40, Try.ntmps40
    go_wp2
    exact bodyPost_ret (v := .tuple #[noHead, .string ⟨#[]⟩, .int .i64 2]) (by simp [results, Try.results40, go_sem, noHead]) rfl ⟨grown_alloc (grown_refl _ _) _, _, _, 2, rfl, .inl ⟨rfl, rfl, hlong⟩⟩
  have hs : s.size ≤ 6000 := by omega
  clear hlong hmax hsz
  go_enter Try.func40, Try.ntmps40
  go_wp2_with fail
  have hbr0 := Box.new w #[Value.int .i64 0, .int .i64 0, .int .i64 0, .int .i64 0, .int .i64 0] 77
  obtain ⟨r, hr⟩ : ∃ r, w.heap.size = r := ⟨_, rfl⟩
  obtain ⟨wa, hwa⟩ : ∃ wa, w.alloc (.cells #[Value.int .i64 0, .int .i64 0, .int .i64 0, .int .i64 0, .int .i64 0] 77) = wa := ⟨_, rfl⟩
  have hga : w.grownBy wa none := by rw [← hwa]; exact grown_alloc (grown_refl _ _) _
  rw [hwa, hr] at hbr0
  rw [hwa, hr]
  refine (qread wa s hs).mono ?_
  rintro e w1 ⟨hg1, h, at', ok, rfl, hcase⟩
  have hbr2 := hbr0.kept hg1 (by simp)
  have hgg1 := grown_trans hga hg1
  obtain ⟨w2, hw2⟩ : ∃ w2, w1.alloc (.cells #[Value.int .i64 h.block, .int .i64 h.rate, .int .i64 h.channels, .int .i64 h.bits, .int .i64 h.total] 77) = w2 := ⟨_, rfl⟩
  have hg2 : w1.grownBy w2 none := by rw [← hw2]; exact grown_alloc (grown_refl _ _) _
  have hgg2 := grown_trans hgg1 hg2
  have hbr3 := hbr2.kept hg2 (by simp)
  obtain ⟨gH, hgH⟩ : ∃ gH, w1.heap.size = gH := ⟨_, rfl⟩
  have hbh3 : Box w2 gH (headC h) 77 := by rw [← hgH, ← hw2]; exact Box.new _ _ _
  have hrlt := hbr2.lt
  rw [hgH] at hrlt
  have HR : Hid (w.heap.size = r) := hr
  have HW2 : Hid (w1.alloc (.cells #[Value.int .i64 h.block, .int .i64 h.rate, .int .i64 h.channels, .int .i64 h.bits, .int .i64 h.total] 77) = w2) := hw2
  have HGH : Hid (w1.heap.size = gH) := hgH
  clear hbr0 hbr2 hgg1 hga hwa hg1 hw2 hgH hg2 hr
  unfold headV
  go_upto_region 4 with fail
  rw [HW2.out, HGH.out]
  clear HW2 HGH
  have z0 : w2.cell? ⟨r, 0, none⟩ = some (.int .i64 0) := hbr3.cell 0
  have z1 : w2.cell? ⟨r, 1, none⟩ = some (.int .i64 0) := hbr3.cell 1
  have z2 : w2.cell? ⟨r, 2, none⟩ = some (.int .i64 0) := hbr3.cell 2
  have z3 : w2.cell? ⟨r, 3, none⟩ = some (.int .i64 0) := hbr3.cell 3
  have z4 : w2.cell? ⟨r, 4, none⟩ = some (.int .i64 0) := hbr3.cell 4
  have y0 := hbr3.fz 0
  have y1 := hbr3.fz 1
  have y2 := hbr3.fz 2
  have y3 := hbr3.fz 3
  have y4 := hbr3.fz 4
  rcases hcase with ⟨rfl, hat, hpb⟩ | ⟨rfl, hnone⟩
  rotate_left
  · have h5 := five_cells w2 r _ _ _ _ _ _ (.int .i64 0) (.int .i64 0) (.int .i64 0) (.int .i64 0) (.int .i64 0) hbr3
    have hfin : ∀ wf, w2.grownBy wf (some r) → PHead w s (.returned (.tuple #[noHead, .string ⟨#[]⟩, .int .i64 3])) wf := fun wf hgf =>
      ⟨grown_new hgg2 hgf (fun g e => by injection e with e; rw [HR.out]; omega), _, _, 3, rfl, .inr (.inl ⟨rfl, rfl, hs, hnone⟩)⟩
    clear hnone
    go_wp2
    generalize (World.setCell _ _ _) = wf at h5 ⊢
    have x0 := h5.1.cell 0
    have x1 := h5.1.cell 1
    have x2 := h5.1.cell 2
    have x3 := h5.1.cell 3
    have x4 := h5.1.cell 4
    exact bodyPost_ret (v := .tuple #[noHead, .string ⟨#[]⟩, .int .i64 3]) (by simp [results, Try.results40, go_sem, x0, x1, x2, x3, x4, noHead]) rfl (hfin wf h5.2)
  have h5 := five_cells w2 r _ _ _ _ _ _ (.int .i64 h.block) (.int .i64 h.rate) (.int .i64 h.channels) (.int .i64 h.bits) (.int .i64 h.total) hbr3
  have hfin : ∀ wf, w2.grownBy wf (some r) → PHead w s (.returned (.tuple #[.agg (headC h), .string (s.extract at' s.size), .int .i64 0])) wf.drew := fun wf hgf =>
    ⟨grown_drew (grown_new hgg2 hgf (fun g e => by injection e with e; rw [HR.out]; omega)), _, _, 0, rfl, .inr (.inr ⟨rfl, hs, h, at', hat, rfl, rfl, hpb⟩)⟩
  have e0 : w2.cell? ⟨gH, 0, none⟩ = some (.int .i64 h.block) := hbh3.cell 0
  have e1 : w2.cell? ⟨gH, 1, none⟩ = some (.int .i64 h.rate) := hbh3.cell 1
  have e2 : w2.cell? ⟨gH, 2, none⟩ = some (.int .i64 h.channels) := hbh3.cell 2
  have e3 : w2.cell? ⟨gH, 3, none⟩ = some (.int .i64 h.bits) := hbh3.cell 3
  have e4 : w2.cell? ⟨gH, 4, none⟩ = some (.int .i64 h.total) := hbh3.cell 4
  have HFIN : Hid _ := hfin
  have H5 : Hid _ := h5
  clear hpb hfin h5
  go_upto_region 6 with fail
  go_region
  all_goals
    go_wp2
    have h5 := H5.out
    generalize (World.setCell _ _ _) = wf at h5 ⊢
    have x0 := h5.1.cell 0
    have x1 := h5.1.cell 1
    have x2 := h5.1.cell 2
    have x3 := h5.1.cell 3
    have x4 := h5.1.cell 4
    exact bodyPost_ret (v := .tuple #[.agg (headC h), .string (s.extract at' s.size), .int .i64 0]) (by simp [results, Try.results40, go_sem, x0, x1, x2, x3, x4, headC]) rfl (HFIN.out wf h5.2)
end Go.Proofs.Ytncmgnmcggkhnaa
