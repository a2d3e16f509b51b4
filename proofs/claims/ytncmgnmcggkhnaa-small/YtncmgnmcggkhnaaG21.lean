import Derived.Test.YtncmgnmcggkhnaaG20
import Derived.Deep.DeepCutAuto
import Derived.Deep.CutBlock
import Derived.Deep.LoopGhost
import Derived.Shelf.Abstract
import Derived.Deep.AppendLies
namespace Go.Proofs.Ytncmgnmcggkhnaa
open Go.RowKit

/-- a frame that was read: its bytes and its channels -/
abbrev Fr := List UInt8 × List (List Int)

/-- the samples of frames, behind one another -/
def joined (c : Nat) (l : List Fr) : List (List Int) := l.foldl (fun acc p => List.zipWith (· ++ ·) acc p.2) (List.replicate c [])

theorem joined_snoc (c : Nat) (l : List Fr) (p : Fr) : joined c (l ++ [p]) = List.zipWith (· ++ ·) (joined c l) p.2 := by
  unfold joined; simp

/-- frames read one behind the other: the first `f` bytes of `L` -/
structure Fls (h : Head) (L : List UInt8) (l : List Fr) (f : Nat) (ended : Bool) : Prop where
  bytes : (l.map (·.1)).flatten = L.take f
  each : ∀ i (p : Fr), l[i]? = some p → ∃ rest, pFrame h i (p.1 ++ rest) = some (p.2, rest)
  full : ∀ i (p : Fr), l[i]? = some p → (i + 1 < l.length ∨ ended = false) → ∀ j, j < h.channels → (p.2.getD j []).length = h.block

theorem Fls.start (h : Head) (L : List UInt8) : Fls h L [] 0 false := ⟨rfl, fun i p hp => by simp at hp, fun i p hp => by simp at hp⟩

theorem Fls.next {h : Head} {L part : List UInt8} {l : List Fr} {f k cnt : Nat} {chs : List (List Int)} (hf : Fls h L l f false) (hb : part = (L.drop f).take k) (hp : pFrame h l.length (L.drop f) = some (chs, (L.drop f).drop k))
    (hc : ∀ j, j < h.channels → (chs.getD j []).length = cnt) (hcnt : cnt ≤ h.block) : Fls h L (l ++ [(part, chs)]) (f + k) (decide (cnt < h.block)) := by
  refine ⟨?_, fun i p hi => ?_, fun i p hi hfull j hj => ?_⟩
  · rw [List.map_append, List.flatten_append, hf.bytes, hb, List.take_add]
    simp
  · rcases Nat.lt_or_ge i l.length with h1 | h1
    · rw [List.getElem?_append_left h1] at hi
      exact hf.each i p hi
    · rw [List.getElem?_append_right h1] at hi
      have h2 : i - l.length = 0 := by
        rcases Nat.eq_zero_or_pos (i - l.length) with h3 | h3
        · exact h3
        · rw [List.getElem?_eq_none (by simp; omega)] at hi; cases hi
      have h3 : i = l.length := by omega
      rw [h2] at hi
      injection hi with hi
      subst hi
      subst h3
      exact ⟨(L.drop f).drop k, by rw [hb, List.take_append_drop]; exact hp⟩
  · rcases Nat.lt_or_ge i l.length with h1 | h1
    · rw [List.getElem?_append_left h1] at hi
      exact hf.full i p hi (.inr rfl) j hj
    · rw [List.getElem?_append_right h1] at hi
      have h2 : i - l.length = 0 := by
        rcases Nat.eq_zero_or_pos (i - l.length) with h3 | h3
        · exact h3
        · rw [List.getElem?_eq_none (by simp; omega)] at hi; cases hi
      rw [h2] at hi
      injection hi with hi
      subst hi
      rcases hfull with h4 | h4
      · rw [List.length_append, List.length_singleton] at h4; omega
      · have h5 := of_decide_eq_false h4
        have h6 := hc j hj
        show (chs.getD j []).length = _
        omega

/-- what a function that takes frames leaves behind -/
def TakePost (J : World → List Fr → (Nat → Prop) → Prop) (W : World) (l : List Fr) (S : Nat → Prop) (p : Fr) (e : Ending) (W' : World) : Prop :=
  e = .returned (.tuple #[]) ∧ Kp W W' S ∧ ∃ S', J W' (l ++ [p]) S' ∧ ∀ b, S' b → S b ∨ W.heap.size ≤ b

/-- a function that takes frames: `J` is what it has made of those ahead, in blocks of `S` -/
structure TakeOk (g : Nat) (lb : Array Value) (h : Head) (J : World → List Fr → (Nat → Prop) → Prop) : Prop where
  lt : ∀ w l S, J w l S → ∀ b, S b → b < w.heap.size
  grow : ∀ w w' l S, J w l S → w.grownBy w' none → J w' l S
  call : ∀ (W : World) (l : List Fr) (S D : Nat → Prop) (part : ByteArray) (chs : List (List Int)) (v : Value) (n total : Nat),
    J W l S → Views W D v chs → (∀ q, D q → ¬ S q ∧ q < W.heap.size) → chs.length = h.channels → (∀ j, j < h.channels → (chs.getD j []).length = n) → 1 ≤ n →
    (∀ j, j < h.channels → ((joined h.channels l).getD j []).length = total) → (joined h.channels l).length = h.channels → total + n ≤ 1200 → l.length ≤ 6000 → part.size ≤ 6000 →
    Calls Try.prog g (#[.string part, v] ++ lb) W (TakePost J W l S (part.data.toList, chs))

def EachPost (J : World → List Fr → (Nat → Prop) → Prop) (w : World) (S : Nat → Prop) (h : Head) (L : List UInt8) (res : Except Nat (List (List Int))) (e : Ending) (w' : World) : Prop :=
  ∃ l S', J w' l S' ∧ Kp w w' S ∧ (∀ b, S' b → S b ∨ w.heap.size ≤ b) ∧
    match res with
    | .error k => e = .returned (.tuple #[.int .i64 4, .int .i64 k])
    | .ok chs => joined h.channels l = chs ∧ (∃ ended, Fls h L l L.length ended) ∧ e = .returned (.tuple #[.int .i64 ((if (chs.headD []).length = h.total then 0 else 5 : Nat) : Int), .int .i64 0])

/-- what the loop over the frames knows -/
structure EaInv (J : World → List Fr → (Nat → Prop) → Prop) (w wr : World) (S0 : Nat → Prop) (h : Head) (d dk : ByteArray) (res : Except Nat (List (List Int))) (gk number total nb f : Nat) (ended : Bool) (l : List Fr) (S : Nat → Prop) : Prop where
  kp : Kp w wr S0
  inf : Box wr w.heap.size (headC h) 77
  j : J wr l S
  sub : ∀ b, S b → S0 b ∨ w.heap.size < b
  at_ : FInv h d res gk number total ended (joined h.channels l) f
  fls : Fls h d.data.toList l f ended
  num : l.length = number
  data : dk.data.toList = d.data.toList.drop f
  prod : number * h.block = nb
  stop : if ended then total < nb else total = nb
end Go.Proofs.Ytncmgnmcggkhnaa

namespace Go.Proofs.Ytncmgnmcggkhnaa
open Go.RowKit

set_option maxHeartbeats 8000000 in
set_option maxRecDepth 20000 in
theorem qeachframe (w : World) (d : ByteArray) (h : Head) (res : Except Nat (List (List Int))) (g : Nat) (lb : Array Value) (J : World → List Fr → (Nat → Prop) → Prop) (S0 : Nat → Prop)
    (eg : ∀ args w, (callFunc g args).run Try.prog w = .ok (.enter g args) w) (hT : TakeOk g lb h J) (hJ : J w [] S0)
    (hd : d.size ≤ 6000) (hc1 : 1 ≤ h.channels) (hc2 : h.channels ≤ 2) (hb1 : 4 ≤ h.bits) (hb2 : h.bits ≤ 16) (hblk : h.block ≤ 256)
    (hres : frames h (d.size + 1) 0 0 false (List.replicate h.channels []) d.data.toList = res) :
    Calls Try.prog 41 #[.string d, .agg (headC h), .func (.func g) #[] lb] w (EachPost J w S0 h d.data.toList res) := by
  have hd0 : d.data.toList.drop 0 = d.data.toList := rfl
  have hfinv : FInv h d res (d.size + 1) 0 0 false (List.replicate h.channels []) 0 :=
      ⟨by omega, by omega, by omega, by omega, by simp, fun j hj => by simp [List.getD, hj], by rw [hd0]; exact hres.symm⟩
  have hS0 := hT.lt w [] S0 hJ
  clear hres
  unfold headC
  go_enter Try.func41, Try.ntmps41
  go_upto_region 1 with fail
  obtain ⟨w0, hw0⟩ : ∃ w0, w.alloc (.cells #[Value.int .i64 h.block, .int .i64 h.rate, .int .i64 h.channels, .int .i64 h.bits, .int .i64 h.total] 77) = w0 := ⟨_, rfl⟩
  have hg0 : w.grownBy w0 none := by rw [← hw0]; exact grown_alloc (grown_refl _ _) _
  have hbI0 : Box w0 w.heap.size (headC h) 77 := by rw [← hw0]; exact Box.new _ _ _
  rw [hw0]
  clear hw0
  have hinv : EaInv J w w0 S0 h d d res (d.size + 1) 0 0 0 0 false [] S0 :=
    ⟨Kp.ofNone hg0, hbI0, hT.grow w w0 [] S0 hJ hg0, fun b hb => .inl hb, hfinv, Fls.start _ _, rfl, rfl, by omega, by simp⟩
  clear hg0 hbI0 hfinv hd0 hJ
  go_wp2_with fail
  go_loopg [0, 8, 9] (d.size + 1) (fun gk t0 t8 t9 wr => ∃ (dk : ByteArray) (number total nb f : Nat) (ended : Bool) (l : List Fr) (S : Nat → Prop), t0 = .string dk ∧ t8 = .int .i64 number ∧ t9 = .int .i64 total ∧
      EaInv J w wr S0 h d dk res gk number total nb f ended l S)
  case atStart => exact ⟨d, 0, 0, 0, 0, false, _, _, rfl, rfl, rfl, hinv⟩
  case round =>
    clear hinv
    obtain ⟨dk, number, total, nb, f, ended, l, S, rfl, rfl, rfl, hinv⟩ := hrel
    have hfinv := hinv.at_
    have hfl := hfinv.1
    have hnum : number ≤ 6001 := by have := hfinv.2.2.1; omega
    have htot := hfinv.2.2.2.1
    have hdk : dk.size = d.size - f := by rw [← dlen, hinv.data, List.length_drop, dlen]
    have hsub0 : ∀ b, S b → S0 b ∨ w.heap.size ≤ b := fun b hb => by rcases hinv.sub b hb with h1 | h1; exact .inl h1; exact .inr (by omega)
    by_cases hf : f < d.size
    rotate_left
    · have hok := hfinv.stop (by omega)
      have hds : dk.size = 0 := by omega
      have tds : decide (0 < dk.size) = false := decide_eq_false (by omega)
      have c4 : wr.cell? ⟨w.heap.size, 4, none⟩ = some (.int .i64 h.total) := hinv.inf.cell 4
      have hj0 : ((joined h.channels l).headD []).length = total := by rw [headD_getD]; exact hfinv.2.2.2.2.2.1 0 (by omega)
      have hfls : Fls h d.data.toList l d.data.toList.length ended := by
        have h1 := hinv.fls
        rwa [show f = d.data.toList.length by rw [dlen]; omega] at h1
      have hpost : EachPost J w S0 h d.data.toList res (.returned (.tuple #[.int .i64 ((if total = h.total then 0 else 5 : Nat) : Int), .int .i64 0])) wr :=
        ⟨l, S, hinv.j, hinv.kp, hsub0, by rw [hok]; exact ⟨rfl, ⟨ended, hfls⟩, by rw [hj0]⟩⟩
      by_cases htt : total = h.total
      · rw [if_pos htt] at hpost
        have tt : ((total : Int) != (h.total : Int)) = false := by simp; omega
        clear hinv hfinv hok hdk hfls hj0 htt hds
        go_wp2
        exact bodyPost_ret (v := .tuple #[.int .i64 0, .int .i64 0]) (by simp [results, Try.results41, go_sem]) rfl hpost
      · rw [if_neg htt] at hpost
        have tt : ((total : Int) != (h.total : Int)) = true := by simp; omega
        clear hinv hfinv hok hdk hfls hj0 htt hds
        go_wp2
        exact bodyPost_ret (v := .tuple #[.int .i64 5, .int .i64 0]) (by simp [results, Try.results41, go_sem]) rfl hpost
    have hstop := hinv.stop
    have hnb : nb ≤ 2000000 := by rw [← hinv.prod]; exact Nat.le_trans (Nat.mul_le_mul hnum hblk) (by omega)
    have hmul : (number : Int) * (h.block : Int) = (nb : Int) := by rw [← hinv.prod]; simp
    have hpos : 0 < dk.size := by omega
    have tpos : decide (0 < dk.size) = true := decide_eq_true hpos
    have c0 : wr.cell? ⟨w.heap.size, 0, none⟩ = some (.int .i64 h.block) := hinv.inf.cell 0
    have c1 : wr.cell? ⟨w.heap.size, 1, none⟩ = some (.int .i64 h.rate) := hinv.inf.cell 1
    have c2 : wr.cell? ⟨w.heap.size, 2, none⟩ = some (.int .i64 h.channels) := hinv.inf.cell 2
    have c3 : wr.cell? ⟨w.heap.size, 3, none⟩ = some (.int .i64 h.bits) := hinv.inf.cell 3
    have c4 : wr.cell? ⟨w.heap.size, 4, none⟩ = some (.int .i64 h.total) := hinv.inf.cell 4
    have hdk2 : dk.size ≤ 6000 := by omega
    cases ended
    rotate_left
    · have hst : total < nb := by simpa using hstop
      have hne : ((total : Int) != (nb : Int)) = true := by simp; omega
      have herr : res = .error number := by
        cases hp : pFrame h number (d.data.toList.drop f) with
        | none => exact hfinv.none hf hp
        | some x => obtain ⟨chs, rest⟩ := x; exact hfinv.over hf hp (.inl rfl)
      have hpost : EachPost J w S0 h d.data.toList res (.returned (.tuple #[.int .i64 4, .int .i64 number])) wr := ⟨l, S, hinv.j, hinv.kp, hsub0, by rw [herr]⟩
      clear hinv hfinv herr hstop hdk
      go_wp2
      exact bodyPost_ret (v := .tuple #[.int .i64 4, .int .i64 number]) (by simp [results, Try.results41, go_sem]) rfl hpost
    have hst : total = nb := by simpa using hstop
    have hne : ((total : Int) != (nb : Int)) = false := by simp; omega
    have HST : Hid (total = nb) := hst
    have HDK : Hid (dk.size = d.size - f) := hdk
    have HRD := qreadframe wr dk h number hdk2 hc1 hc2 hb1 hb2 hblk
    unfold headC at HRD
    clear hst hdk hstop
    go_wp2_with fail
    refine HRD.mono ?_
    rintro e w3 ⟨hg3, size, cnt, v, ok, rfl, hcase⟩
    clear HRD c0 c1 c2 c3 c4 hne hmul
    rw [hinv.data] at hcase
    have hkk3 : Kp w w3 S0 := hinv.kp.trans (Kp.ofNone (S := fun _ => False) hg3) (fun b e => e.elim)
    have hJ3 := hT.grow wr w3 l S hinv.j hg3
    rcases hcase with ⟨rfl, chs, cvs, hp, hsz, hsubs, hcn⟩ | ⟨rfl, rfl, rfl, hp⟩
    rotate_left
    · have herr := hfinv.none hf hp
      have hga : w3.grownBy (w3.alloc (.cells #[.int .i64 size, .int .i64 0, .slice none 0 0] 115)) none := grown_alloc (grown_refl _ _) _
      have hpost : EachPost J w S0 h d.data.toList res (.returned (.tuple #[.int .i64 4, .int .i64 number])) (w3.alloc (.cells #[.int .i64 size, .int .i64 0, .slice none 0 0] 115)) :=
        ⟨l, S, hT.grow _ _ l S hJ3 hga, hkk3.trans (Kp.ofNone (S := fun _ => False) hga) (fun b e => e.elim), hsub0, by rw [herr]⟩
      clear hinv hfinv herr hp
      go_wp2
      exact bodyPost_ret (v := .tuple #[.int .i64 4, .int .i64 number]) (by simp [results, Try.results41, go_sem]) rfl hpost
    have hsp := pFrame_spec hp
    have hcl := hsp.1
    have hn2 : 1 ≤ cnt ∧ cnt ≤ h.block := by
      obtain ⟨_, n', k', h1, h2, h3, _⟩ := hsp
      have : n' = cnt := by rw [← hcn 0 (by omega), h3 0 (by omega)]
      omega
    have hc0 : (chs.getD 0 []).length = cnt := hcn 0 (by omega)
    have hview3 := hsubs.views (by omega) (fun j hj => by rw [hcn j (by omega)]; exact hn2.1)
    have hview3' := hview3
    obtain ⟨lg, lcap, rfl, hlcap, hlg, hlgt, _⟩ := hview3'
    have hover := fun ho => hfinv.over hf hp ho
    have hnext := fun ho => hfinv.next hc1 hf hp ho
    rw [hc0] at hover hnext
    have HCL : Hid (chs.length = h.channels) := hcl
    have HP : Hid (pFrame h number (d.data.toList.drop f) = some (chs, (d.data.toList.drop f).drop size)) := hp
    clear hsp hp hc0 hsubs hcl
    obtain ⟨w4, hw4⟩ : ∃ w4, w3.alloc (.cells #[.int .i64 size, .int .i64 cnt, .slice (some ⟨lg, 0, none⟩) chs.length lcap] 115) = w4 := ⟨_, rfl⟩
    obtain ⟨gF, hgF⟩ : ∃ gF, w3.heap.size = gF := ⟨_, rfl⟩
    have hg4 : w3.grownBy w4 none := by rw [← hw4]; exact grown_alloc (grown_refl _ _) _
    have hbF4 : Box w4 gF #[.int .i64 size, .int .i64 cnt, .slice (some ⟨lg, 0, none⟩) chs.length lcap] 115 := by rw [← hgF, ← hw4]; exact Box.new _ _ _
    have hkk4 : Kp w w4 S0 := hkk3.trans (Kp.ofNone (S := fun _ => False) hg4) (fun b e => e.elim)
    have hgr4 := grown_trans hg3 hg4
    have hJ4 := hT.grow _ _ l S hJ3 hg4
    have hview4 := hview3.kp (Kp.ofNone (S := fun _ => False) hg4) (fun q _ e => e)
    have hF3 : wr.heap.size ≤ gF := by rw [← hgF]; exact hg3.size
    have hinf4 := hinv.inf.kept hgr4 (by simp)
    have HW4 : Hid (w3.alloc (.cells #[.int .i64 size, .int .i64 cnt, .slice (some ⟨lg, 0, none⟩) chs.length lcap] 115) = w4) := hw4
    have HGF : Hid (w3.heap.size = gF) := hgF
    rw [hgF] at hview4
    have hF4 : gF < w4.heap.size := hbF4.lt
    clear hw4 hgF hg3 hg4 hkk3 hJ3 hview3
    go_upto_region 6 with fail
    rw [HW4.out, HGF.out]
    clear HW4 HGF
    have f0 : w4.cell? ⟨gF, 0, none⟩ = some (.int .i64 size) := hbF4.cell 0
    have f1 : w4.cell? ⟨gF, 1, none⟩ = some (.int .i64 cnt) := hbF4.cell 1
    have f2 : w4.cell? ⟨gF, 2, none⟩ = some (.slice (some ⟨lg, 0, none⟩) chs.length lcap) := hbF4.cell 2
    by_cases hov : 1200 < total + cnt
    · have herr := hover (.inr hov)
      have hpost : EachPost J w S0 h d.data.toList res (.returned (.tuple #[.int .i64 4, .int .i64 number])) w4 := ⟨l, S, hJ4, hkk4, hsub0, by rw [herr]⟩
      have tt : decide ((1200 : Int) < (total : Int) + (cnt : Int)) = true := decide_eq_true (by omega)
      clear hinv hfinv herr hover hnext hview4
      go_wp2
      exact bodyPost_ret (v := .tuple #[.int .i64 4, .int .i64 number]) (by simp [results, Try.results41, go_sem]) rfl hpost
    obtain ⟨f', hrest, hfinv'⟩ := hnext (by simp; omega)
    have tt : decide ((1200 : Int) < (total : Int) + (cnt : Int)) = false := decide_eq_false (by omega)
    obtain ⟨part, hpart⟩ : ∃ part, dk.extract 0 size = part := ⟨_, rfl⟩
    have hpl : part.data.toList = (d.data.toList.drop f).take size := by
      rw [← hpart, extract_list, ← hinv.data]
      simp
    have hpsz : part.size ≤ 6000 := by rw [← dlen, hpl, List.length_take, List.length_drop, dlen]; omega
    have hDn : ∀ q, (wr.heap.size ≤ q ∧ q < gF) → ¬ S q ∧ q < w4.heap.size := fun q hq => ⟨fun e => by have := hT.lt wr l S hinv.j q e; omega, by omega⟩
    have hle : l.length ≤ 6000 := by rw [hinv.num]; have := hfinv.2.2.1; have := hfinv.2.1; omega
    have HCALL : Calls Try.prog g (#[.string part, .slice (some ⟨lg, 0, none⟩) chs.length lcap] ++ lb) w4.drew (TakePost J w4.drew l S (part.data.toList, chs)) :=
      hT.call w4.drew l S _ part chs _ cnt total (hT.grow _ _ l S hJ4 (grown_drew (grown_refl _ _))) hview4 hDn HCL.out hcn hn2.1 hfinv.2.2.2.2.2.1 hfinv.2.2.2.2.1 (by omega) hle hpsz
    have hff : f' = f + size := by
      have h1 := congrArg List.length hrest
      rw [List.length_drop, List.length_drop, List.length_drop, dlen] at h1
      have := hfinv'.1
      have := HDK.out
      omega
    have hfls' := hinv.fls.next hpl (by rw [hinv.num]; exact HP.out) hcn hn2.2
    rw [← hff] at hfls'
    have HFLS : Hid _ := hfls'
    have HDATA : Hid (dk.data.toList = d.data.toList.drop f) := hinv.data
    have HPROD : Hid (number * h.block = nb) := hinv.prod
    have HNUM : Hid (l.length = number) := hinv.num
    have HREST : Hid ((d.data.toList.drop f).drop size = d.data.toList.drop f') := hrest
    have HPART : Hid (dk.extract 0 size = part) := hpart
    have HSUB : Hid (∀ b, S b → S0 b ∨ w.heap.size < b) := hinv.sub
    have hslt : ∀ b, S b → b < gF := fun b hb => by have := hT.lt wr l S hinv.j b hb; omega
    have hw4 : w.heap.size < gF := by have := hinv.inf.lt; omega
    have HP4 : dk.extract 0 size = part := hpart
    clear hov hover hnext hrest hpl hpsz hDn hle hview4 hJ4 hfls' hff hpart HP hinv hfinv
    go_upto_region 8 with fail
    go_cut [] (fun wx => TakePost J w4 l S (part.data.toList, chs) (.returned (.tuple #[])) wx)
    case first =>
      go_region_with (first
        | (go_at_fn g; refine HCALL.mono ?_; rintro e w5 ⟨rfl, hk5, S5, hJ5, hs5⟩))
      all_goals
        go_wp2
        go_meet
        case rel => exact ⟨rfl, ⟨hk5.os, hk5.tape, hk5.output, hk5.size, hk5.block⟩, S5, hJ5, hs5⟩
    case rest =>
      obtain ⟨_, hk5, S5, hJ5, hs5⟩ := hcut
      have hfr5 := hbF4.kp hk5 (fun e => by have := hslt gF e; omega)
      have hin5 := hinf4.kp hk5 (fun e => by
        rcases HSUB.out _ e with h1 | h1
        · have := hS0 _ h1; omega
        · omega)
      have f0 : wc.cell? ⟨gF, 0, none⟩ = some (.int .i64 size) := hfr5.cell 0
      have f1 : wc.cell? ⟨gF, 1, none⟩ = some (.int .i64 cnt) := hfr5.cell 1
      have hkk5 : Kp w wc S0 := hkk4.trans hk5 (fun b hb => by
        rcases HSUB.out b hb with h1 | h1
        · exact .inl h1
        · exact .inr (by omega))
      have hsub5 : ∀ b, S5 b → S0 b ∨ w.heap.size < b := fun b hb => by
        rcases hs5 b hb with h1 | h1
        · exact HSUB.out b h1
        · exact .inr (by have := hF4; omega)
      have hex : (dk.extract size dk.size).data.toList = d.data.toList.drop f' := by
        rw [extract_list, HDATA.out, HREST.out, List.take_of_length_le]
        rw [← HREST.out, ← HDATA.out, List.length_drop, dlen]
        omega
      have hinv' : EaInv J w wc S0 h d (dk.extract size dk.size) res (gk - 1) (number + 1) (total + cnt) (nb + h.block) f' (decide (cnt < h.block)) (l ++ [(part.data.toList, chs)]) S5 := by
        refine ⟨hkk5, hin5, hJ5, hsub5, by rw [joined_snoc]; exact hfinv', HFLS.out, by rw [List.length_append, HNUM.out]; rfl, hex, by rw [Nat.succ_mul, HPROD.out], ?_⟩
        have := HST.out
        by_cases hlt : cnt < h.block
        · simp [hlt]; omega
        · simp [hlt]; omega
      have hko : 0 < gk := by have := hfinv'.2.1; omega
      clear hex hkk5 hin5 hJ5 hsub5 hfr5 hk5 hs5 hfinv' hkk4 hinf4 hbF4
      go_wp2
      go_roundg (gk - 1)
      case measure => omega
      case rel => exact ⟨_, number + 1, total + cnt, nb + h.block, f', decide (cnt < h.block), _, S5, rfl, by go_num, by go_num, hinv'⟩
end Go.Proofs.Ytncmgnmcggkhnaa

namespace Go.Proofs.Ytncmgnmcggkhnaa
open Go.RowKit

def JoinPost (w : World) (gC base n : Nat) (vs : List Value) (acc chs : List (List Int)) (e : Ending) (w' : World) : Prop :=
  e = .returned (.tuple #[]) ∧ Kp w w' (ownsB gC vs) ∧ ∃ vs', CM w' gC base vs' (List.zipWith (· ++ ·) acc chs) ∧ vs'.length = n ∧ ∀ b, ownsB gC vs' b → ownsB gC vs b ∨ w.heap.size ≤ b

set_option maxHeartbeats 4000000 in
set_option maxRecDepth 20000 in
theorem qjoin (w : World) (gC base n : Nat) (D : Nat → Prop) (v : Value) (vs : List Value) (acc chs : List (List Int)) (hcm : CM w gC base vs acc) (hvl : vs.length = n) (hcl : chs.length = n) (hn : n ≤ 2) (hcb : gC < base) (hbw : base ≤ w.heap.size)
    (hview : Views w D v chs) (hD : ∀ q, D q → ¬ ownsB gC vs q ∧ q < w.heap.size)
    (hlen : ∀ j, j < n → 1 ≤ (chs.getD j []).length ∧ (acc.getD j []).length + (chs.getD j []).length ≤ 1200) :
    Calls Try.prog 43 #[.slice (some ⟨gC, 0, none⟩) n n, v] w (JoinPost w gC base n vs acc chs) := by
  obtain ⟨i0, hi, hz0, hz1, hz2⟩ := info_parts Try.info3
  have HI : Hid _ := hi
  have HZ0 : Hid _ := hz0
  have HZ1 : Hid _ := hz1
  have HZ2 : Hid _ := hz2
  clear hi hz0 hz1 hz2
  have hal : acc.length = n := by rw [hcm.len, hvl]
  have hinv : JoinInv w w gC base n D v vs acc chs 0 vs acc := ⟨hcm, hvl, Kp.refl _ _, fun b hb => .inl hb, hview, GrownUpto.start _ _ _ hal⟩
  obtain ⟨lg, lcap, rfl, hlc, hDlg, hlgl, _⟩ := hview
  have HCL : Hid (chs.length = n) := hcl
  have HAL : Hid (acc.length = n) := hal
  rw [hcl] at hlc
  rw [hcl] at hinv ⊢
  clear hcm hvl hcl hal
  go_enter Try.func43, Try.ntmps43
  go_wp2_with fail
  go_loopg [8] n (fun gq t8 wq => ∃ (k : Nat) (vs' : List Value) (acc' : List (List Int)), gq + k = n ∧ t8 = .int .i64 k ∧ JoinInv w wq gC base n D (.slice (some ⟨lg, 0, none⟩) n lcap) vs acc chs k vs' acc')
  case atStart => exact ⟨0, vs, acc, rfl, rfl, hinv⟩
  case round =>
    clear hinv
    obtain ⟨k, vs', acc', hgq, rfl, hinv⟩ := hrel
    by_cases hk : k < n
    · obtain ⟨lg', lcap', elg, _, _, _, hcells⟩ := hinv.view
      have elg1 : lg = lg' := by injection elg with e1; injection e1 with e1; injection e1 with e1
      subst elg1
      clear elg
      obtain ⟨g1, off, cap1, hDg, hgl, hlk, hcap1, hnews⟩ := hcells k (by rw [HCL.out]; exact hk)
      obtain ⟨hy1, hlen2⟩ := hlen k hk
      have hownk := hinv.cm.own k (by rw [hinv.len]; exact hk)
      have hacck : acc'.getD k [] = acc.getD k [] := by rw [hinv.up.2 k hk, if_neg (by omega)]
      rw [hacck] at hownk
      obtain ⟨a9, c9, hV⟩ := own_slice hownk
      obtain ⟨xs, hxs⟩ : ∃ xs, acc.getD k [] = xs := ⟨_, rfl⟩
      obtain ⟨ys, hys⟩ : ∃ ys, chs.getD k [] = ys := ⟨_, rfl⟩
      rw [hxs] at hV hownk hlen2
      rw [hys] at hlk hnews hlen2 hy1 hcap1
      obtain ⟨m1, hm1⟩ : ∃ m1, xs.length = m1 := ⟨_, rfl⟩
      obtain ⟨m2, hm2⟩ : ∃ m2, ys.length = m2 := ⟨_, rfl⟩
      rw [hm1] at hV hlen2
      rw [hm2] at hlk hlen2 hy1 hcap1
      have ck : wr.cell? ⟨gC, k, none⟩ = some (.slice a9 m1 c9) := by
        rw [hinv.cm.row.cell k, ← hV]
        simp [List.getD, show k < vs'.length by rw [hinv.len]; exact hk]
      have fk := hinv.cm.row.fz k
      have tk : decide ((k : Int) < (n : Int)) = true := decide_eq_true (by omega)
      have HOWN : Hid (wr.ownsRow base 3 1 (.slice a9 m1 c9) m1 (xs.map (Value.int .i64))) := by
        have h9 := hownk
        unfold Own at h9
        rw [hV, hm1] at h9
        exact h9
      have HNEWS : Hid (∀ j u, (ys.map (Value.int .i64))[j]? = some u → wr.cell? ((⟨g1, off, none⟩ : Addr).add j) = some u) := hnews
      have HINT : Hid (∀ u ∈ ys.map (Value.int .i64), u.oneCell' = true) := by
        intro u hu
        obtain ⟨x, _, rfl⟩ := List.mem_map.1 hu
        rfl
      have HLN : Hid ((ys.map (Value.int .i64)).length = m2 * 1) := by show _ = _; rw [List.length_map, hm2]; omega
      have HBS : Hid (base ≤ wr.heap.size) := by have := hinv.kp.size; exact Nat.le_trans hbw this
      have HIN : Hid (∀ w' g cap, wr.grownBy w' (Value.slice a9 m1 c9).ownBlock → w'.ownsRow base 3 1 (.slice (some ⟨g, 0, none⟩) (m1 + m2) cap) (m1 + m2) (xs.map (Value.int .i64) ++ ys.map (Value.int .i64)) →
          ((Value.slice a9 m1 c9).ownBlock = some g ∨ g = wr.heap.size) →
          JoinInv w (w'.setCell ⟨gC, k, none⟩ (.slice (some ⟨g, 0, none⟩) (m1 + m2) cap)) gC base n D (.slice (some ⟨lg, 0, none⟩) n lcap) vs acc chs (k + 1) (vs'.set k (.slice (some ⟨g, 0, none⟩) (m1 + m2) cap)) (acc'.set k (acc.getD k [] ++ chs.getD k []))) := by
        intro w' g cap hg' hown' hat'
        rw [← hV] at hg' hat'
        refine join_step hinv hcb hk hD hg' ?_ hat'
        unfold Own
        rw [hxs, hys, List.map_append, List.length_append, hm1, hm2]
        exact hown'
      have HNC : Hid (some gC ≠ (Value.slice a9 m1 c9).ownBlock) := by
        intro e
        rw [← hV] at e
        have := (hownk.lt gC e.symm).1
        omega
      have HCK : Hid (wr.cell? ⟨gC, k, none⟩ = some (.slice a9 m1 c9)) := ck
      have HFK : Hid (wr.frozen? ⟨gC, k, none⟩ = false) := fk
      have HCLT : Hid (gC < wr.heap.size) := hinv.cm.row.lt
      clear hxs hys hm1 hm2 hownk hV hacck hcells hinv hnews hlen hcap1 hDg hgl
      go_wp2_with (first
        | (at_builtin; refine wpList_append_lies _ rfl _ _ 30 rfl base 3 i0 (.int .i64 0) 1 8 Try.underlying30 HI.out HZ0.out HZ1.out HZ2.out rfl (by decide) (.slice a9 m1 c9) m1 (xs.map (Value.int .i64)) rfl HOWN.out ⟨g1, off, none⟩ m2 cap1 (ys.map (Value.int .i64)) rfl HLN.out HNEWS.out HINT.out ?c1 ?c2 ?c3 ?c4 _ rfl ?_))
      case c1 => omega
      case c2 => unfold maxLen; omega
      case c3 => omega
      case c4 => exact HBS.out
      intro g cap w' hown' hgrow hat' hlt'
      have hin := HIN.out w' g cap hgrow hown' hat'
      have q2 : w'.cell? ⟨gC, k, none⟩ = some (.slice a9 m1 c9) := hgrow.cell HCK.out HNC.out
      have q3 : w'.frozen? ⟨gC, k, none⟩ = false := (World.frozen?_of_block (a := ⟨gC, k, none⟩) (hgrow.block gC HCLT.out HNC.out)).trans HFK.out
      clear hown' hgrow hat' hlt' HIN HOWN HNEWS ck fk hlk
      go_wp2
      go_roundg (gk - 1)
      case measure => omega
      case rel => exact ⟨k + 1, _, _, by omega, by go_num, hin⟩
    · have hke : k = n := by omega
      have hall := (hke ▸ hinv.up : GrownUpto acc chs acc' n n).all HAL.out HCL.out
      subst hall
      have hpost : JoinPost w gC base n vs acc chs (.returned (.tuple #[])) wr := ⟨rfl, hinv.kp, vs', hinv.cm, hinv.len, hinv.sub⟩
      have tk : decide ((k : Int) < (n : Int)) = false := decide_eq_false (by omega)
      clear hinv hke hgq
      go_wp2
      exact bodyPost_end (v := .tuple #[]) (by simp [results, Try.results43, go_sem]) rfl hpost
end Go.Proofs.Ytncmgnmcggkhnaa
