import Derived.Test.YtodbbdknkffceaaDecProofJ26
import Derived.Deep.RegionLaw
import Derived.BigRegion
import Derived.Deep.DeepCutAuto
import Derived.Deep.CutBlock
import Derived.Deep.LoopGhost
namespace Go.Proofs.Ytodbbdknkffceaa
open Go.RowKit

theorem CM.grow {wr w1 : World} {gC base : Nat} {vs : List Value} {acc : List (List Int)} (hm : CM wr gC base vs acc) (hcb : gC < base) {i g cap n : Nat} {zs : List Int} (hi : i < vs.length)
    (hg : wr.grownBy w1 (vs.getD i undef).ownBlock) (hown : Own w1 base (.slice (some ⟨g, 0, none⟩) n cap) zs) (hat : (vs.getD i undef).ownBlock = some g ∨ g = wr.heap.size) :
    CM (w1.setCell ⟨gC, i, none⟩ (.slice (some ⟨g, 0, none⟩) n cap)) gC base (vs.set i (.slice (some ⟨g, 0, none⟩) n cap)) (acc.set i zs) ∧ w1.grownBy (w1.setCell ⟨gC, i, none⟩ (.slice (some ⟨g, 0, none⟩) n cap)) (some gC) := by
  have hal := hm.len
  have hvlt : ∀ j q, j < vs.length → (vs.getD j undef).ownBlock = some q → base ≤ q ∧ q < wr.heap.size := fun j q hj hq => (hm.own j hj).lt q hq
  have hne : ∀ k, k < base → some k ≠ (vs.getD i undef).ownBlock := fun k hk e => by have := (hvlt i k hi e.symm).1; omega
  have hs := grown_set w1 gC i (.slice (some ⟨g, 0, none⟩) n cap)
  have hgb : base ≤ g := (hown.lt g rfl).1
  refine ⟨⟨?_, ?_, ?_, ?_⟩, hs⟩
  · have := (hm.row.kept hg (hne gC hcb)).set i (.slice (some ⟨g, 0, none⟩) n cap)
    rw [List.setIfInBounds_toArray] at this
    exact this
  · rw [List.length_set, List.length_set]; exact hm.len
  · intro j hj
    rw [List.length_set] at hj
    by_cases hij : i = j
    · subst hij
      rw [getD_set_eq _ _ _ _ hi, getD_set_eq _ _ _ _ (by omega)]
      have hgc : Value.ownBlock (.slice (some ⟨g, 0, none⟩) n cap) ≠ some gC := fun e => by
        have e' : g = gC := by simpa [Value.ownBlock] using e
        omega
      exact World.ownsRow.kept hown hs (.inr hgc)
    · rw [getD_set_ne _ _ _ _ _ hij, getD_set_ne _ _ _ _ _ hij]
      have h1 := hm.own j hj
      have h2 : Own w1 base (vs.getD j undef) (acc.getD j []) := by
        refine World.ownsRow.kept h1 hg ?_
        cases hq : (vs.getD j undef).ownBlock with
        | none => exact .inl rfl
        | some q =>
          refine .inr (fun e => ?_)
          rcases Nat.lt_or_gt_of_ne hij with hlt | hlt
          · exact hm.apartV i j q hlt hj e.symm hq
          · exact hm.apartV j i q hlt hi hq e.symm
      refine World.ownsRow.kept h2 hs ?_
      cases hq : (vs.getD j undef).ownBlock with
      | none => exact .inl rfl
      | some q => exact .inr (fun e => by injection e with e; have := (hvlt j q hj hq).1; omega)
  · intro j k q hjk hk hq
    rw [List.length_set] at hk
    by_cases hij : i = j
    · subst hij
      rw [getD_set_eq _ _ _ _ (by omega)] at hq
      have e' : g = q := by simpa [Value.ownBlock] using hq
      subst e'
      rw [getD_set_ne _ _ _ _ _ (by omega)]
      intro e
      rcases hat with hat | hat
      · exact hm.apartV i k g hjk hk hat e
      · have := (hvlt k g hk e).2; omega
    · rw [getD_set_ne _ _ _ _ _ hij] at hq
      by_cases hik : i = k
      · subst hik
        rw [getD_set_eq _ _ _ _ hk]
        intro e
        have e' : g = q := by simpa [Value.ownBlock] using e
        subst e'
        rcases hat with hat | hat
        · exact hm.apartV j i g hjk hk hq hat
        · have := (hvlt j g (by omega) hq).2; omega
      · rw [getD_set_ne _ _ _ _ _ hik]
        exact hm.apartV j k q hjk hk hq


/-- the loop over the channels, at channel `k` -/
def In2 (w wq : World) (gC gF base B1 : Nat) (h : Head) (fv v : Value) (acc chs : List (List Int)) (size cnt k : Nat) : Prop :=
  ∃ (acc' : List (List Int)) (vs' : List Value), CM wq gC base vs' acc' ∧ vs'.length = h.channels ∧ w.grownBy wq none ∧ Box wq w.heap.size (headC h) 57 ∧ Box wq gF #[.int .i64 size, .int .i64 cnt, fv] 93 ∧ base ≤ wq.heap.size ∧ Chs wq B1 v chs ∧
    GrownUpto acc chs acc' h.channels k ∧ ∀ j q, k ≤ j → j < h.channels → (vs'.getD j undef).ownBlock = some q → q < B1

theorem in2_step {w wq w1 : World} {gC gF base B1 : Nat} {h : Head} {fv v : Value} {acc chs acc' : List (List Int)} {vs' : List Value} {size cnt k g cap n : Nat}
    (hcb : gC < base) (hwc : w.heap.size < gC) (hwb : w.heap.size < base) (hfb : B1 ≤ gF) (hB : base ≤ B1) (hk : k < h.channels) (hm : CM wq gC base vs' acc') (hvl : vs'.length = h.channels) (hgw : w.grownBy wq none) (hinf : Box wq w.heap.size (headC h) 57)
    (hfr : Box wq gF #[.int .i64 size, .int .i64 cnt, fv] 93) (hbs : base ≤ wq.heap.size) (hchs : Chs wq B1 v chs)
    (hup : GrownUpto acc chs acc' h.channels k) (hF : ∀ j q, k ≤ j → j < h.channels → (vs'.getD j undef).ownBlock = some q → q < B1)
    (hg : wq.grownBy w1 (vs'.getD k undef).ownBlock) (hown : Own w1 base (.slice (some ⟨g, 0, none⟩) n cap) (acc.getD k [] ++ chs.getD k [])) (hat : (vs'.getD k undef).ownBlock = some g ∨ g = wq.heap.size) :
    In2 w (w1.setCell ⟨gC, k, none⟩ (.slice (some ⟨g, 0, none⟩) n cap)) gC gF base B1 h fv v acc chs size cnt (k + 1) := by
  have hstep := hm.grow hcb (zs := acc.getD k [] ++ chs.getD k []) (by omega) hg hown hat
  have hs := hstep.2
  have hlt : ∀ q, (vs'.getD k undef).ownBlock = some q → base ≤ q ∧ q < B1 := fun q hq => ⟨((hm.own k (by omega)).lt q hq).1, hF k q (Nat.le_refl _) hk hq⟩
  refine ⟨_, _, hstep.1, by rw [List.length_set]; exact hvl, grown_new (grown_new hgw hg (fun q e => by have := (hlt q e).1; omega)) hs (fun q e => by injection e with e; omega), ?_, ?_, Nat.le_trans (Nat.le_trans hbs hg.size) hs.size, (hchs.kept hg (fun q e => (hlt q e).2)).kept hs (fun q e => by injection e with e; omega), hup.step hk, fun j q hj hj2 hq => ?_⟩
  · exact (hinf.kept hg (fun e => by have := (hlt _ e.symm).1; omega)).kept hs (fun e => by injection e with e; omega)
  · exact (hfr.kept hg (fun e => by have := (hlt _ e.symm).2; omega)).kept hs (fun e => by injection e with e; omega)
  · rw [getD_set_ne _ _ _ _ _ (by omega)] at hq
    exact hF j q (by omega) hj2 hq
end Go.Proofs.Ytodbbdknkffceaa

namespace Go.Proofs.Ytodbbdknkffceaa
open Go.RowKit

def FrsPost (w : World) (res : Except Nat (List (List Int))) (e : Ending) (w' : World) : Prop :=
  w.grownBy w' none ∧ match res with
    | .error k => e = .returned (.tuple #[.slice none 0 0, .int .i64 k, .bool false])
    | .ok chs => ∃ lv vs, e = .returned (.tuple #[lv, .int .i64 0, .bool true]) ∧ Subs w' w.heap.size lv vs chs

/-- what the loop over the frames knows -/
structure FrInv (w wr : World) (gC base : Nat) (h : Head) (d dk : ByteArray) (res : Except Nat (List (List Int))) (gk number total nb f : Nat) (ended : Bool) (acc : List (List Int)) (vs : List Value) : Prop where
  grow : w.grownBy wr none
  inf : Box wr w.heap.size (headC h) 57
  mem : CM wr gC base vs acc
  vl : vs.length = h.channels
  big : base ≤ wr.heap.size
  at_ : FInv h d res gk number total ended acc f
  data : dk.data.toList = d.data.toList.drop f
  prod : number * h.block = nb
  stop : if ended then total < nb else total = nb

set_option maxHeartbeats 8000000 in
set_option maxRecDepth 20000 in
theorem qreadframes (w : World) (d : ByteArray) (h : Head) (res : Except Nat (List (List Int))) (hd : d.size ≤ 6000) (hc1 : 1 ≤ h.channels) (hc2 : h.channels ≤ 2) (hb1 : 4 ≤ h.bits) (hb2 : h.bits ≤ 16) (hblk : h.block ≤ 256)
    (hres : frames h (d.size + 1) 0 0 false (List.replicate h.channels []) d.data.toList = res) :
    Calls Try.prog 31 #[.string d, .agg (headC h)] w (FrsPost w res) := by
  obtain ⟨i1, hi, hz0, hz1, hz2⟩ := info_parts Try.info30
  have hd0 : d.data.toList.drop 0 = d.data.toList := rfl
  have hfinv : FInv h d res (d.size + 1) 0 0 false (List.replicate h.channels []) 0 :=
      ⟨by omega, by omega, by omega, by omega, by simp, fun j hj => by simp [List.getD, hj], by rw [hd0]; exact hres.symm⟩
  clear hres
  unfold headC
  go_enter Try.func31, Try.ntmps31
  go_upto_region 1 with fail
  obtain ⟨w0, hw0⟩ : ∃ w0, w.alloc (.cells #[Value.int .i64 h.block, .int .i64 h.rate, .int .i64 h.channels, .int .i64 h.bits, .int .i64 h.total] 57) = w0 := ⟨_, rfl⟩
  have hg0 : w.grownBy w0 none := by rw [← hw0]; exact grown_alloc (grown_refl _ _) _
  have hbI0 : Box w0 w.heap.size (headC h) 57 := by rw [← hw0]; exact Box.new _ _ _
  have hs0 : w0.heap.size = w.heap.size + 1 := by rw [← hw0]; simp
  rw [hw0]
  clear hw0
  have c2 : w0.cell? ⟨w.heap.size, 2, none⟩ = some (.int .i64 h.channels) := hbI0.cell 2
  go_wp2_with (first
    | (at_make; refine wpList_make_full _ rfl _ _ 24 rfl w0.heap.size 30 i1 (.slice none 0 0) 1 Try.underlying24 hi hz0 hz1 _ _ _ _ h.channels rfl rfl rfl rfl ?m1 ?m2 ?m3 ?_))
  case m1 => rw [hz2]; omega
  case m2 => unfold maxLen; omega
  case m3 => exact Nat.le_refl _
  intro w1 hmade hg1
  have hboxC : Box w1 (w.heap.size + 1) (List.replicate h.channels (Value.slice none 0 0)).toArray 30 := by
    rcases hmade.2 with ⟨e, _⟩ | ⟨g, cap, cur, e, _, hblk, _, _, hcs, htake⟩
    · cases e
    · simp only [Value.slice.injEq, Option.some.injEq, Addr.mk.injEq, and_true, true_and] at e
      obtain ⟨rfl, rfl⟩ := e
      rw [Nat.mul_one] at hcs htake
      have hr := replicate_of_made hcs htake
      rw [← hr]
      exact hblk
  have hlt1 := hboxC.lt
  obtain ⟨gC, hgC⟩ : ∃ gC, gC = w.heap.size + 1 := ⟨_, rfl⟩
  obtain ⟨base, hbase⟩ : ∃ base, base = gC + 1 := ⟨_, rfl⟩
  have hinv : FrInv w w1 gC base h d d res (d.size + 1) 0 0 0 0 false (List.replicate h.channels []) (List.replicate h.channels (.slice none 0 0)) := by
    have hm := CM.start w1 gC base h.channels (by rw [hgC]; exact hboxC)
    have e1 : fillV h.channels [] = List.replicate h.channels (Value.slice none 0 0) := by simp [fillV]
    have e2 : fillX h.channels [] = List.replicate h.channels [] := by simp [fillX]
    rw [e1, e2] at hm
    exact ⟨grown_trans hg0 hg1, hbI0.kept hg1 (by simp), hm, by simp, by omega, hfinv, rfl, by omega, by simp⟩
  have hwc : w.heap.size < gC := by omega
  have hcb : gC < base := by omega
  have hwb : w.heap.size < base := by omega
  rw [← hgC]
  clear hmade hg1 hboxC hg0 hbI0 hs0 c2 hi hz0 hz1 hz2 hlt1 hgC hbase hfinv hd0
  go_wp2_with fail
  go_loopg [0, 8, 9] (d.size + 1) (fun gk t0 t8 t9 wr => ∃ (dk : ByteArray) (number total nb f : Nat) (ended : Bool) (acc : List (List Int)) (vs : List Value), t0 = .string dk ∧ t8 = .int .i64 number ∧ t9 = .int .i64 total ∧
      FrInv w wr gC base h d dk res gk number total nb f ended acc vs)
  case atStart => exact ⟨d, 0, 0, 0, 0, false, _, _, rfl, rfl, rfl, hinv⟩
  case round =>
    clear hinv
    obtain ⟨dk, number, total, nb, f, ended, acc, vs, rfl, rfl, rfl, hinv⟩ := hrel
    have hfinv := hinv.at_
    have hfl := hfinv.1
    have hnum : number ≤ 6001 := by have := hfinv.2.2.1; omega
    have htot := hfinv.2.2.2.1
    have hdk : dk.size = d.size - f := by rw [← dlen, hinv.data, List.length_drop, dlen]
    by_cases hf : f < d.size
    rotate_left
    · have hok := hfinv.stop (by omega)
      have hvl := hinv.vl
      have hsubs := hinv.mem.subs (base' := w.heap.size) (by omega) hcb (by omega)
      rw [hvl] at hsubs
      have hpost : FrsPost w res (.returned (.tuple #[.slice (some ⟨gC, 0, none⟩) h.channels h.channels, .int .i64 0, .bool true])) wr := ⟨hinv.grow, by rw [hok]; exact ⟨_, vs, rfl, hsubs⟩⟩
      have hds : dk.size = 0 := by omega
      clear hinv hfinv hok hsubs hdk hvl
      go_wp2
      exact bodyPost_ret (v := .tuple #[.slice (some ⟨gC, 0, none⟩) h.channels h.channels, .int .i64 0, .bool true]) (by simp [results, Try.results31, go_sem]) rfl hpost
    have hstop := hinv.stop
    have hnb : nb ≤ 2000000 := by rw [← hinv.prod]; exact Nat.le_trans (Nat.mul_le_mul hnum hblk) (by omega)
    have hmul : (number : Int) * (h.block : Int) = (nb : Int) := by rw [← hinv.prod]; simp
    have hpos : 0 < dk.size := by omega
    have tpos : decide (0 < dk.size) = true := decide_eq_true hpos
    have c0 : wr.cell? ⟨w.heap.size, 0, none⟩ = some (.int .i64 h.block) := hinv.inf.cell 0
    have c1 : wr.cell? ⟨w.heap.size, 1, none⟩ = some (.int .i64 h.rate) := hinv.inf.cell 1
    have c2 : wr.cell? ⟨w.heap.size, 2, none⟩ = some (.int .i64 h.channels) := hinv.inf.cell 2
    have c3 : wr.cell? ⟨w.heap.size, 3, none⟩ = some (.int .i64 h.bits) := hinv.inf.cell 3
    have c4 : wr.cell? ⟨w.heap.size, 4, none⟩ = some (.int .i64 h.total) := hinv.inf.cell 4
    have hdk2 : dk.size ≤ 6000 := by omega
    cases ended
    rotate_left
    · have hst : total < nb := by simpa using hstop
      have hne : ((total : Int) != (nb : Int)) = true := by simp; omega
      have herr : res = .error number := by
        cases hp : pFrame h number (d.data.toList.drop f) with
        | none => exact hfinv.none hf hp
        | some x => obtain ⟨chs, rest⟩ := x; exact hfinv.over hf hp (.inl rfl)
      have hpost : FrsPost w res (.returned (.tuple #[.slice none 0 0, .int .i64 number, .bool false])) wr := ⟨hinv.grow, by rw [herr]⟩
      clear hinv hfinv herr hstop hdk
      go_wp2
      exact bodyPost_ret (v := .tuple #[.slice none 0 0, .int .i64 number, .bool false]) (by simp [results, Try.results31, go_sem]) rfl hpost
    have hst : total = nb := by simpa using hstop
    have hne : ((total : Int) != (nb : Int)) = false := by simp; omega
    have HST : Hid (total = nb) := hst
    have HDK : Hid (dk.size = d.size - f) := hdk
    have HRD := qreadframe wr dk h number hdk2 hc1 hc2 hb1 hb2 hblk
    unfold headC at HRD
    clear hst hdk hstop
    go_wp2_with fail
    refine HRD.mono ?_
    rintro e w3 ⟨hg3, size, cnt, v, ok, rfl, hcase⟩
    clear HRD c0 c1 c2 c3 c4 hne hmul
    rw [hinv.data] at hcase
    have hgg3 := grown_trans hinv.grow hg3
    rcases hcase with ⟨rfl, chs, cvs, hp, hsz, hsubs, hcn⟩ | ⟨rfl, rfl, rfl, hp⟩
    rotate_left
    · have herr := hfinv.none hf hp
      have hpost : FrsPost w res (.returned (.tuple #[.slice none 0 0, .int .i64 number, .bool false])) (w3.alloc (.cells #[.int .i64 size, .int .i64 0, .slice none 0 0] 93)) := ⟨grown_alloc hgg3 _, by rw [herr]⟩
      clear hinv hfinv herr hp
      go_wp2
      exact bodyPost_ret (v := .tuple #[.slice none 0 0, .int .i64 number, .bool false]) (by simp [results, Try.results31, go_sem]) rfl hpost
    have hsp := pFrame_spec hp
    have hcl := hsp.1
    have hn2 : 1 ≤ cnt ∧ cnt ≤ h.block := by
      obtain ⟨_, n', k', h1, h2, h3, _⟩ := hsp
      have : n' = cnt := by rw [← hcn 0 (by omega), h3 0 (by omega)]
      omega
    have hc0 : (chs.getD 0 []).length = cnt := hcn 0 (by omega)
    have hchs := hsubs.chs (base' := wr.heap.size) (Nat.le_refl _) (by omega) (fun j hj => by rw [hcn j (by omega)]; exact hn2.1)
    have hchs' := hchs
    obtain ⟨lg, lcap, rfl, hlg, hcells⟩ := hchs'
    have hover := fun ho => hfinv.over hf hp ho
    have hnext := fun ho => hfinv.next hc1 hf hp ho
    rw [hc0] at hover hnext
    have HCL : Hid (chs.length = h.channels) := hcl
    clear hsp hcells hp hc0 hsubs hcl
    obtain ⟨w4, hw4⟩ : ∃ w4, w3.alloc (.cells #[.int .i64 size, .int .i64 cnt, .slice (some ⟨lg, 0, none⟩) chs.length lcap] 93) = w4 := ⟨_, rfl⟩
    obtain ⟨gF, hgF⟩ : ∃ gF, w3.heap.size = gF := ⟨_, rfl⟩
    have hg4 : w3.grownBy w4 none := by rw [← hw4]; exact grown_alloc (grown_refl _ _) _
    have hbF4 : Box w4 gF #[.int .i64 size, .int .i64 cnt, .slice (some ⟨lg, 0, none⟩) chs.length lcap] 93 := by rw [← hgF, ← hw4]; exact Box.new _ _ _
    have hgg4 := grown_trans hgg3 hg4
    have hgr4 := grown_trans hg3 hg4
    have hchs4 := hchs.kept hg4 (fun q e => by cases e)
    have hF3 : wr.heap.size ≤ gF := by rw [← hgF]; exact hg3.size
    have HW4 : Hid (w3.alloc (.cells #[.int .i64 size, .int .i64 cnt, .slice (some ⟨lg, 0, none⟩) chs.length lcap] 93) = w4) := hw4
    have HGF : Hid (w3.heap.size = gF) := hgF
    clear hw4 hgF hchs hg3 hg4 hgg3
    go_upto_region 7 with fail
    rw [HW4.out, HGF.out]
    clear HW4 HGF
    have f0 : w4.cell? ⟨gF, 0, none⟩ = some (.int .i64 size) := hbF4.cell 0
    have f1 : w4.cell? ⟨gF, 1, none⟩ = some (.int .i64 cnt) := hbF4.cell 1
    by_cases hov : 1200 < total + cnt
    · have herr := hover (.inr hov)
      have hpost : FrsPost w res (.returned (.tuple #[.slice none 0 0, .int .i64 number, .bool false])) w4 := ⟨hgg4, by rw [herr]⟩
      have tt : decide ((1200 : Int) < (total : Int) + (cnt : Int)) = true := decide_eq_true (by omega)
      clear hinv hfinv herr hover hnext hchs4
      go_wp2
      exact bodyPost_ret (v := .tuple #[.slice none 0 0, .int .i64 number, .bool false]) (by simp [results, Try.results31, go_sem]) rfl hpost
    obtain ⟨f', hrest, hfinv'⟩ := hnext (by simp; omega)
    have tt : decide ((1200 : Int) < (total : Int) + (cnt : Int)) = false := decide_eq_false (by omega)
    obtain ⟨B1, hB1⟩ : ∃ B1, wr.heap.size = B1 := ⟨_, rfl⟩
    have hBB : base ≤ B1 := by have := hinv.big; omega
    rw [hB1] at hchs4 hF3
    have hal := hfinv.2.2.2.2.1
    have hac := hfinv.2.2.2.2.2.1
    have hvl := hinv.vl
    have hin0 : In2 w w4 gC gF base B1 h (.slice (some ⟨lg, 0, none⟩) chs.length lcap) (.slice (some ⟨lg, 0, none⟩) chs.length lcap) acc chs size cnt 0 := by
      refine ⟨acc, vs, ⟨hinv.mem.row.kept hgr4 (by simp), hinv.mem.len, fun i hi => World.ownsRow.kept (hinv.mem.own i hi) hgr4 ?_, hinv.mem.apartV⟩, hvl, hgg4, hinv.inf.kept hgr4 (by simp), hbF4, by have := hgr4.size; omega, hchs4, GrownUpto.start _ _ _ hal, fun j q _ hj hq => by have := ((hinv.mem.own j (by rw [hvl]; exact hj)).lt q hq).2; omega⟩
      cases hq : (vs.getD i undef).ownBlock with
      | none => exact .inl rfl
      | some q => exact .inr (by simp)
    have HDATA : Hid (dk.data.toList = d.data.toList.drop f) := hinv.data
    have HPROD : Hid (number * h.block = nb) := hinv.prod
    have HREST : Hid ((d.data.toList.drop f).drop size = d.data.toList.drop f') := hrest
    clear hov hover hnext hbF4 hgg4 hgr4 hchs4 hinv hfinv hB1 hrest f0
    go_wp2_with fail
    obtain ⟨wo, rfl⟩ : ∃ wo : World, wo = wr := ⟨_, rfl⟩
    obtain ⟨ko, rfl⟩ : ∃ ko : Nat, ko = gk := ⟨_, rfl⟩
    go_loopg [45] h.channels (fun gq i wq => ∃ k : Nat, gq + k = h.channels ∧ i = .int .i64 k ∧ In2 w wq gC gF base B1 h (.slice (some ⟨lg, 0, none⟩) chs.length lcap) (.slice (some ⟨lg, 0, none⟩) chs.length lcap) acc chs size cnt k)
    case atStart => exact ⟨0, rfl, rfl, hin0⟩
    case round =>
      clear hin0 f1
      obtain ⟨k, hgq, rfl, acc', vs', hm, hvl', hgw, hinf, hfr, hbs, hchs, hup, hF⟩ := hrel
      by_cases hk : k < h.channels
      · have hchs2 := hchs
        obtain ⟨lg', lcap', elg, hlg', hcells⟩ := hchs2
        obtain ⟨rfl, rfl⟩ : lg = lg' ∧ lcap = lcap' := by injection elg with e1 e2 e3; injection e1 with e1; injection e1 with e1; exact ⟨e1, e3⟩
        clear elg
        obtain ⟨g1, cap1, hlk, hrowk⟩ := hcells k (by rw [HCL.out]; exact hk)
        have hcnk := hcn k hk
        rw [hcnk] at hlk hrowk
        have hownk := hm.own k (by rw [hvl']; exact hk)
        have hacck : acc'.getD k [] = acc.getD k [] := by rw [hup.2 k hk, if_neg (by omega)]
        have hownk' := hownk
        rw [hacck] at hownk'
        obtain ⟨a9, c9, hV⟩ := own_slice hownk'
        rw [hac k hk] at hV
        have ck : wr.cell? ⟨gC, k, none⟩ = some (.slice a9 total c9) := by
          rw [hm.row.cell k, ← hV]
          simp [List.getD, show k < vs'.length by rw [hvl']; exact hk]
        have fk := hm.row.fz k
        have o2 : wr.cell? ⟨gF, 2, none⟩ = some (.slice (some ⟨lg, 0, none⟩) chs.length lcap) := hfr.cell 2
        have hlenk : (k : Int) < (chs.length : Int) := by have := HCL.out; omega
        obtain ⟨i0, hi, hz0, hz1, hz2⟩ := info_parts Try.info3
        have HI : Hid _ := hi
        have HZ0 : Hid _ := hz0
        have HZ1 : Hid _ := hz1
        have HZ2 : Hid _ := hz2
        clear hi hz0 hz1 hz2
        obtain ⟨xs, hxs⟩ : ∃ xs, acc.getD k [] = xs := ⟨_, rfl⟩
        obtain ⟨ys, hys⟩ : ∃ ys, chs.getD k [] = ys := ⟨_, rfl⟩
        have hxl : xs.length = total := by rw [← hxs]; exact hac k hk
        have hyl : ys.length = cnt := by rw [← hys]; exact hcnk
        rw [hys] at hrowk
        have HOWN : Hid (wr.ownsRow base 3 1 (.slice a9 total c9) total (xs.map (Value.int .i64))) := by
          have h9 := hownk'
          unfold Own at h9
          rw [hV, hxs, hxl] at h9
          exact h9
        have HNEWS : Hid (∀ j u, (ys.map (Value.int .i64))[j]? = some u → wr.cell? ((⟨g1, 0, none⟩ : Addr).add j) = some u) := row_news hrowk
        have HINT : Hid (∀ u ∈ ys.map (Value.int .i64), u.oneCell' = true) := by
          intro u hu
          obtain ⟨x, _, rfl⟩ := List.mem_map.1 hu
          rfl
        have HLN : Hid ((ys.map (Value.int .i64)).length = cnt * 1) := by show _ = _; rw [List.length_map, hyl]; omega
        have hvne : ∀ q, q < base → some q ≠ (Value.slice a9 total c9).ownBlock := by
          intro q hq e
          rw [← hV] at e
          have := (hownk.lt q e.symm).1
          omega
        have HNC : Hid (some gC ≠ (Value.slice a9 total c9).ownBlock) := hvne gC hcb
        have HIN : Hid (∀ w' g cap, wr.grownBy w' (Value.slice a9 total c9).ownBlock → w'.ownsRow base 3 1 (.slice (some ⟨g, 0, none⟩) (total + cnt) cap) (total + cnt) (xs.map (Value.int .i64) ++ ys.map (Value.int .i64)) →
            ((Value.slice a9 total c9).ownBlock = some g ∨ g = wr.heap.size) → In2 w (w'.setCell ⟨gC, k, none⟩ (.slice (some ⟨g, 0, none⟩) (total + cnt) cap)) gC gF base B1 h (.slice (some ⟨lg, 0, none⟩) chs.length lcap) (.slice (some ⟨lg, 0, none⟩) chs.length lcap) acc chs size cnt (k + 1)) := by
          intro w' g cap hg' hown' hat'
          rw [← hV] at hg' hat'
          refine in2_step hcb hwc hwb hF3 hBB hk hm hvl' hgw hinf hfr hbs hchs hup hF hg' ?_ hat'
          unfold Own
          rw [hxs, hys, List.map_append, List.length_append, hxl, hyl]
          exact hown'
        have HCK : Hid (wr.cell? ⟨gC, k, none⟩ = some (.slice a9 total c9)) := ck
        have HFK : Hid (wr.frozen? ⟨gC, k, none⟩ = false) := fk
        have HCLT : Hid (gC < wr.heap.size) := hm.row.lt
        clear hxs hys hxl hyl hownk hownk' hV hacck hvne hrowk hcnk hcells hchs hm hup hF hfr hinf hgw hcn hac hal hfinv'
        go_upto_region 12 with fail
        go_region_law ((refine step_append_lies _ rfl (.tmp 53) (.tmp 58) 30 rfl base 3 i0 (.int .i64 0) 1 8 Try.underlying30 HI.out HZ0.out HZ1.out HZ2.out rfl (by decide) (.slice a9 total c9) total (xs.map (Value.int .i64)) (by simp [Act.eval]) HOWN.out ⟨g1, 0, none⟩ cnt cap1 (ys.map (Value.int .i64)) (by simp [Act.eval]) HLN.out HNEWS.out HINT.out (by omega) (by unfold maxLen; omega) (by omega) hbs _ rfl ?_; intro g cap w' hown' hgrow hat' hlt'; have q2 : w'.cell? ⟨gC, k, none⟩ = some (.slice a9 total c9) := hgrow.cell HCK.out HNC.out; have q3 : w'.frozen? ⟨gC, k, none⟩ = false := (World.frozen?_of_block (a := ⟨gC, k, none⟩) (hgrow.block gC HCLT.out HNC.out)).trans HFK.out))
        all_goals
          have hin := HIN.out w' g cap ⟨hgrow.os, hgrow.tape, hgrow.output, hgrow.size, hgrow.block⟩ hown' hat'
          clear hown' hgrow hat' hlt' q2 q3 HIN HOWN HNEWS
          go_wp2
          go_roundg (gk - 1)
          case measure => omega
          case rel => exact ⟨k + 1, by omega, by go_num, hin⟩
      · have hke : k = h.channels := by omega
        have hall := (hke ▸ hup : GrownUpto acc chs acc' h.channels h.channels).all hal HCL.out
        subst hall
        have f0 : wr.cell? ⟨gF, 0, none⟩ = some (.int .i64 size) := hfr.cell 0
        have f1 : wr.cell? ⟨gF, 1, none⟩ = some (.int .i64 cnt) := hfr.cell 1
        have tk : decide ((k : Int) < (h.channels : Int)) = false := decide_eq_false (by omega)
        have hex : (dk.extract size dk.size).data.toList = d.data.toList.drop f' := by
          rw [extract_list, HDATA.out, HREST.out, List.take_of_length_le]
          rw [← HREST.out, ← HDATA.out, List.length_drop, dlen]
          omega
        have hinv' : FrInv w wr gC base h d (dk.extract size dk.size) res (ko - 1) (number + 1) (total + cnt) (nb + h.block) f' (decide (cnt < h.block)) (List.zipWith (· ++ ·) acc chs) vs' := by
          refine ⟨hgw, hinf, hm, hvl', hbs, hfinv', hex, by rw [Nat.succ_mul, HPROD.out], ?_⟩
          have := HST.out
          by_cases hlt : cnt < h.block
          · simp [hlt]; omega
          · simp [hlt]; omega
        have hko : 0 < ko := by have := hfinv'.2.1; omega
        clear hex hgw hinf hm hup hfr hchs hF hfinv'
        go_wp2
        go_roundg (ko - 1)
        case measure => omega
        case rel => exact ⟨_, number + 1, total + cnt, nb + h.block, f', decide (cnt < h.block), _, vs', rfl, by go_num, by go_num, hinv'⟩
end Go.Proofs.Ytodbbdknkffceaa
