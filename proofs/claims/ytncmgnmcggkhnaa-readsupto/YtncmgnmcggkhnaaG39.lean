import Derived.Test.YtncmgnmcggkhnaaG34
import Derived.Maps.OwnSet
import Derived.Test.YtncmgnmcggkhnaaG33
import Derived.Deep.DeepCutAuto
import Derived.Deep.CutBlock
namespace Go.Proofs.Ytncmgnmcggkhnaa
open Go.RowKit Go.ChangeMaps Go.MapKept

theorem law_int : Maps.Keyed Try.prog 3 := Maps.int_keyed Try.underlying3
theorem und_map : Try.prog.underlying 106 = some (.map 3 24) := by kernel_rfl
theorem zero_rows (w : World) : (zeroValue 24).run Try.prog w = .ok (.slice none 0 0) w := by kernel_rfl

/-- an element is read as itself -/
def heldR (v : Value) : Option (DataW Value × List MemPlace) := some (.held v, [])

theorem fits_i64 {a : Int} (h : -9223372036854775808 ≤ a ∧ a ≤ 9223372036854775807) : (Lit.int .i64 a).wf = true := WalkArith.wf_i64 h

/-- what is kept, by numbers -/
def KMap (w : World) (gM n : Nat) (M : Int → Option Value) : Prop :=
  ∃ D : DataW Value, w.ownsMap Try.prog 3 heldR gM n D ∧ ∀ a : Int, Maps.has D (.int .i64 a) = (M a).isSome ∧ ∀ v, M a = some v → ∀ z, D.atKey (.int .i64 a) z = .held v

theorem KMap.new (w : World) (gM : Nat) (h : w.heap[gM]? = some (.map #[] 0)) : KMap w gM 0 (fun _ => none) :=
  ⟨.map [], ⟨#[], 0, h, ⟨by simp, stamped_empty 0, by simp⟩, Nat.le_refl _, rfl⟩, fun a => ⟨rfl, fun v hv => by cases hv⟩⟩

theorem KMap.kp {w w' : World} {gM n : Nat} {M : Int → Option Value} {S : Nat → Prop} (h : KMap w gM n M) (hk : Kp w w' S) (hn : ¬ S gM) : KMap w' gM n M := by
  obtain ⟨D, hD, hM⟩ := h
  have hl := hD.lt
  obtain ⟨es, clock, hb, F, hs, e⟩ := hD
  exact ⟨D, ⟨es, clock, by rw [hk.block gM hl hn, hb], F, hs, e⟩, hM⟩

theorem KMap.lt {w : World} {gM n : Nat} {M : Int → Option Value} (h : KMap w gM n M) : gM < w.heap.size := by
  obtain ⟨D, hD, _⟩ := h
  exact hD.lt

/-- the number of the entries' bound may be raised -/
theorem KMap.more {w : World} {gM n n' : Nat} {M : Int → Option Value} (h : KMap w gM n M) (hn : n ≤ n') : KMap w gM n' M := by
  obtain ⟨D, hD, hM⟩ := h
  exact ⟨D, hD.mono hn, hM⟩

set_option maxRecDepth 20000 in
theorem KMap.look {w : World} {gM n : Nat} {M : Int → Option Value} (h : KMap w gM n M) (a : Int) (ha : -9223372036854775808 ≤ a ∧ a ≤ 9223372036854775807) :
    ∃ v, (Instr.lookup 106 (.map (some gM)) (.int .i64 a) true).run Try.prog w = .ok (.tuple #[v, .bool (M a).isSome]) w ∧ ∀ u, M a = some u → v = u := by
  obtain ⟨D, hD, hM⟩ := h
  obtain ⟨v, ps, hrun, hv⟩ := hD.look_ok law_int und_map (zero_rows w) (zd := .held (.slice none 0 0)) (zp := []) rfl (Maps.keyOf_int_mk Try.underlying3 (fits_i64 ha))
  rw [(hM a).1] at hrun
  refine ⟨v, hrun, fun u hu => ?_⟩
  have h2 := (hM a).2 u hu (.held (.slice none 0 0))
  rw [h2] at hv
  unfold heldR at hv
  injection hv with hv
  injection hv with hv _
  injection hv with hv

theorem lit_ne {a b : Int} (h : a ≠ b) : (Lit.int .i64 a) ≠ .int .i64 b := fun e => by injection e with _ e; exact h e

theorem KMap.drop {w : World} {gM n : Nat} {M : Int → Option Value} (h : KMap w gM n M) (a : Int) (ha : -9223372036854775808 ≤ a ∧ a ≤ 9223372036854775807) :
    ∃ w', (∀ ty, (Builtin.delete_ #[106, 3] ty #[.map (some gM), .int .i64 a]).run Try.prog w = .ok (.tuple #[]) w') ∧ KMap w' gM n (fun x => if x = a then none else M x) ∧ w.grownBy w' (some gM) := by
  obtain ⟨D, hD, hM⟩ := h
  obtain ⟨w', hrun, hown, hturn⟩ := hD.drop law_int und_map (Maps.keyOf_int_mk Try.underlying3 (fits_i64 ha)) 0
  refine ⟨w', fun ty => hrun, ⟨D.del (.int .i64 a), hown, fun x => ?_⟩, hturn.grown⟩
  by_cases hx : x = a
  · subst hx
    simp only [if_pos]
    exact ⟨Maps.has_del_same, fun v hv => by cases hv⟩
  · simp only [if_neg hx]
    refine ⟨by rw [Maps.has_del_other (lit_ne hx)]; exact (hM x).1, fun v hv z => ?_⟩
    rw [Maps.atKey_del_other (lit_ne hx)]
    exact (hM x).2 v hv z

set_option maxRecDepth 20000 in
theorem KMap.put {w : World} {gM n : Nat} {M : Int → Option Value} (h : KMap w gM n M) (hn : n < maxLen) (a : Int) (ha : -9223372036854775808 ≤ a ∧ a ≤ 9223372036854775807) (v : Value) :
    ∃ w', (Instr.mapUpdate 106 (.map (some gM)) (.int .i64 a) v).run Try.prog w = .ok () w' ∧ KMap w' gM (n + 1) (fun x => if x = a then some v else M x) ∧ w.grownBy w' (some gM) := by
  obtain ⟨D, hD, hM⟩ := h
  have hkey := Maps.keyOf_int_mk Try.underlying3 (fits_i64 ha)
  obtain ⟨w', hrun, hown, hturn⟩ := hD.store law_int und_map hn hkey (val := v) (d := .held v) (ps := []) rfl
  refine ⟨w', hrun, ⟨D.put (.int .i64 a) (.held v), hown, fun x => ?_⟩, hturn.grown⟩
  by_cases hx : x = a
  · subst hx
    simp only [if_pos]
    refine ⟨Maps.has_put_same hD.isMap (law_int.key hkey) _, fun u hu z => ?_⟩
    injection hu with hu
    subst hu
    exact Maps.atKey_put_same hD.isMap (law_int.key hkey) _ _
  · simp only [if_neg hx]
    refine ⟨by rw [Maps.has_put_other (lit_ne hx)]; exact (hM x).1, fun u hu z => ?_⟩
    rw [Maps.atKey_put_other (lit_ne hx)]
    exact (hM x).2 u hu z

theorem KMap.clear {w : World} {gM n : Nat} {M : Int → Option Value} (h : KMap w gM n M) :
    ∃ w', (∀ ty, (Builtin.clear_ #[106] ty #[.map (some gM)]).run Try.prog w = .ok (.tuple #[]) w') ∧ KMap w' gM 0 (fun _ => none) ∧ w.grownBy w' (some gM) := by
  obtain ⟨D, ⟨es, clock, hb, F, hs, e⟩, hM⟩ := h
  refine ⟨setBlock w gM (.map #[] clock), fun ty => ?_, ⟨.map [], ⟨#[], clock, heap_setBlock_same hb _, ⟨by simp, stamped_empty clock, by simp⟩, Nat.le_refl _, rfl⟩, fun a => ⟨rfl, fun v hv => by cases hv⟩⟩, ?_⟩
  · simp [Builtin.clear_, run_underlying und_map, Go.MapKept.run_getObj_map hb, Go.MapKept.run_setObj_map _ hb, Result.andThen, setBlock]
  · exact ⟨rfl, rfl, rfl, by simp [setBlock], fun i _ hi => heap_setBlock_other hb _ (fun e => hi (by rw [e]))⟩
end Go.Proofs.Ytncmgnmcggkhnaa

namespace Go.Proofs.Ytncmgnmcggkhnaa
open Go.RowKit

/-- what is known of the frames of a stream that a reader was made of -/
structure FrOk (h : Head) (chs : List (List Int)) (l : List Fr) : Prop where
  ok : headOk h = true
  ch1 : 1 ≤ h.channels
  ch : chs.length = h.channels
  total : ∀ j, j < h.channels → (chs.getD j []).length = h.total
  num : ∀ i, i < l.length ↔ i * h.block < h.total
  frame : ∀ i, i < l.length → pFrame h i (l.getD i ([], [])).1 = some ((l.getD i ([], [])).2, [])
  small : ∀ i, i < l.length → (l.getD i ([], [])).1.length ≤ 6000
  part : ∀ i, i < l.length → ∀ j, j < h.channels → (l.getD i ([], [])).2.getD j [] = ((chs.getD j []).drop (i * h.block)).take h.block

/-- lists of one length, the last of them maybe shorter -/
theorem flat_parts (B : Nat) (hB : 1 ≤ B) : ∀ (L : List (List Int)), (∀ i, i + 1 < L.length → (L.getD i []).length = B) → (∀ i, i < L.length → 1 ≤ (L.getD i []).length ∧ (L.getD i []).length ≤ B) →
    (∀ i, i < L.length → (L.flatten.drop (i * B)).take B = L.getD i []) ∧ ∀ i, i < L.length ↔ i * B < L.flatten.length
  | [], _, _ => ⟨fun i hi => by simp at hi, fun i => by simp⟩
  | x :: L, h1, h2 => by
    have hx := h2 0 (by simp)
    have hx0 : 1 ≤ x.length ∧ x.length ≤ B := hx
    obtain ⟨ih1, ih2⟩ := flat_parts B hB L (fun i hi => h1 (i + 1) (by simpa using hi)) (fun i hi => h2 (i + 1) (by simpa using hi))
    by_cases hL : L = []
    · subst hL
      refine ⟨fun i hi => ?_, fun i => ?_⟩
      · obtain rfl : i = 0 := by simpa using hi
        simp only [Nat.zero_mul, List.drop_zero, List.flatten_cons, List.flatten_nil, List.append_nil, List.getD_cons_zero]
        exact List.take_of_length_le hx0.2
      · simp only [List.length_singleton, List.flatten_cons, List.flatten_nil, List.append_nil]
        cases i with
        | zero => simp; omega
        | succ i => rw [Nat.succ_mul]; have := Nat.zero_le (i * B); omega
    · have hpos : 0 < L.length := List.length_pos_iff.mpr hL
      have hxB : x.length = B := h1 0 (by simp; omega)
      refine ⟨fun i hi => ?_, fun i => ?_⟩
      · cases i with
        | zero =>
          simp only [Nat.zero_mul, List.drop_zero, List.flatten_cons, List.getD_cons_zero]
          rw [List.take_append_of_le_length (by omega), List.take_of_length_le (by omega)]
        | succ i =>
          rw [List.getD_cons_succ, ← ih1 i (by simpa using hi), List.flatten_cons, Nat.succ_mul, Nat.add_comm, ← hxB, List.drop_append, List.drop_of_length_le (by omega), Nat.add_sub_cancel_left, List.nil_append]
      · rw [List.flatten_cons, List.length_append, List.length_cons]
        cases i with
        | zero => simp; omega
        | succ i => rw [Nat.succ_mul]; have := ih2 i; omega

theorem snoc_ind {α : Type} {P : List α → Prop} (h0 : P []) (h1 : ∀ l a, P l → P (l ++ [a])) (l : List α) : P l := by
  have h2 : ∀ m : List α, P m.reverse := by
    intro m
    induction m with
    | nil => exact h0
    | cons a m ih => rw [List.reverse_cons]; exact h1 _ _ ih
  have h3 := h2 l.reverse
  rwa [List.reverse_reverse] at h3

theorem joined_len (c : Nat) : ∀ (l : List Fr), (∀ p ∈ l, p.2.length = c) → (joined c l).length = c := by
  refine snoc_ind ?_ ?_
  · intro _; simp [joined]
  · intro l p ih h
    rw [joined_snoc, List.length_zipWith, ih (fun q hq => h q (List.mem_append_left _ hq)), h p (by simp)]
    omega

theorem joined_get (c : Nat) : ∀ (l : List Fr), (∀ p ∈ l, p.2.length = c) → ∀ j, j < c → (joined c l).getD j [] = (l.map (fun p => p.2.getD j [])).flatten := by
  refine snoc_ind ?_ ?_
  · intro _ j hj; simp [joined, List.getD, hj]
  · intro l p ih h j hj
    have hl := joined_len c l (fun q hq => h q (List.mem_append_left _ hq))
    rw [joined_snoc, zip_append_get _ _ c hl (h p (by simp)) j hj, ih (fun q hq => h q (List.mem_append_left _ hq)) j hj]
    simp

theorem getD_of_get {α : Type} (l : List α) (i : Nat) (d : α) (hi : i < l.length) : l[i]? = some (l.getD i d) := by
  simp [List.getD, hi]

theorem fr_ok {h : Head} {l : List Fr} {D : List UInt8} {ended : Bool} (hok : headOk h = true) (hc1 : 1 ≤ h.channels) (hf : Fls h D l D.length ended) (ht : ((joined h.channels l).headD []).length = h.total) (hD : D.length ≤ 6000) : FrOk h (joined h.channels l) l := by
  obtain ⟨b1, b2, b3, b4, b5, b6, b7, b8⟩ := headOk_parts hok
  have hfr : ∀ i, i < l.length → ∃ rest, pFrame h i ((l.getD i ([], [])).1 ++ rest) = some ((l.getD i ([], [])).2, rest) := fun i hi => hf.each i _ (getD_of_get l i _ hi)
  have hcl : ∀ p ∈ l, p.2.length = h.channels := by
    intro p hp
    obtain ⟨i, hi, rfl⟩ := List.getElem_of_mem hp
    obtain ⟨rest, e⟩ := hf.each i _ (List.getElem?_eq_getElem hi)
    exact (pFrame_spec e).1
  have hpl : ∀ i, i < l.length → ∀ j, j < h.channels → 1 ≤ ((l.getD i ([], [])).2.getD j []).length ∧ ((l.getD i ([], [])).2.getD j []).length ≤ h.block := by
    intro i hi j hj
    obtain ⟨rest, e⟩ := hfr i hi
    obtain ⟨_, n, k, h1, h2, h3, _⟩ := pFrame_spec e
    rw [h3 j hj]
    exact ⟨h1, h2⟩
  have hsame : ∀ i, i < l.length → ∀ j, j < h.channels → ((l.getD i ([], [])).2.getD j []).length = ((l.getD i ([], [])).2.getD 0 []).length := by
    intro i hi j hj
    obtain ⟨rest, e⟩ := hfr i hi
    obtain ⟨_, n, k, h1, h2, h3, _⟩ := pFrame_spec e
    rw [h3 j hj, h3 0 (by omega)]
  have hmap : ∀ j i, i < l.length → (l.map (fun p => p.2.getD j [])).getD i [] = (l.getD i ([], [])).2.getD j [] := by
    intro j i hi
    simp [List.getD, hi]
  have hparts := fun j (hj : j < h.channels) => flat_parts h.block (by omega) (l.map (fun p => p.2.getD j [])) (fun i hi => by
      rw [List.length_map] at hi
      rw [hmap j i (by omega)]
      exact hf.full i _ (getD_of_get l i _ (by omega)) (.inl hi) j hj) (fun i hi => by
      rw [List.length_map] at hi
      rw [hmap j i hi]
      exact hpl i hi j hj)
  have htot : ∀ j, j < h.channels → ((joined h.channels l).getD j []).length = h.total := by
    intro j hj
    rw [headD_getD] at ht
    rw [← ht, joined_get _ l hcl j hj, joined_get _ l hcl 0 (by omega), List.length_flatten, List.length_flatten, List.map_map, List.map_map]
    congr 1
    refine List.map_congr_left (fun p hp => ?_)
    obtain ⟨i, hi, rfl⟩ := List.getElem_of_mem hp
    have := hsame i hi j hj
    simp only [List.getD, List.getElem?_eq_getElem hi, Option.getD_some] at this
    simpa [List.getD] using this
  refine ⟨hok, hc1, joined_len _ l hcl, htot, fun i => ?_, fun i hi => ?_, fun i hi => ?_, fun i hi j hj => ?_⟩
  · have h1 := (hparts 0 (by omega)).2 i
    rw [List.length_map, ← joined_get _ l hcl 0 (by omega), htot 0 (by omega)] at h1
    exact h1
  · obtain ⟨rest, e⟩ := hfr i hi
    obtain ⟨part, hp1, _, hp2⟩ := pFrame_local e
    have : part = (l.getD i ([], [])).1 := by
      have := List.append_cancel_right hp1
      exact this.symm
    rw [this] at hp2
    have h9 := hp2 []
    rw [List.append_nil] at h9
    exact h9
  · have h1 : ((l.getD i ([], [])).1).length ≤ ((l.map (·.1)).flatten).length := by
      have hm : (l.getD i ([], [])).1 ∈ l.map (·.1) := List.mem_map.2 ⟨l.getD i ([], []), by simp [List.getD, hi], rfl⟩
      exact (List.sublist_flatten_of_mem hm).length_le
    rw [hf.bytes, List.take_length] at h1
    omega
  · rw [joined_get _ l hcl j hj, (hparts j hj).1 i (by rw [List.length_map]; exact hi), hmap j i hi]
end Go.Proofs.Ytncmgnmcggkhnaa

namespace Go.Proofs.Ytncmgnmcggkhnaa
open Go.RowKit

/-- a reader in memory: `M`: what it keeps, in blocks of `KB` -/
structure Rdr (w : World) (gB gM : Nat) (h : Head) (l : List Fr) (pv : Value) (pos nM : Nat) (M : Int → Option Value) (KB : Nat → Prop) : Prop where
  box : Box w gB (readerC h pv pos gM) 108
  row : w.ownsRow (gB + 1) 9 1 pv l.length (l.map fun p => strV p.1)
  lt : gM < gB
  map : KMap w gM nM M
  kept : ∀ a v, M a = some v → ∃ i : Nat, a = (i : Int) ∧ i < l.length ∧ Views w KB v (l.getD i ([], [])).2
  kb : ∀ b, KB b → gB < b ∧ b < w.heap.size

/-- which blocks are a reader's -/
def rdrB (gB gM : Nat) (pv : Value) (KB : Nat → Prop) (b : Nat) : Prop := b = gB ∨ b = gM ∨ pv.ownBlock = some b ∨ KB b

theorem Rdr.kp {w w' : World} {gB gM : Nat} {h : Head} {l : List Fr} {pv : Value} {pos nM : Nat} {M : Int → Option Value} {KB S : Nat → Prop} (hr : Rdr w gB gM h l pv pos nM M KB) (hk : Kp w w' S) (hn : ∀ b, rdrB gB gM pv KB b → ¬ S b) : Rdr w' gB gM h l pv pos nM M KB :=
  ⟨hr.box.kp hk (hn gB (.inl rfl)), ownsRow_kp hr.row hk (fun q hq => hn q (.inr (.inr (.inl hq)))), hr.lt, hr.map.kp hk (hn gM (.inr (.inl rfl))),
    fun a v hv => by obtain ⟨i, h1, h2, h3⟩ := hr.kept a v hv; exact ⟨i, h1, h2, h3.kp hk (fun q hq => hn q (.inr (.inr (.inr hq))))⟩,
    fun b hb => ⟨(hr.kb b hb).1, Nat.lt_of_lt_of_le (hr.kb b hb).2 hk.size⟩⟩

theorem Rdr.blt {w : World} {gB gM : Nat} {h : Head} {l : List Fr} {pv : Value} {pos nM : Nat} {M : Int → Option Value} {KB : Nat → Prop} (hr : Rdr w gB gM h l pv pos nM M KB) : ∀ b, rdrB gB gM pv KB b → b < w.heap.size := by
  intro b hb
  rcases hb with rfl | rfl | hq | hb
  · exact hr.box.lt
  · exact hr.map.lt
  · exact (World.ownsRow.lt hr.row b hq).2
  · exact (hr.kb b hb).2

/-- the part's block is no other one of the reader's -/
theorem Rdr.pvlt {w : World} {gB gM : Nat} {h : Head} {l : List Fr} {pv : Value} {pos nM : Nat} {M : Int → Option Value} {KB : Nat → Prop} (hr : Rdr w gB gM h l pv pos nM M KB) : ∀ b, pv.ownBlock = some b → gB < b := fun b hq => (World.ownsRow.lt hr.row b hq).1

theorem Views.more {w : World} {D D' : Nat → Prop} {v : Value} {ls : List (List Int)} (h : Views w D v ls) (hd : ∀ b, D b → D' b) : Views w D' v ls := by
  obtain ⟨lg, lcap, h1, h2, h3, h4, h5⟩ := h
  exact ⟨lg, lcap, h1, h2, hd _ h3, h4, fun i hi => by obtain ⟨g, off, cap, q1, q⟩ := h5 i hi; exact ⟨g, off, cap, hd _ q1, q⟩⟩

/-- what is kept has changed: what is left of it, and maybe one more -/
theorem Rdr.turn {w w' : World} {gB gM : Nat} {h : Head} {l : List Fr} {pv : Value} {pos nM nM' : Nat} {M M' : Int → Option Value} {KB : Nat → Prop} (hr : Rdr w gB gM h l pv pos nM M KB) (hg : w.grownBy w' (some gM)) (hm : KMap w' gM nM' M') (hs : ∀ a v, M' a = some v → M a = some v) : Rdr w' gB gM h l pv pos nM' M' KB := by
  have hk := Kp.of hg
  have hlt := hr.lt
  refine ⟨hr.box.kept hg (by simp; omega), ownsRow_kp hr.row hk (fun q hq e => by have := hr.pvlt q hq; injection e with e; omega), hr.lt, hm, fun a v hv => ?_, fun b hb => ⟨(hr.kb b hb).1, Nat.lt_of_lt_of_le (hr.kb b hb).2 hg.size⟩⟩
  obtain ⟨i, h1, h2, h3⟩ := hr.kept a v (hs a v hv)
  exact ⟨i, h1, h2, h3.kp hk (fun q hq e => by have := (hr.kb q hq).1; injection e with e; omega)⟩

/-- one frame more is kept -/
theorem Rdr.keep {w w1 w' : World} {gB gM : Nat} {h : Head} {l : List Fr} {pv : Value} {pos nM nM' : Nat} {M : Int → Option Value} {KB : Nat → Prop} {i : Nat} {v : Value} (hr : Rdr w gB gM h l pv pos nM M KB) (hg1 : w.grownBy w1 none) (hg : w1.grownBy w' (some gM))
    (hm : KMap w' gM nM' (fun x => if x = (i : Int) then some v else M x)) (hi : i < l.length) (hv : Views w1 (fun q => w.heap.size ≤ q ∧ q < w1.heap.size) v (l.getD i ([], [])).2) :
    Rdr w' gB gM h l pv pos nM' (fun x => if x = (i : Int) then some v else M x) (fun b => KB b ∨ (w.heap.size ≤ b ∧ b < w'.heap.size)) ∧ Views w' (fun b => KB b ∨ (w.heap.size ≤ b ∧ b < w'.heap.size)) v (l.getD i ([], [])).2 := by
  have hlt := hr.lt
  have hbl := hr.box.lt
  have h1 : Rdr w1 gB gM h l pv pos nM M KB := hr.kp (Kp.ofNone (S := fun _ => False) hg1) (fun _ _ e => e)
  have hk := Kp.of hg
  have hv2 : Views w' (fun q => w.heap.size ≤ q ∧ q < w1.heap.size) v (l.getD i ([], [])).2 := hv.kp hk (fun q hq e => by injection e with e; omega)
  have hv3 : Views w' (fun b => KB b ∨ (w.heap.size ≤ b ∧ b < w'.heap.size)) v (l.getD i ([], [])).2 := hv2.more (fun b hb => .inr ⟨hb.1, Nat.lt_of_lt_of_le hb.2 hg.size⟩)
  refine ⟨⟨h1.box.kept hg (by simp; omega), ownsRow_kp h1.row hk (fun q hq e => by have := h1.pvlt q hq; injection e with e; omega), hr.lt, hm, fun a u hu => ?_, fun b hb => ?_⟩, hv3⟩
  · by_cases ha : a = (i : Int)
    · simp only [if_pos ha] at hu
      injection hu with hu
      subst hu
      exact ⟨i, ha, hi, hv3⟩
    · simp only [if_neg ha] at hu
      obtain ⟨k, q1, q2, q3⟩ := h1.kept a u hu
      exact ⟨k, q1, q2, (q3.kp hk (fun q hq e => by have := (hr.kb q hq).1; injection e with e; omega)).more (fun b hb => .inl hb)⟩
  · rcases hb with hb | hb
    · exact ⟨(hr.kb b hb).1, Nat.lt_of_lt_of_le (Nat.lt_of_lt_of_le (hr.kb b hb).2 hg1.size) hg.size⟩
    · exact ⟨by omega, hb.2⟩

/-- the reader is elsewhere -/
theorem Rdr.move {w : World} {gB gM : Nat} {h : Head} {l : List Fr} {pv : Value} {pos nM : Nat} {M : Int → Option Value} {KB : Nat → Prop} (hr : Rdr w gB gM h l pv pos nM M KB) (pos' : Nat) : Rdr (w.setCell ⟨gB, 6, none⟩ (.int .i64 pos')) gB gM h l pv pos' nM M KB := by
  have hlt := hr.lt
  have hg := grown_set w gB 6 (.int .i64 pos')
  have hk := Kp.of hg
  refine ⟨hr.box.set 6 (.int .i64 pos'), ownsRow_kp hr.row hk (fun q hq e => by have := hr.pvlt q hq; injection e with e; omega), hr.lt, hr.map.kp hk (fun e => by injection e with e; omega), fun a v hv => ?_, fun b hb => ⟨(hr.kb b hb).1, Nat.lt_of_lt_of_le (hr.kb b hb).2 hg.size⟩⟩
  obtain ⟨i, h1, h2, h3⟩ := hr.kept a v hv
  exact ⟨i, h1, h2, h3.kp hk (fun q hq e => by have := (hr.kb q hq).1; injection e with e; omega)⟩

theorem row_down {w : World} {base base' : Nat} {e : TypeId} {size : Nat} {v : Value} {n : Nat} {xs : List Value} (h : w.ownsRow base e size v n xs) (hb : base' ≤ base) : w.ownsRow base' e size v n xs := by
  refine ⟨h.1, ?_⟩
  rcases h.2 with h2 | ⟨g, cap, cur, hv, hg, r⟩
  · exact .inl h2
  · exact .inr ⟨g, cap, cur, hv, by omega, r⟩

/-- as Open makes it -/
theorem RdrNew.rdr {w : World} {base gB rate bits : Nat} {chs : List (List Int)} (hn : RdrNew w base gB rate bits chs) :
    ∃ (h : Head) (l : List Fr) (pv : Value) (gM : Nat), h.rate = rate ∧ h.bits = bits ∧ FrOk h chs l ∧ base ≤ gM ∧ (∀ b, pv.ownBlock = some b → base ≤ b) ∧ Rdr w gB gM h l pv 0 0 (fun _ => none) (fun _ => False) := by
  obtain ⟨h, l, pv, gM, D, ended, h1, h2, h3, h4, h5, h6, h7, h8, h9, h10, h11, h12, b2, h13, h14⟩ := hn
  have hrow : w.ownsRow (gB + 1) 9 1 pv l.length (l.map fun p => strV p.1) := row_down h14 (by omega)
  refine ⟨h, l, pv, gM, h1, h2, ?_, h9, fun b hq => ?_, ⟨h11, hrow, h10, KMap.new w gM h12, (fun a v hv => by cases hv), fun b hb => hb.elim⟩⟩
  · rw [← h3]
    rw [← h3] at h7
    exact fr_ok h5 h6 h4 h7 h8
  · have := (World.ownsRow.lt hrow b hq).1
    omega
end Go.Proofs.Ytncmgnmcggkhnaa

namespace Go.Proofs.Ytncmgnmcggkhnaa
open Go.RowKit

theorem grown_some3 {w w' : World} {g : Nat} (h : w.grownBy w' none) : w.grownBy w' (some g) := ⟨h.os, h.tape, h.output, h.size, fun i hi _ => h.block i hi (by simp)⟩

/-- what a reader's frame leaves -/
def FrPost (w : World) (gB gM : Nat) (h : Head) (l : List Fr) (pv : Value) (pos nM : Nat) (KB : Nat → Prop) (i : Nat) (e : Ending) (w' : World) : Prop :=
  ∃ v M' KB', e = .returned v ∧ w.grownBy w' (some gM) ∧ Rdr w' gB gM h l pv pos (nM + 1) M' KB' ∧ (∀ b, KB' b → KB b ∨ w.heap.size ≤ b) ∧ Views w' KB' v (l.getD i ([], [])).2

/-- what the reading of a frame that is right leaves -/
def FrRead (w : World) (cs : List (List Int)) (e : Ending) (w' : World) : Prop :=
  ∃ (size cnt lg ln lcap : Nat), e = .returned (.tuple #[.agg #[.int .i64 size, .int .i64 cnt, .slice (some ⟨lg, 0, none⟩) ln lcap], .bool true]) ∧ w.grownBy w' none ∧ Views w' (fun q => w.heap.size ≤ q ∧ q < w'.heap.size) (.slice (some ⟨lg, 0, none⟩) ln lcap) cs

def RelF (w2 : World) (cs : List (List Int)) (s9 s10 : Value) (wx : World) : Prop :=
  ∃ (gF size cnt lg ln lcap : Nat), s9 = .pointer (some ⟨gF, 0, none⟩) ∧ s10 = .bool true ∧ Box wx gF #[.int .i64 size, .int .i64 cnt, .slice (some ⟨lg, 0, none⟩) ln lcap] 115 ∧ w2.heap.size ≤ gF ∧ w2.grownBy wx none ∧ Views wx (fun q => w2.heap.size ≤ q ∧ q < wx.heap.size) (.slice (some ⟨lg, 0, none⟩) ln lcap) cs

theorem rel_new {w2 w3 wx : World} {cs : List (List Int)} {size cnt lg ln lcap : Nat} (hg : w2.grownBy w3 none) (hb : w2.heap.size ≤ wx.heap.size) (hview : Views w3 (fun q => wx.heap.size ≤ q ∧ q < w3.heap.size) (.slice (some ⟨lg, 0, none⟩) ln lcap) cs) :
    RelF w2 cs (.pointer (some ⟨w3.heap.size, 0, none⟩)) (.bool true) (w3.alloc (.cells #[.int .i64 size, .int .i64 cnt, .slice (some ⟨lg, 0, none⟩) ln lcap] 115)) :=
  ⟨w3.heap.size, size, cnt, lg, ln, lcap, rfl, rfl, Box.new _ _ _, hg.size, grown_alloc hg _, (hview.kp (Kp.ofNone (S := fun _ => False) (grown_alloc (grown_refl w3 none) _)) (fun _ _ e => e)).more (fun b hb' => ⟨by omega, Nat.lt_of_lt_of_le hb'.2 (by simp)⟩)⟩

theorem rel_set {w2 w3 wx : World} {cs : List (List Int)} {size cnt lg ln lcap : Nat} {a b c : Value} (hbx : Box w3 w2.heap.size #[a, b, c] 115) (hg : w2.grownBy w3 none) (hb : w2.heap.size < wx.heap.size) (hview : Views w3 (fun q => wx.heap.size ≤ q ∧ q < w3.heap.size) (.slice (some ⟨lg, 0, none⟩) ln lcap) cs) :
    RelF w2 cs (.pointer (some ⟨w2.heap.size, 0, none⟩)) (.bool true) (((w3.setCell ⟨w2.heap.size, 0, none⟩ (.int .i64 size)).setCell ⟨w2.heap.size, 1, none⟩ (.int .i64 cnt)).setCell ⟨w2.heap.size, 2, none⟩ (.slice (some ⟨lg, 0, none⟩) ln lcap)) := by
  have hset : ∀ (w : World) (x y z : Value), Box w w2.heap.size #[x, y, z] 115 → ∀ p q r : Value, Box (((w.setCell ⟨w2.heap.size, 0, none⟩ p).setCell ⟨w2.heap.size, 1, none⟩ q).setCell ⟨w2.heap.size, 2, none⟩ r) w2.heap.size #[p, q, r] 115 := fun w x y z hw p q r => ((hw.set 0 p).set 1 q).set 2 r
  have hgs : w3.grownBy (((w3.setCell ⟨w2.heap.size, 0, none⟩ (.int .i64 size)).setCell ⟨w2.heap.size, 1, none⟩ (.int .i64 cnt)).setCell ⟨w2.heap.size, 2, none⟩ (.slice (some ⟨lg, 0, none⟩) ln lcap)) (some w2.heap.size) := grown_trans (grown_trans (grown_set _ _ _ _) (grown_set _ _ _ _)) (grown_set _ _ _ _)
  refine ⟨w2.heap.size, size, cnt, lg, ln, lcap, rfl, rfl, hset _ _ _ _ hbx _ _ _, Nat.le_refl _, grown_new hg hgs (fun q e => by injection e with e; omega), (hview.kp (Kp.of hgs) (fun q hq e => by injection e with e; omega)).more (fun b hb' => ⟨by omega, Nat.lt_of_lt_of_le hb'.2 hgs.size⟩)⟩

set_option maxHeartbeats 4000000 in
set_option maxRecDepth 20000 in
theorem qframeof (w : World) (gB gM : Nat) (h : Head) (chs : List (List Int)) (l : List Fr) (pv : Value) (pos nM : Nat) (M : Int → Option Value) (KB : Nat → Prop) (i : Nat) (hr : Rdr w gB gM h l pv pos nM M KB) (hf : FrOk h chs l) (hi : i < l.length) (hl : l.length ≤ 6000) (hn : nM + 1 ≤ 9223372036854775807) :
    Calls Try.prog 59 #[.pointer (some ⟨gB, 0, none⟩), .int .i64 i] w (FrPost w gB gM h l pv pos nM KB i) := by
  obtain ⟨b1, b2, b3, b4, b5, b6, b7, b8⟩ := headOk_parts hf.ok
  have c7 : w.cell? ⟨gB, 7, none⟩ = some (.map (some gM)) := hr.box.cell 7
  obtain ⟨v0, hk0, hv0⟩ := hr.map.look i (by omega)
  cases hMi : M i with
  | some u =>
    rw [hMi] at hk0
    obtain rfl : v0 = u := hv0 u hMi
    obtain ⟨i', q1, q2, q3⟩ := hr.kept i v0 hMi
    obtain rfl : i = i' := by omega
    have hpost : FrPost w gB gM h l pv pos nM KB i (.returned v0) w := by
      refine ⟨v0, M, KB, rfl, grown_refl _ _, ⟨hr.box, hr.row, hr.lt, hr.map.more (by omega), hr.kept, hr.kb⟩, fun b hb => .inl hb, q3⟩
    clear hv0 hMi q3 hr
    go_enter Try.func59, Try.ntmps59
    go_wp2
    exact bodyPost_ret (v := v0) (by simp [results, Try.results59, go_sem]) rfl hpost
  | none =>
    rw [hMi] at hk0
    obtain ⟨v1, hk1, _⟩ := hr.map.look ((i : Int) - 1) (by omega)
    obtain ⟨ok1, hok1⟩ : ∃ ok1, (M ((i : Int) - 1)).isSome = ok1 := ⟨_, rfl⟩
    rw [hok1] at hk1
    clear hok1
    obtain ⟨wc0, hcl, hmc, hgc⟩ := hr.map.clear
    have HMC : Hid (KMap wc0 gM 0 (fun _ => none)) := hmc
    have HGC : Hid (w.grownBy wc0 (some gM)) := hgc
    have HR : Hid (Rdr w gB gM h l pv pos nM M KB) := hr
    clear hmc hgc hv0 hMi hr
    have hiz : IntKind.i64.wrap ((i : Int) - 1) = (i : Int) - 1 := by rw [IntKind.wrap_i64]; omega
    go_enter Try.func59, Try.ntmps59
    go_upto_region 4 with fail
    go_upto_if 33 with fail
    go_cut [] (fun wx => ∃ n' M', n' ≤ nM ∧ w.grownBy wx (some gM) ∧ Rdr wx gB gM h l pv pos n' M' KB)
    case first =>
      cases ok1 with
      | true =>
        go_wp2
        go_meet
        case rel => exact ⟨nM, M, Nat.le_refl _, grown_refl _ _, HR.out⟩
      | false =>
        go_wp2
        go_meet
        case rel => exact ⟨0, _, Nat.zero_le _, HGC.out, HR.out.turn HGC.out HMC.out (fun a v e => by cases e)⟩
    case rest =>
    clear hk0 hk1 hcl HMC HGC c7 HR
    obtain ⟨n1, M1, hn1, hg1, hr1⟩ := hcut
    have c7 : wc.cell? ⟨gB, 7, none⟩ = some (.map (some gM)) := hr1.box.cell 7
    obtain ⟨w2, hdr, hm2, hg2⟩ := hr1.map.drop ((i : Int) - 4) (by omega)
    have hr2 := hr1.turn hg2 hm2 (fun a v e => by by_cases ha : a = (i : Int) - 4; simp only [if_pos ha] at e; cases e; simp only [if_neg ha] at e; exact e)
    have hgg2 := grown_trans hg1 hg2
    obtain ⟨M2, hM2⟩ : ∃ M2, (fun x => if x = (i : Int) - 4 then none else M1 x) = M2 := ⟨_, rfl⟩
    rw [hM2] at hr2
    have HG2 : Hid (w.grownBy w2 (some gM)) := hgg2
    have HR2 : Hid (Rdr w2 gB gM h l pv pos n1 M2 KB) := hr2
    clear hr1 hm2 hg1 hg2 hM2 hr2 hgg2 hiz
    go_upto_region 8 with fail
    have hrow := HR2.out.row
    obtain ⟨gp, cp, hpv, hgp, _⟩ := World.ownsRow.form hrow (by omega)
    subst hpv
    have hcp := World.ownsRow.cellAt hrow i (by omega)
    obtain ⟨part, hpart⟩ : ∃ part : ByteArray, (⟨(l.getD i ([], [])).1.toArray⟩ : ByteArray) = part := ⟨_, rfl⟩
    have hcp2 : w2.cell? ⟨gp, i, none⟩ = some (.string part) := by
      rw [← hpart]
      rw [hcp, List.getElem?_map, getD_of_get l i ([], []) hi]
      rfl
    have hpd : part.data.toList = (l.getD i ([], [])).1 := by rw [← hpart]
    have hps : part.size ≤ 6000 := by rw [← dlen, hpd]; exact hf.small i hi
    have hfr : pFrame h i part.data.toList = some ((l.getD i ([], [])).2, []) := by rw [hpd]; exact hf.frame i hi
    have HRD : ∀ wx, Calls Try.prog 62 #[.string part, .agg (headC h), .int .i64 i] wx (FrRead wx (l.getD i ([], [])).2) := by
      intro wx
      refine (qreadframe wx part h i hps hf.ch1 b5 b6 b7 b2).mono ?_
      rintro e w3 ⟨hg3, size, cnt, v, ok, rfl, hcase⟩
      rcases hcase with ⟨rfl, cs, cvs, hp, _, hsubs, hcn⟩ | ⟨_, _, _, hp⟩
      · rw [hfr] at hp
        injection hp with hp
        injection hp with hp _
        subst hp
        obtain ⟨h1, n, k, h2, _, h3, _⟩ := pFrame_spec hfr
        have hview := hsubs.views (by rw [h1]; exact hf.ch1) (fun j hj => by rw [h3 j (by rw [← h1]; exact hj)]; exact h2)
        obtain ⟨lg, lcap, hv, _⟩ := id hview
        subst hv
        exact ⟨size, cnt, lg, _, lcap, rfl, hg3, hview⟩
      · rw [hfr] at hp; cases hp
    unfold headC at HRD
    have hbox := HR2.out.box
    have d0 : w2.cell? ⟨gB, 0, none⟩ = some (.int .i64 h.block) := hbox.cell 0
    have d1 : w2.cell? ⟨gB, 1, none⟩ = some (.int .i64 h.rate) := hbox.cell 1
    have d2 : w2.cell? ⟨gB, 2, none⟩ = some (.int .i64 h.channels) := hbox.cell 2
    have d3 : w2.cell? ⟨gB, 3, none⟩ = some (.int .i64 h.bits) := hbox.cell 3
    have d4 : w2.cell? ⟨gB, 4, none⟩ = some (.int .i64 h.total) := hbox.cell 4
    have d5 : w2.cell? ⟨gB, 5, none⟩ = some (.slice (some ⟨gp, 0, none⟩) l.length cp) := hbox.cell 5
    have hil : (i : Int) < (l.length : Int) := by omega
    obtain ⟨ZF, hZF⟩ : ∃ ZF, (Obj.cells #[.int .i64 0, .int .i64 0, .slice none 0 0] 115) = ZF := ⟨_, rfl⟩
    have hgz : w2.grownBy (w2.alloc ZF) none := grown_alloc (grown_refl _ _) _
    have g0 := hgz.cell d0 (by simp)
    have g1 := hgz.cell d1 (by simp)
    have g2 := hgz.cell d2 (by simp)
    have g3 := hgz.cell d3 (by simp)
    have g4 := hgz.cell d4 (by simp)
    have g5 := hgz.cell d5 (by simp)
    have g6 := hgz.cell hcp2 (by simp)
    rw [← hZF] at g0 g1 g2 g3 g4 g5 g6
    have HBZ : Hid (∀ w3, (w2.alloc (Obj.cells #[.int .i64 0, .int .i64 0, .slice none 0 0] 115)).drew.grownBy w3 none → Box w3 w2.heap.size #[.int .i64 0, .int .i64 0, .slice none 0 0] 115) := by
      intro w3 hg3
      exact (show Box (w2.alloc (Obj.cells #[.int .i64 0, .int .i64 0, .slice none 0 0] 115)).drew w2.heap.size _ _ from Box.new w2 _ _).kept hg3 (by simp)
    clear hgz hZF
    clear hrow hcp hpart hpd hbox hdr c7 hfr hps
    go_cut [9, 10] (fun s9 s10 wx => RelF w2 (l.getD i ([], [])).2 s9 s10 wx)
    case first =>
      go_region_with (first
        | (go_at_call 62; refine (HRD (w2.alloc (Obj.cells #[.int .i64 0, .int .i64 0, .slice none 0 0] 115)).drew).mono ?_; rintro e w3 ⟨size, cnt, lg, ln, lcap, rfl, hg3, hview⟩; have HB3 : Hid (Box w3 w2.heap.size #[.int .i64 0, .int .i64 0, .slice none 0 0] 115) := HBZ.out w3 hg3; have z0 : w3.cell? ⟨w2.heap.size, 0, none⟩ = some (.int .i64 0) := HB3.out.cell 0; have z1 : w3.cell? ⟨w2.heap.size, 1, none⟩ = some (.int .i64 0) := HB3.out.cell 1; have z2 : w3.cell? ⟨w2.heap.size, 2, none⟩ = some (.slice none 0 0) := HB3.out.cell 2; have y0 := HB3.out.fz 0; have y1 := HB3.out.fz 1; have y2 := HB3.out.fz 2; have hgg3 : w2.grownBy w3 none := grown_trans (grown_drew (grown_alloc (grown_refl w2 none) _)) hg3)
        | (go_at_call 62; refine (HRD w2.drew).mono ?_; rintro e w3 ⟨size, cnt, lg, ln, lcap, rfl, hg3, hview⟩; have hgg3 : w2.grownBy w3 none := grown_trans (grown_drew (grown_refl w2 none)) hg3))
      all_goals
        go_wp2
        go_meet
        case rel => first | exact rel_set HB3.out hgg3 (by simp) hview | exact rel_new hgg3 (by first | exact Nat.le_refl _ | simp) hview
    case rest =>
      obtain ⟨gF, size, cnt, lg, ln, lcap, rfl, rfl, hbF, hgF, hg3, hview⟩ := hcut
      have hr3 : Rdr wc gB gM h l (.slice (some ⟨gp, 0, none⟩) l.length cp) pos n1 M2 KB := HR2.out.kp (Kp.ofNone (S := fun _ => False) hg3) (fun _ _ e => e)
      obtain ⟨w4, hput, hm4, hg4⟩ := (show KMap wc.drew gM n1 M2 from hr3.map).put (by unfold maxLen; omega) i (by omega) (.slice (some ⟨lg, 0, none⟩) ln lcap)
      have hg4' : wc.grownBy w4 (some gM) := ⟨hg4.os, hg4.tape, hg4.output, hg4.size, hg4.block⟩
      obtain ⟨hr4, hv4⟩ := HR2.out.keep hg3 hg4' hm4 hi hview
      have c7 : wc.cell? ⟨gB, 7, none⟩ = some (.map (some gM)) := hr3.box.cell 7
      have f2 : wc.cell? ⟨gF, 2, none⟩ = some (.slice (some ⟨lg, 0, none⟩) ln lcap) := hbF.cell 2
      have f4 : w4.cell? ⟨gF, 2, none⟩ = some (.slice (some ⟨lg, 0, none⟩) ln lcap) := hg4'.cell f2 (by have h1 := HR2.out.lt; have h2 := HR2.out.box.lt; intro e; injection e with e; have e' : gF = gM := e; omega)
      have hpost : FrPost w gB gM h l (.slice (some ⟨gp, 0, none⟩) l.length cp) pos nM KB i (.returned (.slice (some ⟨lg, 0, none⟩) ln lcap)) w4 := by
        refine ⟨_, _, _, rfl, ?_, ⟨hr4.box, hr4.row, hr4.lt, hr4.map.more (by omega), hr4.kept, hr4.kb⟩, fun b hb => ?_, hv4⟩
        · exact grown_trans (grown_trans HG2.out (grown_some3 hg3)) hg4'
        · rcases hb with hb | hb
          · exact .inl hb
          · exact .inr (Nat.le_trans HG2.out.size hb.1)
      clear hr4 hv4 hm4 hg4 hg4' hr3 hview hbF hg3
      go_upto_region 9 with fail
      go_region
      all_goals
        go_wp2
        exact bodyPost_ret (v := .slice (some ⟨lg, 0, none⟩) ln lcap) (by simp [results, Try.results59, go_sem]) rfl hpost
end Go.Proofs.Ytncmgnmcggkhnaa
