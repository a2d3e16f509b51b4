import Derived.Test.YtncmgnmcggkhnaaGreatGZ06
import Derived.Deep.RegionLaw
import Derived.BigRegion
import Derived.Test.YtncmgnmcggkhnaaGreatGZ10
import Derived.Deep.DeepCutAuto
import Derived.Deep.CutBlock
import Derived.Deep.LoopGhost
namespace Go.Proofs.YtncmgnmcggkhnaaGreat
open Go.RowKit

theorem decode_long (s : ByteArray) (h : 6000 < s.size) : decode s.data.toList = .err 2 0 := by
  unfold decode
  rw [if_pos (by simpa using h)]

theorem decode_meta (s : ByteArray) (h : s.size ≤ 6000) (hp : pBlocks (bitsOf s.data.toList) = none) : decode s.data.toList = .err 3 0 := by
  unfold decode
  rw [if_neg (by simp; exact h), hp]

def ansOf (h : Head) : Except Nat (List (List Int)) → Answer
  | .error number => .err 4 number
  | .ok chs => if (chs.headD []).length = h.total then .sound h.rate h.bits chs else .err 5 0

theorem decode_frames (s : ByteArray) (hs : s.size ≤ 6000) {h : Head} {rb : List Bool} (hpb : pBlocks (bitsOf s.data.toList) = some (h, rb)) :
    decode s.data.toList = ansOf h (frames h (s.size + 1) 0 0 false (List.replicate h.channels []) (s.data.toList.drop (s.size - rb.length / 8))) := by
  have hl : s.data.toList.length = s.size := by simp
  unfold decode
  rw [if_neg (by omega), hpb, hl]
  rfl

theorem two_new (w : World) (g : Nat) (hg : w.heap.size = g) (c1 c2 : Array Value) (t1 t2 : TypeId) :
    w.grownBy ((w.alloc (.cells c1 t1)).alloc (.cells c2 t2)) none ∧ Box ((w.alloc (.cells c1 t1)).alloc (.cells c2 t2)) g c1 t1 ∧ Box ((w.alloc (.cells c1 t1)).alloc (.cells c2 t2)) (g + 1) c2 t2 := by
  subst hg
  refine ⟨grown_alloc (grown_alloc (grown_refl _ _) _) _, (Box.new w c1 t1).kept (grown_alloc (grown_refl _ none) _) (by simp), ?_⟩
  have := Box.new (w.alloc (.cells c1 t1)) c2 t2
  simpa using this

end Go.Proofs.YtncmgnmcggkhnaaGreat

namespace Go.Proofs.YtncmgnmcggkhnaaGreat
open Go.RowKit

/-- the channels in memory: their block, and a list each, from `base` on -/
structure CM (wr : World) (gC base : Nat) (vs : List Value) (xss : List (List Int)) : Prop where
  row : Box wr gC vs.toArray 22
  len : xss.length = vs.length
  own : ∀ i, i < vs.length → Own wr base (vs.getD i undef) (xss.getD i [])
  apartV : ∀ i j q, i < j → j < vs.length → (vs.getD i undef).ownBlock = some q → (vs.getD j undef).ownBlock ≠ some q

theorem CM.kept {w w' : World} {gC base b : Nat} {vs : List Value} {xss : List (List Int)} (h : CM w gC base vs xss) (hg : w.grownBy w' (some b)) (hb : b < base) (hc : gC ≠ b) : CM w' gC base vs xss :=
  ⟨h.row.kept hg (fun e => by injection e with e; omega), h.len, fun i hi => (h.own i hi).kept hg hb, h.apartV⟩

/-- one more list, in memory that was new -/
theorem CM.set {w w1 : World} {gC base b B k : Nat} {vs : List Value} {xss : List (List Int)} {v : Value} {xs : List Int} (h : CM w gC base vs xss) (hg : w.grownBy w1 (some b)) (hb : b < base) (hc : gC ≠ b) (hgb : gC < base) (hB : base ≤ w.heap.size) (hBB : B = w.heap.size)
    (hv : Own w1 B v xs) (hk : k < vs.length) : CM (w1.setCell ⟨gC, k, none⟩ v) gC base (vs.set k v) (xss.set k xs) ∧ w1.grownBy (w1.setCell ⟨gC, k, none⟩ v) (some gC) := by
  subst hBB
  have h1 := h.kept hg hb hc
  have hs := grown_set w1 gC k v
  have hvlt : ∀ q, v.ownBlock = some q → w.heap.size ≤ q ∧ q < w1.heap.size := fun q hq => hv.lt q hq
  have hold : ∀ j q, j < vs.length → (vs.getD j undef).ownBlock = some q → base ≤ q ∧ q < w.heap.size := fun j q hj hq => (h.own j hj).lt q hq
  refine ⟨⟨?_, by rw [List.length_set, List.length_set]; exact h.len, ?_, ?_⟩, hs⟩
  · have := h1.row.set k v
    rw [List.setIfInBounds_toArray] at this
    exact this
  · intro i hi
    rw [List.length_set] at hi
    by_cases hik : k = i
    · subst hik
      rw [getD_set_eq _ _ _ _ hk, getD_set_eq _ _ _ _ (by rw [h.len]; exact hk)]
      refine World.ownsRow.kept (hv.mono hB) hs ?_
      cases hq : v.ownBlock with
      | none => exact .inl rfl
      | some q => exact .inr (fun e => by injection e with e; have := (hvlt q hq).1; omega)
    · rw [getD_set_ne _ _ _ _ _ hik, getD_set_ne _ _ _ _ _ hik]
      refine World.ownsRow.kept (h1.own i hi) hs ?_
      cases hq : (vs.getD i undef).ownBlock with
      | none => exact .inl rfl
      | some q => exact .inr (fun e => by injection e with e; have := (hold i q hi hq).1; omega)
  · intro i j q hij hj hq
    rw [List.length_set] at hj
    by_cases hki : k = i
    · subst hki
      rw [getD_set_eq _ _ _ _ hk] at hq
      rw [getD_set_ne _ _ _ _ _ (by omega)]
      intro e
      have := (hvlt q hq).1
      have := (hold j q hj e).2
      omega
    · rw [getD_set_ne _ _ _ _ _ hki] at hq
      by_cases hkj : k = j
      · subst hkj
        rw [getD_set_eq _ _ _ _ hk]
        intro e
        have := (hvlt q e).1
        have := (hold i q (by omega) hq).2
        omega
      · rw [getD_set_ne _ _ _ _ _ hkj]
        exact h.apartV i j q hij hj hq

theorem CM.subs {w : World} {gC base base' : Nat} {vs : List Value} {xss : List (List Int)} (h : CM w gC base vs xss) (hb : base' ≤ gC) (hg : gC < base) (hl : vs.length ≤ 2) : Subs w base' (.slice (some ⟨gC, 0, none⟩) vs.length vs.length) vs xss := by
  refine ⟨⟨by omega, .inr ⟨gC, vs.length, vs.toArray, rfl, hb, h.row, Nat.le_refl _, by unfold maxLen; omega, by simp, by simp⟩⟩, h.len.symm, fun i hi => Own.mono (h.own i hi) (by omega), ?_, h.apartV⟩
  intro i q hi hq e
  have e' : gC = q := by simpa [Value.ownBlock] using e
  have := ((h.own i hi).lt q hq).1
  omega

def fillV (c : Nat) (us : List Value) : List Value := us ++ List.replicate (c - us.length) (.slice none 0 0)
def fillX (c : Nat) (zs : List (List Int)) : List (List Int) := zs ++ List.replicate (c - zs.length) []

theorem fill_set' {α : Type} (c : Nat) (us : List α) (x d : α) (h : us.length < c) : (us ++ List.replicate (c - us.length) d).set us.length x = (us ++ [x]) ++ List.replicate (c - (us ++ [x]).length) d := by
  obtain ⟨m, hm⟩ : ∃ m, c - us.length = m + 1 := ⟨c - us.length - 1, by omega⟩
  rw [List.set_append_right _ _ (Nat.le_refl _), Nat.sub_self, hm, List.replicate_succ, List.set_cons_zero, List.length_append, List.length_singleton, List.append_assoc, show c - (us.length + 1) = m by omega]
  rfl

theorem CM.start (w : World) (gC base c : Nat) (h : Box w gC (List.replicate c (Value.slice none 0 0)).toArray 22) : CM w gC base (fillV c []) (fillX c []) := by
  have e1 : fillV c [] = List.replicate c (Value.slice none 0 0) := by simp [fillV]
  have e2 : fillX c [] = List.replicate c [] := by simp [fillX]
  rw [e1, e2]
  refine ⟨h, by simp, fun i hi => ?_, fun i j q hij hj hq => ?_⟩
  · rw [List.length_replicate] at hi
    have e1 : (List.replicate c (Value.slice none 0 0)).getD i undef = .slice none 0 0 := by simp [List.getD, hi]
    have e2 : (List.replicate c ([] : List Int)).getD i [] = [] := by simp [List.getD, hi]
    rw [e1, e2]
    exact Own.nil _ _
  · rw [List.length_replicate] at hj
    have e1 : (List.replicate c (Value.slice none 0 0)).getD i undef = .slice none 0 0 := by simp [List.getD, show i < c by omega]
    rw [e1] at hq
    cases hq

/-- both lists are written anew, in their place -/
theorem CM.two {w w' : World} {gC base g0 g1 n c0 c1 : Nat} {xs ys A B : List Int} (h : CM w gC base [.slice (some ⟨g0, 0, none⟩) n c0, .slice (some ⟨g1, 0, none⟩) n c1] [xs, ys]) (ht : Two w w' g0 g1) (hg : gC < base) (hb0 : base ≤ g0) (hb1 : base ≤ g1) (hw : gC < w.heap.size)
    (hA : Row w' base g0 n c0 A) (hB : Row w' base g1 n c1 B) : CM w' gC base [.slice (some ⟨g0, 0, none⟩) n c0, .slice (some ⟨g1, 0, none⟩) n c1] [A, B] := by
  refine ⟨?_, rfl, fun i hi => ?_, h.apartV⟩
  · have := h.row
    unfold Box at this ⊢
    rw [ht.block gC hw (by omega) (by omega), this]
  · rcases (show i = 0 ∨ i = 1 by simp at hi; omega) with rfl | rfl
    · exact hA.own
    · exact hB.own
end Go.Proofs.YtncmgnmcggkhnaaGreat

namespace Go.Proofs.YtncmgnmcggkhnaaGreat
open Go.RowKit

def allFit (bits : Nat) (chs : List (List Int)) : Bool := chs.all (fun c => c.all (fitsB bits))

def ChPost (w : World) (b : Nat) (s : ByteArray) (l : List Bool) (h : Head) (mode n : Nat) (e : Ending) (w' : World) : Prop :=
  ∃ (v : Value) (ok : Bool), e = .returned (.tuple #[v, .bool ok]) ∧ w.grownBy w' (some b) ∧
    ((ok = true ∧ ∃ vs subs l', Subs w' w.heap.size v vs (apart mode subs) ∧ Sp w' b s (some l') ∧ pChannels n h.bits mode h.channels 0 l = some (subs, l') ∧ allFit h.bits (apart mode subs) = true) ∨
     (ok = false ∧ ∀ subs l', pChannels n h.bits mode h.channels 0 l = some (subs, l') → allFit h.bits (apart mode subs) = false))

theorem Two.box {w w' : World} {g0 g1 g : Nat} {cs : Array Value} {t : TypeId} (ht : Two w w' g0 g1) (h : Box w g cs t) (h0 : g ≠ g0) (h1 : g ≠ g1) : Box w' g cs t := by
  have hl := h.lt
  unfold Box at *
  rw [ht.block g hl h0 h1, h]

theorem Two.sp {w w' : World} {g0 g1 b : Nat} {s : ByteArray} {σ : Option (List Bool)} (ht : Two w w' g0 g1) (h : Sp w b s σ) (h0 : b ≠ g0) (h1 : b ≠ g1) : Sp w' b s σ := by
  cases σ with
  | none => exact ht.box h h0 h1
  | some l => obtain ⟨a, ha, hl, h⟩ := h; exact ⟨a, ha, hl, ht.box h h0 h1⟩

theorem Two.grown {w wr w' : World} {g0 g1 b : Nat} (h : w.grownBy wr (some b)) (ht : Two wr w' g0 g1) (h0 : w.heap.size ≤ g0) (h1 : w.heap.size ≤ g1) : w.grownBy w' (some b) :=
  ⟨ht.os.trans h.os, ht.tape.trans h.tape, ht.output.trans h.output, Nat.le_trans h.size ht.size, fun i hi hne => (ht.block i (Nat.lt_of_lt_of_le hi h.size) (by omega) (by omega)).trans (h.block i hi hne)⟩

/-- what the loop over the subframes knows -/
structure ChInv (w wr : World) (b : Nat) (s : ByteArray) (l : List Bool) (h : Head) (mode n gC base : Nat) (us : List Value) (zs : List (List Int)) (l' : List Bool) : Prop where
  grow : w.grownBy wr (some b)
  hd : Box wr w.heap.size #[.int .i64 mode, .int .i64 n] 104
  inf : Box wr (w.heap.size + 1) (headC h) 46
  mem : CM wr gC base (fillV h.channels us) (fillX h.channels zs)
  sp : Sp wr b s (some l')
  ul : us.length = zs.length
  up : UptoC n h.bits mode h.channels zs.length zs (some l) (some l')
  lens : ∀ z ∈ zs, z.length = n ∧ Abs 65536 z
  big : base ≤ wr.heap.size

theorem replicate_of_made {cur : Array Value} {c : Nat} {z : Value} (h1 : cur.size = c) (h2 : cur.toList.take c = (madeCells #[z] c).toList) : cur = (List.replicate c z).toArray := by
  apply Array.ext'
  rw [← List.take_of_length_le (show cur.toList.length ≤ c by simp [h1]), h2, toList_madeCells_one]

theorem Ends.posi {α : Type} {p : P α} {l r : List Bool} {x : α} (h : Ends p (some l) x (some r)) : p l = some (x, r) := by
  rcases h.cases with ⟨r', e, e2⟩ | ⟨_, e⟩
  · injection e2 with e2; rw [e, e2]
  · cases e

theorem ext_le (mode i : Nat) : extra mode i ≤ 1 := by unfold extra; split <;> omega

set_option maxHeartbeats 8000000 in
set_option maxRecDepth 20000 in
theorem qreadchans (w : World) (b : Nat) (s : ByteArray) (l : List Bool) (h : Head) (mode n : Nat) (hs : s.size ≤ 6000) (hn : n ≤ 256) (hn1 : 1 ≤ n) (hc1 : 1 ≤ h.channels) (hc2 : h.channels ≤ 2) (hb1 : 4 ≤ h.bits) (hb2 : h.bits ≤ 16) (hst : Sp w b s (some l)) :
    Calls Tryz.prog 49 #[.pointer (some ⟨b, 0, none⟩), .agg #[.int .i64 mode, .int .i64 n], .agg (headC h)] w (ChPost w b s l h mode n) := by
  obtain ⟨i1, hi, hz0, hz1, hz2⟩ := info_parts Tryz.info22
  have hblt := hst.lt
  unfold headC
  go_enter Tryz.func49, Tryz.ntmps49
  go_upto_region 1 with fail
  have h2 := two_new w _ rfl #[Value.int .i64 mode, .int .i64 n] #[Value.int .i64 h.block, .int .i64 h.rate, .int .i64 h.channels, .int .i64 h.bits, .int .i64 h.total] 104 46
  obtain ⟨w0, hw0⟩ : ∃ w0, (w.alloc (.cells #[Value.int .i64 mode, .int .i64 n] 104)).alloc (.cells #[Value.int .i64 h.block, .int .i64 h.rate, .int .i64 h.channels, .int .i64 h.bits, .int .i64 h.total] 46) = w0 := ⟨_, rfl⟩
  rw [hw0] at h2 ⊢
  obtain ⟨hg0, hbH0, hbI0⟩ := h2
  have hs0 : w0.heap.size = w.heap.size + 2 := by rw [← hw0]; simp
  clear hw0
  have c2 : w0.cell? ⟨w.heap.size + 1, 2, none⟩ = some (.int .i64 h.channels) := hbI0.cell 2
  go_wp2_with (first
    | (at_make; refine wpList_make_full _ rfl _ _ 23 rfl w0.heap.size 22 i1 (.slice none 0 0) 1 Tryz.underlying23 hi hz0 hz1 _ _ _ _ h.channels rfl rfl rfl rfl ?m1 ?m2 ?m3 ?_))
  case m1 => rw [hz2]; omega
  case m2 => unfold maxLen; omega
  case m3 => exact Nat.le_refl _
  intro w1 hmade hg1
  have hboxC : Box w1 (w.heap.size + 2) (List.replicate h.channels (Value.slice none 0 0)).toArray 22 := by
    rcases hmade.2 with ⟨e, _⟩ | ⟨g, cap, cur, e, _, hblk, _, _, hcs, htake⟩
    · cases e
    · simp only [Value.slice.injEq, Option.some.injEq, Addr.mk.injEq, and_true, true_and] at e
      obtain ⟨rfl, rfl⟩ := e
      rw [Nat.mul_one] at hcs htake
      have hr := replicate_of_made hcs htake
      rw [← hr]
      exact hblk
  have hlt1 := hboxC.lt
  obtain ⟨base, hbase⟩ : ∃ base, base = w.heap.size + 3 := ⟨_, rfl⟩
  have hinv : ChInv w w1 b s l h mode n (w.heap.size + 2) base [] [] l :=
    ⟨grown_own (grown_own (grown_refl _ _) hg0 (fun q e => by cases e)) hg1 (fun q e => by cases e), hbH0.kept hg1 (by simp), hbI0.kept hg1 (by simp), CM.start _ _ _ _ hboxC, (hst.kept hg0 (by simp)).kept hg1 (by simp), rfl, UptoC.start _ _ _ _ _, (fun z hz => by cases hz), by omega⟩
  clear hmade hg1 hboxC hg0 hbH0 hbI0 hs0 c2 hi hz0 hz1 hz2 hst
  have hbb : b < base := by omega
  have hcb : w.heap.size + 2 < base := by omega
  have HBASE : Hid (base = w.heap.size + 3) := hbase
  clear hbase
  go_wp2_with fail
  go_loopg [19] h.channels (fun gk i wr => ∃ (us : List Value) (zs : List (List Int)) (l' : List Bool), gk + zs.length = h.channels ∧ i = .int .i64 zs.length ∧ ChInv w wr b s l h mode n (w.heap.size + 2) base us zs l')
  case atStart => exact ⟨[], [], l, by simp, rfl, hinv⟩
  case round =>
    clear hinv
    obtain ⟨us, zs, l', hgk, rfl, hinv⟩ := hrel
    obtain ⟨k, hk⟩ : ∃ k, zs.length = k := ⟨_, rfl⟩
    have HK : Hid (zs.length = k) := hk
    rw [hk] at hgk ⊢
    clear hk
    by_cases hlt : k < h.channels
    · have e0 : wr.cell? ⟨w.heap.size, 0, none⟩ = some (.int .i64 mode) := hinv.hd.cell 0
      have e1 : wr.cell? ⟨w.heap.size, 1, none⟩ = some (.int .i64 n) := hinv.hd.cell 1
      have e3 : wr.cell? ⟨w.heap.size + 1, 3, none⟩ = some (.int .i64 h.bits) := hinv.inf.cell 3
      have hex := ext_le mode k
      have HW := fun w => qwide w mode k h.bits (by omega) hb2
      obtain ⟨W, hW⟩ : ∃ W, h.bits + extra mode k = W := ⟨_, rfl⟩
      have HWE : Hid (h.bits + extra mode k = W) := hW
      rw [hW] at HW
      have hW1 : 1 ≤ W := by omega
      have hW2 : W ≤ 17 := by omega
      have hspd : Sp wr.drew b s (some l') := hinv.sp.drewN 1
      have HS := qsubframe wr.drew b s n W (some l') hs hn hn1 hW1 hW2 hspd
      have hgk0 : 0 < gk := by omega
      clear hW hex hspd
      go_upto_region 5 with fail
      go_cut [10, 11] (fun s10 s11 wx => SubfPost wr.drew b s (some l') n W (.returned (.tuple #[s10, s11])) wx)
      case first =>
        go_region_with (first
          | (go_at_call 66; refine (HW _).mono ?_; rintro e w2 ⟨rfl, rfl⟩)
          | (go_at_call 65; refine HS.mono ?_; rintro e w3 ⟨v, ok, rfl, hg3, hcase⟩; have hfin : SubfPost wr.drew b s (some l') n W (.returned (.tuple #[v, .bool ok])) w3 := ⟨v, ok, rfl, hg3, hcase⟩; clear hcase hg3))
        all_goals
          go_wp2
          go_meet
          case rel => exact hfin
      case rest =>
        obtain ⟨v, ok, e, hg3, hcase⟩ := hcut
        injection e with e
        injection e with e
        injection e with e
        injection e with ev e
        injection e with eo _
        have ev2 := ev.symm
        have eo2 := eo.symm
        subst ev2
        subst eo2
        have hgd := grown_drew (grown_refl wr (some b))
        have hg4 := grown_trans hgd hg3
        have hgg : w.grownBy wc (some b) := grown_trans hinv.grow hg4
        have hhd := hinv.hd.kept hg4 (fun e => by injection e with e; omega)
        have hinf := hinv.inf.kept hg4 (fun e => by injection e with e; omega)
        clear HS HW e0 e1 e3
        rcases hcase with ⟨rfl, xs, l5, hown, hxl, hfit, hsp, hends⟩ | ⟨rfl, hbad⟩
        · have hfv : fillV h.channels us = us ++ List.replicate (h.channels - us.length) (.slice none 0 0) := rfl
          have hul : us.length = k := by rw [hinv.ul, HK.out]
          have hvl : (fillV h.channels us).length = h.channels := by rw [hfv, List.length_append, List.length_replicate, hul]; omega
          have hset := hinv.mem.set hg4 hbb (by omega) hcb hinv.big (B := wr.heap.size) rfl hown (k := k) (by rw [hvl]; exact hlt)
          have hck : wc.cell? ⟨w.heap.size + 2, k, none⟩ = some (.slice none 0 0) := by
            rw [(hinv.mem.kept hg4 hbb (by omega)).row.cell k, hfv, List.getElem?_toArray, List.getElem?_append_right (by omega), hul, Nat.sub_self, List.getElem?_replicate, if_pos (by omega)]
          have hfk := (hinv.mem.kept hg4 hbb (by omega)).row.fz k
          have e1 : (fillV h.channels us).set k v = fillV h.channels (us ++ [v]) := by
            unfold fillV
            rw [← hul]
            exact fill_set' h.channels us v _ (by rw [hul]; exact hlt)
          have e2 : (fillX h.channels zs).set k xs = fillX h.channels (zs ++ [xs]) := by
            unfold fillX
            rw [← HK.out]
            exact fill_set' h.channels zs xs _ (by rw [HK.out]; exact hlt)
          rw [e1, e2] at hset
          have hinv2 : ChInv w (wc.setCell ⟨w.heap.size + 2, k, none⟩ v) b s l h mode n (w.heap.size + 2) base (us ++ [v]) (zs ++ [xs]) l5 := by
            refine ⟨grown_own hgg hset.2 (fun q e => by injection e with e; omega), hhd.kept hset.2 (fun e => by injection e with e; omega), hinf.kept hset.2 (fun e => by injection e with e; omega), hset.1, hsp.kept hset.2 (fun e => by injection e with e; omega), by simp [hinv.ul], ?_, ?_, Nat.le_trans (Nat.le_trans hinv.big hg4.size) hset.2.size⟩
            · rw [List.length_append, List.length_singleton, HK.out]
              have hup := hinv.up
              rw [HK.out] at hup
              exact hup.next hlt (by rw [HWE.out]; exact hends)
            · intro z hz
              rcases List.mem_append.1 hz with hz | hz
              · exact hinv.lens z hz
              · rw [List.mem_singleton.1 hz]
                exact ⟨hxl, fun x hx => fits_abs W hW2 x (hfit x hx)⟩
          have hlen2 : (zs ++ [xs]).length = k + 1 := by rw [List.length_append, List.length_singleton, HK.out]
          have HLEN2 : Hid ((zs ++ [xs]).length = k + 1) := hlen2
          obtain ⟨av, cv, rfl⟩ := own_slice hown
          clear hset e1 e2 hfv hul hvl hown hxl hfit hsp hends hinv hgg hhd hinf hg4 hgd hg3 hlen2
          go_wp2
          go_roundg (gk - 1)
          case measure => omega
          case rel => exact ⟨us ++ [.slice av xs.length cv], zs ++ [xs], l5, by rw [HLEN2.out]; omega, by rw [HLEN2.out]; go_num, hinv2⟩
        · have hnone : ∀ subs l'', pChannels n h.bits mode h.channels 0 l = some (subs, l'') → allFit h.bits (apart mode subs) = false := by
            intro subs l'' he
            have hup := hinv.up
            rw [HK.out] at hup
            have hup2 := hup.next hlt (by rw [HWE.out]; exact hbad [])
            rcases hup2 with ⟨_, _, _, e, _⟩ | ⟨_, hd⟩
            · cases e
            · rcases (hd []).cases with ⟨_, _, e⟩ | ⟨e, _⟩
              · cases e
              · rw [e] at he; cases he
          have hpost : ChPost w b s l h mode n (.returned (.tuple #[.slice none 0 0, .bool false])) wc := ⟨_, false, rfl, hgg, .inr ⟨rfl, hnone⟩⟩
          clear hnone hbad hinv hhd hinf
          go_wp2
          exact bodyPost_ret (v := .tuple #[.slice none 0 0, .bool false]) (by simp [results, Tryz.results49, go_sem]) rfl hpost
    · have hkc : k = h.channels := by omega
      have hzl : zs.length = h.channels := by rw [HK.out, hkc]
      have hul : us.length = h.channels := by rw [hinv.ul, hzl]
      have hall : pChannels n h.bits mode h.channels 0 l = some (zs, l') := by
        have := hinv.up
        rw [hzl] at this
        exact (this.ends).posi
      have hmem : CM wr (w.heap.size + 2) base us zs := by
        have := hinv.mem
        unfold fillV fillX at this
        rw [hul, hzl, Nat.sub_self] at this
        simpa using this
      have hgr := hinv.grow
      have hinf := hinv.inf
      have hsp := hinv.sp
      have hlens := hinv.lens
      have hbig := hinv.big
      have e0 : wr.cell? ⟨w.heap.size, 0, none⟩ = some (.int .i64 mode) := hinv.hd.cell 0
      have HZL : Hid (zs.length = h.channels) := hzl
      have HUL : Hid (us.length = h.channels) := hul
      have hbase0 := HBASE.out
      have tk : decide ((k : Int) < (h.channels : Int)) = false := decide_eq_false (by omega)
      clear hinv hzl hul hkc HK
      go_upto_if 44 with fail
      go_cut [8] (fun s8 wx => s8 = .slice (some ⟨w.heap.size + 2, 0, none⟩) h.channels h.channels ∧ w.grownBy wx (some b) ∧ CM wx (w.heap.size + 2) base us (apart mode zs) ∧ Sp wx b s (some l') ∧ Box wx (w.heap.size + 1) (headC h) 46)
      case first =>
        rcases (show h.channels = 1 ∨ h.channels = 2 by omega) with hc | hc
        · have t2 : ((h.channels : Int) == 2) = false := by simp; omega
          have hap : apart mode zs = zs := apart_one zs (by rw [HZL.out, hc])
          rw [← hap] at hmem
          clear hc hap
          go_wp2
          go_meet
          case rel => exact ⟨rfl, hgr, hmem, hsp, hinf⟩
        · have t2 : ((h.channels : Int) == 2) = true := by simp; omega
          obtain ⟨z0, z1, hzs⟩ := two_of_length (show zs.length = 2 by rw [HZL.out, hc])
          obtain ⟨u0, u1, hus⟩ := two_of_length (show us.length = 2 by rw [HUL.out, hc])
          subst hzs
          subst hus
          have hl0 := hlens z0 (by simp)
          have hl1 := hlens z1 (by simp)
          have ho0 : Own wr base u0 z0 := hmem.own 0 (by simp)
          have ho1 : Own wr base u1 z1 := hmem.own 1 (by simp)
          obtain ⟨g0, c0, rfl, hr0⟩ := ho0.full (by omega)
          obtain ⟨g1, c1, rfl, hr1⟩ := ho1.full (by omega)
          rw [hl0.1] at hr0 hmem
          rw [hl1.1] at hr1 hmem
          have hne : g0 ≠ g1 := fun e => hmem.apartV 0 1 g0 (by omega) (by simp) rfl (by rw [e]; rfl)
          have hd0 := hr0.lt
          have hd1 := hr1.lt
          have k0 : wr.cell? ⟨w.heap.size + 2, 0, none⟩ = some (.slice (some ⟨g0, 0, none⟩) n c0) := hmem.row.cell 0
          have k1 : wr.cell? ⟨w.heap.size + 2, 1, none⟩ = some (.slice (some ⟨g1, 0, none⟩) n c1) := hmem.row.cell 1
          have hgd := grown_drew (grown_refl wr none)
          have hcall := qpartm wr.drew base mode g0 g1 n c0 c1 z0 z1 hn hl0.2 hl1.2 hne (hr0.kept hgd (by simp)) (hr1.kept hgd (by simp))
          have hfin : ∀ w', Two wr.drew w' g0 g1 → Row w' base g0 n c0 ((List.zipWith (pair mode) z0 z1).map (·.1)) → Row w' base g1 n c1 ((List.zipWith (pair mode) z0 z1).map (·.2)) →
              w.grownBy w' (some b) ∧ CM w' (w.heap.size + 2) base [.slice (some ⟨g0, 0, none⟩) n c0, .slice (some ⟨g1, 0, none⟩) n c1] (apart mode [z0, z1]) ∧ Sp w' b s (some l') ∧ Box w' (w.heap.size + 1) (headC h) 46 := by
            intro w' ht hA hB
            have ht' : Two wr w' g0 g1 := ⟨ht.os, ht.tape, ht.output, ht.size, ht.block⟩
            exact ⟨Two.grown hgr ht' (by omega) (by omega), hmem.two ht' hcb hd0.1 hd1.1 (by omega) hA hB, ht'.sp hsp (by omega) (by omega), ht'.box hinf (by omega) (by omega)⟩
          have HFIN : Hid _ := hfin
          have HL0 : Hid _ := hl0
          have HL1 : Hid _ := hl1
          have hc0 : (0 : Int) < (h.channels : Int) := by omega
          have hc1' : (1 : Int) < (h.channels : Int) := by omega
          clear hfin hl0 hl1 ho0 ho1 hr0 hr1 hmem hlens hsp hinf hgr hc
          go_wp2_with fail
          go_region_with (go_at_call 67; refine hcall.mono ?_; rintro e w2 ⟨rfl, ht, hA, hB⟩)
          all_goals
            have hf := HFIN.out w2 ht hA hB
            clear ht hA hB
            go_wp2
            go_meet
            case rel => exact ⟨rfl, hf.1, by rw [HL0.out.1, HL1.out.1]; exact hf.2.1, hf.2.2.1, hf.2.2.2⟩
      case rest =>
        obtain ⟨hs8, hgr8, hmem8, hsp8, hinf8⟩ := hcut
        subst hs8
        have hnew : Subs wc w.heap.size (.slice (some ⟨w.heap.size + 2, 0, none⟩) h.channels h.channels) us (apart mode zs) := by
          have := hmem8.subs (base' := w.heap.size) (by omega) hcb (by rw [HUL.out]; exact hc2)
          rw [HUL.out] at this
          exact this
        have HSUBS : Hid _ := hnew
        obtain ⟨chs, hchs⟩ : ∃ chs, apart mode zs = chs := ⟨_, rfl⟩
        have HCHS : Hid (apart mode zs = chs) := hchs
        have hcl : chs.length = h.channels := by rw [← hchs, hmem8.len, HUL.out]
        have HCL : Hid (chs.length = h.channels) := hcl
        rw [hchs] at hmem8
        have hlensC : ∀ j, j < h.channels → (chs.getD j []).length = n := by
          have ha := apart_spec mode n zs (fun j hj => by
            have hz : zs.getD j [] ∈ zs := by
              rw [show zs.getD j [] = zs[j] by simp [List.getD, hj]]
              exact List.getElem_mem hj
            exact (hlens _ hz).1)
          intro j hj
          rw [← hchs]
          exact ha.2 j (by rw [HZL.out]; exact hj)
        have e3 : wc.cell? ⟨w.heap.size + 1, 3, none⟩ = some (.int .i64 h.bits) := hinf8.cell 3
        have HALL : Hid (pChannels n h.bits mode h.channels 0 l = some (zs, l')) := hall
        have HCM : Hid _ := hmem8
        have HGR : Hid _ := hgr8
        have HSP : Hid _ := hsp8
        have HLC : Hid _ := hlensC
        clear hnew hchs hcl hall hmem hgr hinf hsp hlens hbig e0 tk hmem8 hgr8 hsp8 hinf8 hlensC
        go_wp2_with fail
        go_loop [56] (fun i => ∃ j : Nat, j ≤ h.channels ∧ i = .int .i64 j ∧ allFit h.bits (chs.take j) = true) (fun i => h.channels - (intOf i).toNat)
        case atStart => exact ⟨0, Nat.zero_le _, rfl, rfl⟩
        case round =>
          obtain ⟨j, hj, rfl, hjall⟩ := hrel
          have HJ : Hid (allFit h.bits (chs.take j) = true) := hjall
          clear hjall
          by_cases hjl : j < h.channels
          · have ho := HCM.out.own j (by rw [HUL.out]; exact hjl)
            have hxl := HLC.out j hjl
            obtain ⟨u, hu⟩ : ∃ u, us.getD j undef = u := ⟨_, rfl⟩
            obtain ⟨xs, hxs⟩ : ∃ xs, chs.getD j [] = xs := ⟨_, rfl⟩
            have hcj : wc.cell? ⟨w.heap.size + 2, j, none⟩ = some u := by
              rw [HCM.out.row.cell j, ← hu, List.getElem?_toArray]
              have : j < us.length := by rw [HUL.out]; exact hjl
              simp [List.getD, this]
            rw [hu, hxs] at ho
            rw [hxs] at hxl
            have hstep : allFit h.bits (chs.take (j + 1)) = (allFit h.bits (chs.take j) && xs.all (fitsB h.bits)) := by
              have hjc : j < chs.length := by rw [HCL.out]; exact hjl
              unfold allFit
              rw [List.take_succ_eq_append_getElem hjc, List.all_append]
              have : chs[j] = xs := by rw [← hxs]; simp [List.getD, hjc]
              rw [this]
              simp
            have HSTEP : Hid _ := hstep
            have hq := qfit wc u xs h.bits (by omega) (by omega) (by omega) ho.lo
            obtain ⟨au, cu, rfl⟩ := own_slice ho
            clear hu hxs hstep ho hxl
            cases hfit : xs.all (fitsB h.bits) with
            | true =>
              rw [hfit] at hq
              have hnx : allFit h.bits (chs.take (j + 1)) = true := by rw [HSTEP.out, HJ.out, hfit]; rfl
              have HNX : Hid _ := hnx
              clear hnx hfit HSTEP
              go_wp2_with fail
              refine hq.mono ?_
              rintro e w9 ⟨rfl, rfl⟩
              clear hq
              go_wp2
              go_round
              case rel => exact ⟨j + 1, by omega, by go_num, HNX.out⟩
              case measure => simp [intOf]; omega
            | false =>
              rw [hfit] at hq
              have hno : allFit h.bits chs = false := by
                unfold allFit
                rw [← List.take_append_drop (j + 1) chs, List.all_append]
                have := HSTEP.out
                unfold allFit at this
                rw [this, hfit]
                simp
              have hpost : ChPost w b s l h mode n (.returned (.tuple #[.slice none 0 0, .bool false])) wc := ⟨_, false, rfl, HGR.out, .inr ⟨rfl, fun subs l'' he => by
                rw [HALL.out] at he
                injection he with he
                injection he with he _
                rw [← he, HCHS.out]
                exact hno⟩⟩
              clear hno hfit HSTEP
              go_wp2_with fail
              refine hq.mono ?_
              rintro e w9 ⟨rfl, rfl⟩
              clear hq
              go_wp2
              exact bodyPost_ret (v := .tuple #[.slice none 0 0, .bool false]) (by simp [results, Tryz.results49, go_sem]) rfl hpost
          · have tj : decide ((j : Int) < (h.channels : Int)) = false := decide_eq_false (by omega)
            have hje : j = h.channels := by omega
            have hyes : allFit h.bits chs = true := by
              have := HJ.out
              rw [hje, ← HCL.out, List.take_length] at this
              exact this
            have hpost : ChPost w b s l h mode n (.returned (.tuple #[.slice (some ⟨w.heap.size + 2, 0, none⟩) h.channels h.channels, .bool true])) wc :=
              ⟨_, true, rfl, HGR.out, .inl ⟨rfl, us, zs, l', HSUBS.out, HSP.out, HALL.out, by rw [HCHS.out]; exact hyes⟩⟩
            clear hyes hje
            go_wp2
            exact bodyPost_ret (v := .tuple #[.slice (some ⟨w.heap.size + 2, 0, none⟩) h.channels h.channels, .bool true]) (by simp [results, Tryz.results49, go_sem]) rfl hpost
end Go.Proofs.YtncmgnmcggkhnaaGreat
