import Derived.Test.YtncmgnmcggkhnaaG51
import Derived.Test.YtncmgnmcggkhnaaG37
import Derived.Deep.RegionHeldLaw
import Derived.Deep.DeepCutAuto
import Derived.Deep.CutBlock
import Derived.Deep.LoopGhost
namespace Go.Proofs.Ytncmgnmcggkhnaa
open Go.RowKit

/-- behind keep: the world goes on to `en` -/
def KeptPost (w : World) (gW t en : Nat) (S : Nat → Prop) (e : Ending) (w3 : World) : Prop :=
  e = .returned (.tuple #[]) ∧ (∃ u, w3.cell? ⟨gW, 4, none⟩ = some u) ∧ w3.frozen? ⟨gW, 4, none⟩ = false ∧ StepPost w gW t S (.returned (.bool true)) (w3.setCell ⟨gW, 4, none⟩ (.int .i64 en))

section
variable {w w0 w1 w2 : World} {gW : Nat} {X : Wd} {gM : Nat} {h : Head} {chs : List (List Int)} {l : List Fr} {pv : Value} {nM : Nat} {M M' : Int → Option Value} {KB KB' D BS S : Nat → Prop} {N Mo t en : Nat} {lv : Value} {vs : List Value}

theorem side_read (hp : SideP w gW X gM h chs l pv nM M KB D BS N Mo t) (hS : ∀ q, S q ↔ sideB X.gB gM pv KB D BS q) (hg0 : w.grownBy w0 none) (hk1 : Kp w0 w1 (fun b => b = X.gB ∨ b = gM)) (hr1 : Rdr w1 X.gB gM h l pv en (nM + 1300) M' KB') (hsub : ∀ b, KB' b → KB b ∨ w0.heap.size ≤ b)
    (hL : Subs w1 w0.heap.size lv vs (cutAll X.pos en chs)) (hfar : ∀ b, (lv.ownBlock = some b ∨ ∃ i, i < vs.length ∧ (vs.getD i undef).ownBlock = some b) → ¬ KB' b) (hg2 : w1.grownBy w2 none) (hen : en ≤ h.total) (ht : t ≤ 100000000) :
    Calls Try.prog 19 #[.pointer (some ⟨gW, 5, none⟩), lv] w2 (KeptPost w gW t en S) := by
  obtain ⟨b1, b2, b3, b4, b5, b6, b7, b8⟩ := headOk_parts hp.fr.ok
  have hsz0 := hg0.size
  have hsz1 := hk1.size
  have hsz2 := hg2.size
  have hch := hp.fr.ch
  have hgl := (hp.book.lt gW hp.book.own).2
  have hKl : ∀ q, Kl lv vs 0 q → w0.heap.size ≤ q ∧ q < w1.heap.size ∧ ¬ KB' q := by
    rintro q (hq | ⟨j, _, hj, hq⟩)
    · exact ⟨(World.ownsRow.lt hL.row q hq).1, (World.ownsRow.lt hL.row q hq).2, hfar q (.inl hq)⟩
    · exact ⟨((hL.own j hj).lt q hq).1, ((hL.own j hj).lt q hq).2, hfar q (.inr ⟨j, hj, hq⟩)⟩
  have hBS : ∀ q, BS q → q < w.heap.size := fun q hq => (hp.book.lt q hq).2
  have hrdO : ∀ q, rdrB X.gB gM pv KB q → q < w.heap.size := fun q hq => hp.rdr.blt q hq
  have hrdN : ∀ q, rdrB X.gB gM pv KB' q → rdrB X.gB gM pv KB q ∨ (w0.heap.size ≤ q ∧ KB' q) := by
    rintro q (hq | hq | hq | hq)
    · exact .inl (.inl hq)
    · exact .inl (.inr (.inl hq))
    · exact .inl (.inr (.inr (.inl hq)))
    · rcases hsub q hq with h1 | h1
      · exact .inl (.inr (.inr (.inr h1)))
      · exact .inr ⟨h1, hq⟩
  have hrdB : ∀ q, rdrB X.gB gM pv KB' q → ¬ BS q := fun q hq hb => by
    rcases hrdN q hq with h1 | h1
    · exact (hp.rd q h1).2 hb
    · have := hBS q hb; omega
  have hrdK : ∀ q, rdrB X.gB gM pv KB' q → ¬ Kl lv vs 0 q := fun q hq hk => by
    have h2 := hKl q hk
    rcases hrdN q hq with h1 | h1
    · have := hrdO q h1; omega
    · exact h2.2.2 h1.2
  have hrdD : ∀ q, rdrB X.gB gM pv KB' q → ¬ D q := fun q hq hd => by
    rcases hrdN q hq with h1 | h1
    · exact (hp.rd q h1).1 hd
    · have := hp.dlt q hd; omega
  -- the book, the sound and the reader at w2
  have hbk0 := hp.book.kp (Kp.ofNone (S := fun _ => False) hg0) (fun _ _ e => e)
  have hbk1 := hbk0.kp hk1 (fun q hq e => by rcases e with rfl | rfl; exact (hp.rd _ (.inl rfl)).2 hq; exact (hp.rd _ (.inr (.inl rfl))).2 hq)
  have hbk2 := hbk1.kp (Kp.ofNone (S := fun _ => False) hg2) (fun _ _ e => e)
  have hsn1 := (hp.snd.kept hg0).kp hk1 (fun q hq e => by rcases e with rfl | rfl; exact (hp.rd _ (.inl rfl)).1 hq; exact (hp.rd _ (.inr (.inl rfl))).1 hq)
  have hsn2 := hsn1.kept hg2
  have hr2 := hr1.kp (Kp.ofNone (S := fun _ => False) hg2) (fun _ _ e => e)
  have hL2 := hL.new hg2
  have hk02 : Kp w w2 (fun b => b = X.gB ∨ b = gM) := ((Kp.ofNone hg0).trans hk1 (fun b hb => .inl hb)).trans (Kp.ofNone (S := fun _ => False) hg2) (fun b e => e.elim)
  have hcl : (cutAll X.pos en chs).length = h.channels := by unfold cutAll; rw [List.length_map]; exact hch
  have hnb := hp.nb
  have hmb := hp.mb
  have hmm := hp.mm
  have hn4 := hp.n4
  have hm4 := hp.m4
  refine (hbk2.keep hL2 (by omega) (fun q hk hb => by have := (hKl q hk).1; have := hBS q hb; omega) hn4 (by omega) hm4 (by omega) (by omega) ?_).mono ?_
  · intro j hj
    rw [hcl] at hj
    rw [cutAll_get _ _ _ j (by omega), List.length_take, List.length_drop, hp.fr.total j hj]
    omega
  rintro e w3 ⟨rfl, hk3, BS', hbk3, hsub3⟩
  have hsz3 := hk3.size
  obtain ⟨iv3, ov3, hb3⟩ := hbk3.box
  have hr3 := hr2.kp hk3 (fun q hq e => by rcases e with e | e; exact hrdB q hq e; exact hrdK q hq e)
  have hsn3 := hsn2.kp hk3 (fun q hq e => by rcases e with e | e; exact hp.db q hq e; have := (hKl q e).1; have := hp.dlt q hq; omega)
  have hmv := side_move (t := t + 1) hbk3 hr3 hp.fr hsn3 hen (fun q hq => by have := hp.dlt q hq; omega) (fun q hq => ⟨hrdD q hq, fun hb => ?_⟩) (fun q hq hb => ?_) (by omega) (by omega) (by omega) (by omega) (by omega)
  · refine ⟨rfl, ⟨_, hb3.cell 4⟩, hb3.fz 4, rfl, ?_, sideB X.gB gM pv KB' D BS', ⟨_, gM, h, chs, l, pv, _, M', KB', D, BS', _, _, hmv, fun q => Iff.rfl⟩, fun q hq => ?_⟩
    · refine ((hk02.mono (S1 := S) (fun b hb => .inl ?_)).trans hk3 (fun b hb => ?_)).trans (Kp.of (grown_set _ _ _ _)) (fun b hb => .inl ?_)
      · rcases hb with rfl | rfl
        · exact (hS _).mpr (.inl (.inl rfl))
        · exact (hS _).mpr (.inl (.inr (.inl rfl)))
      · rcases hb with hb | hb
        · exact .inl ((hS b).mpr (.inr (.inr hb)))
        · exact .inr (by have := (hKl b hb).1; omega)
      · injection hb with hb
        subst hb
        exact (hS b).mpr (.inr (.inr hp.book.own))
    · rcases hq with hq | hq | hq
      · rcases hrdN q hq with h1 | h1
        · exact .inl ((hS q).mpr (.inl h1))
        · exact .inr (by omega)
      · exact .inl ((hS q).mpr (.inr (.inl hq)))
      · rcases hsub3 q hq with h1 | h1 | h1
        · exact .inl ((hS q).mpr (.inr (.inr h1)))
        · exact .inr (by have := (hKl q h1).1; omega)
        · exact .inr (by omega)
  · rcases hsub3 q hb with h1 | h1 | h1
    · exact hrdB q hq h1
    · exact hrdK q hq h1
    · have := hr1.blt q hq; omega
  · rcases hsub3 q hb with h1 | h1 | h1
    · exact hp.db q hq h1
    · have := (hKl q h1).1; have := hp.dlt q hq; omega
    · have := hp.dlt q hq; omega
end
end Go.Proofs.Ytncmgnmcggkhnaa

namespace Go.Proofs.Ytncmgnmcggkhnaa
open Go.RowKit

/-- what is wanted, so far: parts of the sound's lists -/
structure Want (w1 wr : World) (wv : Value) (i : Nat) (us : List Value) (ls : List (List Int)) : Prop where
  grown : w1.grownBy wr none
  row : wr.ownsRow w1.heap.size 30 1 wv i us
  each : ∀ j, j < i → RdL w1 (us.getD j undef) (ls.getD j [])

theorem Want.start {w1 wr : World} (hg : w1.grownBy wr none) (ls : List (List Int)) : Want w1 wr (.slice none 0 0) 0 [] ls := ⟨hg, World.ownsRow_nil _ _ _ _, fun j hj => by omega⟩

theorem Want.next {w1 wr wa w' : World} {wv : Value} {i g cap : Nat} {us : List Value} {u : Value} {ls : List (List Int)} (h : Want w1 wr wv i us ls) (hga : wr.grownBy wa none) (hg : wa.grownBy w' wv.ownBlock) (hrow : w'.ownsRow w1.heap.size 30 1 (.slice (some ⟨g, 0, none⟩) (i + 1) cap) (i + 1) (us ++ [u])) (hu : RdL w1 u (ls.getD i [])) :
    Want w1 w' (.slice (some ⟨g, 0, none⟩) (i + 1) cap) (i + 1) (us ++ [u]) ls := by
  refine ⟨grown_new (grown_trans h.grown hga) hg (fun q e => (World.ownsRow.lt h.row q e).1), hrow, fun j hj => ?_⟩
  have hul : us.length = i := by have := h.row.1; omega
  rcases (show j < i ∨ j = i by omega) with h1 | rfl
  · rw [getD_snoc_lt _ _ _ _ (by omega)]
    exact h.each j h1
  · have := getD_snoc_eq us u undef
    rw [hul] at this
    rw [this]
    exact hu

theorem Want.rds {w1 wr : World} {wv : Value} {n : Nat} {us : List Value} {ls : List (List Int)} (h : Want w1 wr wv n us ls) (hl : ls.length = n) : RdS wr wv ls := by
  obtain ⟨a, c, rfl⟩ := row_sliceK h.row
  refine ⟨a, c, by rw [hl], fun k hk => ?_⟩
  obtain ⟨g, ha, _, hc, _⟩ := row_cell1 h.row (i := k) (by omega)
  exact ⟨g, 0, _, ha, by rw [Nat.zero_add]; exact hc, (h.each k (by omega)).kept h.grown⟩

/-- behind Read -/
structure AfterRead (w w1 : World) (gW gB gO t n pos en tot nc lg lcap : Nat) (D S : Nat → Prop) (chs : List (List Int)) (lv : Value) : Prop where
  c0 : w1.cell? ⟨gW, 0, none⟩ = some (.pointer (some ⟨gB, 0, none⟩))
  d1 : w1.cell? ⟨gO, 1, none⟩ = some (.int .i64 n)
  c3 : w1.cell? ⟨gW, 3, none⟩ = some (.slice (some ⟨lg, 0, none⟩) nc lcap)
  c4 : w1.cell? ⟨gW, 4, none⟩ = some (.int .i64 pos)
  each : ∀ i, i < nc → ∃ vi, w1.cell? ⟨lg, i, none⟩ = some vi ∧ LoC w1 D vi (chs.getD i [])
  total : Calls Try.prog 57 #[.pointer (some ⟨gW, 0, none⟩)] w1 fun e w' => e = .returned (.int .i64 tot) ∧ w' = w1
  out : RdS w1 lv (cutAll pos en chs)
  keep : ∀ w2, w1.grownBy w2 none → Calls Try.prog 19 #[.pointer (some ⟨gW, 5, none⟩), lv] w2 (KeptPost w gW t en S)

theorem after_read {w w0 w1 : World} {gW : Nat} {X : Wd} {gM gO n : Nat} {h : Head} {chs : List (List Int)} {l : List Fr} {pv : Value} {nM : Nat} {M : Int → Option Value} {KB D BS S : Nat → Prop} {N Mo t en lg lcap : Nat} {e : Ending}
    (hp : SideP w gW X gM h chs l pv nM M KB D BS N Mo t) (hS : ∀ q, S q ↔ sideB X.gB gM pv KB D BS q) (hg0 : w.grownBy w0 none) (hd1 : w0.cell? ⟨gO, 1, none⟩ = some (.int .i64 n)) (hgO : w.heap.size ≤ gO) (hlv : X.lv = .slice (some ⟨lg, 0, none⟩) chs.length lcap) (hen : en ≤ h.total) (ht : t ≤ 100000000)
    (hpost : RdrPost w0 X.gB gM h chs l pv nM KB X.pos en e w1) : ∃ lv, e = .returned (.tuple #[lv, .int .i64 0]) ∧ AfterRead w w1 gW X.gB gO t n X.pos en h.total chs.length lg lcap D S chs lv := by
  obtain ⟨lv, vs, M', KB', rfl, hk1, hr1, hsub, hL, hfar⟩ := hpost
  have hbk0 := hp.book.kp (Kp.ofNone (S := fun _ => False) hg0) (fun _ _ e => e)
  have hbk1 := hbk0.kp hk1 (fun q hq e => by rcases e with rfl | rfl; exact (hp.rd _ (.inl rfl)).2 hq; exact (hp.rd _ (.inr (.inl rfl))).2 hq)
  have hsn1 := (hp.snd.kept hg0).kp hk1 (fun q hq e => by rcases e with rfl | rfl; exact (hp.rd _ (.inl rfl)).1 hq; exact (hp.rd _ (.inr (.inl rfl))).1 hq)
  obtain ⟨iv, ov, hb⟩ := hbk1.box
  have hgB := hp.lt X.gB (.inl (.inl rfl))
  have hgM := hp.lt gM (.inl (.inr (.inl rfl)))
  refine ⟨lv, rfl, hb.cell 0, cell_kp hd1 hk1 (cell_lt hd1) (fun e => by rcases e with e | e <;> (have e' : gO = _ := e; omega)), by rw [← hlv]; exact hb.cell 3, hb.cell 4, fun i hi => ?_, side_total hbk1 hp.fr hsn1, hL.ls2.rds, fun w2 hg2 => side_read hp hS hg0 hk1 hr1 hsub hL hfar hg2 hen ht⟩
  rw [hlv] at hsn1
  obtain ⟨lg', vi, e1, h1, h2⟩ := hsn1.at i hi
  injection e1 with e1
  injection e1 with e1
  subst e1
  exact ⟨vi, h1, h2⟩

theorem LoC.cut {w : World} {D : Nat → Prop} {b off n cap pos en : Nat} {xs : List Int} {ad : Option Addr} (h : LoC w D (.slice (some ⟨b, off, none⟩) n cap) xs) (hn : xs.length = n) (hpe : pos ≤ en) (hen : en ≤ n) (had : (if cap = pos then some (⟨b, off, none⟩ : Addr) else some ⟨b, off + pos, none⟩) = ad) :
    RdL w (.slice ad (en - pos) (cap - pos)) ((xs.drop pos).take (en - pos)) := by
  have hll : ((xs.drop pos).take (en - pos)).length = en - pos := by rw [List.length_take, List.length_drop, hn]; omega
  rcases h with ⟨e, _⟩ | ⟨b', off', cap', e, hcap, _, _, hc⟩
  · cases e
  injection e with e1 e2 e3
  injection e1 with e1
  injection e1 with e1 e4
  subst e1 e3 e4
  refine ⟨ad, cap - pos, by rw [hll], fun q hq => ?_⟩
  rw [hll] at hq
  have hx : ((xs.drop pos).take (en - pos)).getD q 0 = xs.getD (pos + q) 0 := by simp [List.getD, hq, List.getElem?_drop]
  rw [if_neg (by omega)] at had
  refine ⟨b, off + pos, had.symm, ?_⟩
  rw [hx, Nat.add_assoc]
  exact hc (pos + q) (by omega)
end Go.Proofs.Ytncmgnmcggkhnaa

namespace Go.Proofs.Ytncmgnmcggkhnaa
open Go.RowKit

set_option maxHeartbeats 4000000 in
set_option maxRecDepth 20000 in
/-- a read -/
theorem step_read (w : World) (gW t : Nat) (S : Nat → Prop) (X : Wd) (gM : Nat) (h : Head) (chs : List (List Int)) (l : List Fr) (pv : Value) (nM : Nat) (M : Int → Option Value) (KB D BS : Nat → Prop) (N Mo : Nat) (hp : SideP w gW X gM h chs l pv nM M KB D BS N Mo t) (hS : ∀ q, S q ↔ sideB X.gB gM pv KB D BS q) (n : Nat) (hn : n ≤ 9223372036854775807) (ht : t ≤ 100000000) :
    Calls Try.prog 29 #[.pointer (some ⟨gW, 0, none⟩), .agg #[.int .i64 2, .int .i64 n]] w (StepPost w gW t S) := by
  obtain ⟨i1, hi, hz0, hz1, hz2⟩ := info_parts Try.info30
  have HI : Hid _ := hi
  have HZ0 : Hid _ := hz0
  have HZ1 : Hid _ := hz1
  have HZ2 : Hid _ := hz2
  clear hi hz0 hz1 hz2
  obtain ⟨b1, b2, b3, b4, b5, b6, b7, b8⟩ := headOk_parts hp.fr.ok
  have hg := opW_grown w 2 n
  have d0 : (opW w 2 n).cell? ⟨w.heap.size, 0, none⟩ = some (.int .i64 2) := (opW_box w 2 n).cell 0
  have d1 : (opW w 2 n).cell? ⟨w.heap.size, 1, none⟩ = some (.int .i64 n) := (opW_box w 2 n).cell 1
  have hp0 := hp.new hg
  obtain ⟨iv, ov, hb⟩ := hp0.book.box
  have c0 : (opW w 2 n).cell? ⟨gW, 0, none⟩ = some (.pointer (some ⟨X.gB, 0, none⟩)) := hb.cell 0
  have hgd := grown_drew (grown_refl (opW w 2 n) none)
  have hpd := hp0.new hgd
  have hmm := hp.mm
  have HRD := rdr_read (opW w 2 n).drew X.gB gM h chs l pv X.pos nM M KB hpd.rdr hp.fr hp.pos n hn (by omega)
  obtain ⟨en, hen⟩ : ∃ en, X.pos + min n (h.total - X.pos) = en := ⟨_, rfl⟩
  rw [hen] at HRD
  have hpos := hp.pos
  have hent : en ≤ h.total ∧ X.pos ≤ en := by omega
  have hch := hp.fr.ch
  have hch1 := hp.fr.ch1
  obtain ⟨lg, lcap, hlv⟩ : ∃ lg lcap, X.lv = .slice (some ⟨lg, 0, none⟩) chs.length lcap := by
    rcases hp.snd with ⟨_, e⟩ | ⟨lg, lcap, e, _⟩
    · rw [e] at hch; simp at hch; omega
    · exact ⟨lg, lcap, e⟩
  have HAR := fun e w1 => after_read (e := e) (w1 := w1) (gO := w.heap.size) (n := n) (en := en) hp hS (grown_drew hg) d1 (Nat.le_refl _) hlv hent.1 ht
  have hlen := hp.fr.total
  have hcl : (cutAll X.pos en chs).length = chs.length := by unfold cutAll; rw [List.length_map]
  obtain ⟨nc, hnc⟩ : ∃ nc, chs.length = nc := ⟨_, rfl⟩
  obtain ⟨tot, htot⟩ : ∃ tot, h.total = tot := ⟨_, rfl⟩
  obtain ⟨ps, hps⟩ : ∃ ps, X.pos = ps := ⟨_, rfl⟩
  obtain ⟨gB, hgB⟩ : ∃ gB, X.gB = gB := ⟨_, rfl⟩
  rw [hgB] at c0 HRD
  rw [hps, hnc, htot] at HAR
  rw [hgB] at HAR
  rw [hps] at hent hen hcl HRD
  rw [htot] at hent hen hpos
  rw [hps] at hpos
  rw [hnc] at hch hcl
  have htb : tot ≤ 1200 := by omega
  have hnc2 : nc ≤ 2 := by omega
  have HLEN : Hid (∀ j, j < nc → (chs.getD j []).length = tot) := fun j hj => by rw [← htot]; exact hlen j (by omega)
  have HCL : Hid ((cutAll ps en chs).length = nc) := hcl
  have HEN : Hid (ps + min n (tot - ps) = en) := hen
  have tn : decide ((n : Int) < 0) = false := decide_eq_false (by omega)
  obtain ⟨rem, hrem⟩ : ∃ rem, tot - ps = rem := ⟨_, rfl⟩
  have hremz : (tot : Int) - (ps : Int) = (rem : Int) := by omega
  have HREM : Hid (tot - ps = rem) := hrem
  clear hp hp0 hpd hb hg hgd hlen hcl hen hS hmm hlv hrem htot hps hgB hnc hch hch1 b1 b2 b3 b4 b5 b6 b7 b8
  unfold opW at d0 d1 c0 HRD HAR
  go_enter Try.func29, Try.ntmps29
  go_upto_region 9 with fail
  generalize (w.alloc (Obj.cells #[.int .i64 2, .int .i64 (n : Int)] 57)) = w0 at d0 d1 c0 HRD HAR ⊢
  generalize w.heap.size = gO at d0 d1 HAR ⊢
  go_region_held (fun w' => w'.cell? ⟨gW, 0, none⟩ = some (.pointer (some ⟨gB, 0, none⟩)) ∧ w'.cell? ⟨gO, 1, none⟩ = some (.int .i64 n)) (go_keep) (first
    | (go_at_call 36; refine HRD.mono ?_; intro e w1 hpost; obtain ⟨lv, rfl, har⟩ := HAR e w1 hpost; have q0 := har.c0; have q1 := har.d1; have HAR1 : Hid _ := har; clear har hpost))
  all_goals
    clear HRD HAR d0 d1 c0
    have c4 := HAR1.out.c4
    have HT := HAR1.out.total
    go_upto_region 13 with (go_at_call 57; refine HT.mono ?_; rintro e w2 ⟨rfl, rfl⟩)
    clear HT
    go_quiet (fail)
    obtain ⟨wz, hwz⟩ : ∃ wz, w2.drewN nq = wz := ⟨_, rfl⟩
    have HGZ : Hid (w2.grownBy wz none) := by show w2.grownBy wz none; rw [← hwz]; exact grown_drewN (grown_refl _ _) _
    have z1 : wz.cell? ⟨gO, 1, none⟩ = some (.int .i64 n) := by rw [← hwz, World.cell?_drewN]; exact q1
    have z4 : wz.cell? ⟨gW, 4, none⟩ = some (.int .i64 ps) := by rw [← hwz, World.cell?_drewN]; exact c4
    rw [hwz]
    clear hwz q0 q1 c4
    go_upto_if 76 with fail
    go_cut [8] (fun s8 wx => s8 = .int .i64 en ∧ ∃ d, wx = wz.drewN d)
    case first =>
      by_cases hlt : n < rem
      · have hent2 : en = ps + n := by have := HEN.out; have := HREM.out; omega
        go_upto_region 14 with fail
        go_quiet (fail)
        go_wp2
        go_meet
        case rel => exact ⟨by rw [hent2]; simp, _, rfl⟩
      · have hent2 : en = tot := by have := HEN.out; have := HREM.out; omega
        go_wp2
        go_meet
        case rel => exact ⟨by rw [hent2], 0, rfl⟩
    case rest =>
    obtain ⟨rfl, dd, hwd⟩ := hcut
    have HGC : Hid (w2.grownBy wc none) := by show w2.grownBy wc none; rw [hwd]; exact grown_drewN HGZ.out dd
    clear hwd z1 z4
    go_wp2_with fail
    go_loopg [9, 10] nc (fun gk t9 t10 wr => ∃ (i : Nat) (us : List Value), gk + i = nc ∧ t10 = .int .i64 i ∧ Want w2 wr t9 i us (cutAll ps en chs))
    case atStart => exact ⟨0, [], rfl, rfl, Want.start HGC.out _⟩
    case round =>
      obtain ⟨i, us, hgk, rfl, hW⟩ := hrel
      have r3 : wr.cell? ⟨gW, 3, none⟩ = some (.slice (some ⟨lg, 0, none⟩) nc lcap) := hW.grown.cell HAR1.out.c3 (by simp)
      by_cases hi : i < nc
      · have tlt : decide ((i : Int) < (nc : Int)) = true := decide_eq_true (by omega)
        have hiz : (i : Int) < (nc : Int) := by omega
        have r4 : wr.cell? ⟨gW, 4, none⟩ = some (.int .i64 ps) := hW.grown.cell HAR1.out.c4 (by simp)
        obtain ⟨vi, hvi, hlo⟩ := HAR1.out.each i hi
        have rv := hW.grown.cell hvi (by simp)
        have HW : Hid _ := hW
        clear hvi hW
        have hul : us.length = i := by have := HW.out.row.1; omega
        have HOWN : Hid (∀ wx, wr.grownBy wx none → wx.ownsRow w2.heap.size 30 1 u9 i us) := fun wx hgx => ownsRow_kp HW.out.row (Kp.ofNone (S := fun _ => False) hgx) (fun _ _ e => e)
        have HBS : Hid (∀ wx, wr.grownBy wx none → w2.heap.size ≤ wx.heap.size) := fun wx hgx => Nat.le_trans HW.out.grown.size hgx.size
        have HKC : Hid (∀ wx w' a u, wr.grownBy wx none → wx.grownBy w' u9.ownBlock → w2.cell? a = some u → w'.cell? a = some u) := by
          intro wx w' a u hgx hgg hc
          refine hgg.cell (hgx.cell (HW.out.grown.cell hc (by simp)) (by simp)) (fun e => ?_)
          have h1 := (World.ownsRow.lt HW.out.row a.block e.symm).1
          have h2 := cell_lt hc
          omega
        have f1 : (ps : Int) ≤ (en : Int) := by omega
        have hll := HLEN.out i hi
        have hci : (cutAll ps en chs).getD i [] = ((chs.getD i []).drop ps).take (en - ps) := cutAll_get ps en chs i (by have := HCL.out; unfold cutAll at this; rw [List.length_map] at this; omega)
        rcases hlo with ⟨rfl, hnil⟩ | ⟨b2, o2, cap2, rfl, hcap2, hx1, hx2, hx3⟩
        · have ht0 : tot = 0 := by rw [← hll, hnil]; rfl
          obtain ⟨cap0, hc0⟩ : ∃ cap0 : Nat, 0 = cap0 := ⟨_, rfl⟩
          have rv0 : wr.cell? ⟨lg, i, none⟩ = some (.slice none tot cap0) := by rw [ht0, ← hc0]; exact rv
          have hrdl : RdL w2 (.slice none (en - ps) (cap0 - ps)) ((cutAll ps en chs).getD i []) := by
            rw [hci, hnil]
            refine ⟨none, cap0 - ps, ?_, fun k hk => ?_⟩
            · have e1 : en - ps = 0 := by omega
              rw [e1]
              simp
            · simp at hk
          have HRDL : Hid (RdL w2 (.slice none (en - ps) (cap0 - ps)) ((cutAll ps en chs).getD i [])) := hrdl
          have f2 : (en : Int) ≤ (cap0 : Int) := by omega
          have Y3 : Hid (w2.cell? ⟨lg, i, none⟩ = some (.slice none tot cap0)) := by
            obtain ⟨vj, h1, _⟩ := HAR1.out.each i hi
            have h2 := HW.out.grown.cell h1 (by simp)
            rw [rv0] at h2
            injection h2 with h2
            show w2.cell? _ = _
            rw [h2]
            exact h1
          have Y1 : Hid (w2.cell? ⟨gW, 3, none⟩ = some (.slice (some ⟨lg, 0, none⟩) nc lcap)) := HAR1.out.c3
          have Y2 : Hid (w2.cell? ⟨gW, 4, none⟩ = some (.int .i64 ps)) := HAR1.out.c4
          clear hrdl hci hll hnil ht0 hc0 rv
          go_upto_region 19 with fail
          go_region_held_law (fun w' => w'.cell? ⟨gW, 3, none⟩ = some (.slice (some ⟨lg, 0, none⟩) nc lcap) ∧ w'.cell? ⟨lg, i, none⟩ = some (.slice none tot cap0) ∧ w'.cell? ⟨gW, 4, none⟩ = some (.int .i64 ps)) (go_keep) (first
            | (refine step_append_lies _ (by rfl) (.tmp 94) (.tmp 109) 24 (by rfl) w2.heap.size 30 i1 (.slice none 0 0) 1 24 Try.underlying24 HI.out HZ0.out HZ1.out HZ2.out rfl (by decide) u9 i us (by simp [Act.eval]) (HOWN.out _ (grown_alloc (grown_drew (grown_refl _ none)) _)) ⟨wr.drew.heap.size, 0, none⟩ 1 1 [.slice none (en - ps) (cap0 - ps)] (by simp [Act.eval]) rfl (one_elem wr.drew _ _) (by intro u hu; rw [List.mem_singleton.1 hu]; rfl) (by omega) (by unfold maxLen; omega) (by omega) (HBS.out _ (grown_alloc (grown_drew (grown_refl _ none)) _)) _ rfl ?_; intro g cap' w5 hrow' hgrow hat hglt; have k1 := HKC.out _ w5 _ _ (grown_alloc (grown_drew (grown_refl _ none)) _) hgrow Y1.out; have k2 := HKC.out _ w5 _ _ (grown_alloc (grown_drew (grown_refl _ none)) _) hgrow Y3.out; have k3 := HKC.out _ w5 _ _ (grown_alloc (grown_drew (grown_refl _ none)) _) hgrow Y2.out; have HROW' : Hid _ := hrow'; have HGROW : Hid _ := hgrow; have HAT : Hid _ := hat; clear hrow' hgrow hat))
          all_goals
            go_wp2
            go_roundg (gk - 1)
            case measure => omega
            case rel => exact ⟨i + 1, _, by omega, by go_num, HW.out.next (grown_drew (grown_alloc (grown_refl _ none) _)) HGROW.out HROW'.out HRDL.out⟩
        · rw [hll] at rv hcap2
          obtain ⟨ad, had⟩ : ∃ ad : Option Addr, (if cap2 = ps then some (⟨b2, o2, none⟩ : Addr) else some ⟨b2, o2 + ps, none⟩) = ad := ⟨_, rfl⟩
          have hrdl : RdL w2 (.slice ad (en - ps) (cap2 - ps)) ((cutAll ps en chs).getD i []) := by
            rw [hci]
            exact LoC.cut (D := D) (xs := chs.getD i []) (n := tot) (.inr ⟨b2, o2, cap2, by rw [hll], by omega, hx1, hx2, hx3⟩) hll hent.2 hent.1 had
          have HRDL : Hid (RdL w2 (.slice ad (en - ps) (cap2 - ps)) ((cutAll ps en chs).getD i [])) := hrdl
          have f2 : (en : Int) ≤ (cap2 : Int) := by omega
          have y3 : w2.cell? ⟨lg, i, none⟩ = some (.slice (some ⟨b2, o2, none⟩) tot cap2) := by
            obtain ⟨vj, h1, _⟩ := HAR1.out.each i hi
            have h2 := HW.out.grown.cell h1 (by simp)
            rw [rv] at h2
            injection h2 with h2
            rw [h2]
            exact h1
          have Y3 : Hid (w2.cell? ⟨lg, i, none⟩ = some (.slice (some ⟨b2, o2, none⟩) tot cap2)) := y3
          have Y1 : Hid _ := HAR1.out.c3
          have Y2 : Hid _ := HAR1.out.c4
          clear hx1 hx2 hx3 hrdl hcap2 hci hll y3
          go_upto_region 19 with fail
          go_region_held_law (fun w' => w'.cell? ⟨gW, 3, none⟩ = some (.slice (some ⟨lg, 0, none⟩) nc lcap) ∧ w'.cell? ⟨lg, i, none⟩ = some (.slice (some ⟨b2, o2, none⟩) tot cap2) ∧ w'.cell? ⟨gW, 4, none⟩ = some (.int .i64 ps)) (go_keep) (first
            | (refine step_append_lies _ (by rfl) (.tmp 94) (.tmp 109) 24 (by rfl) w2.heap.size 30 i1 (.slice none 0 0) 1 24 Try.underlying24 HI.out HZ0.out HZ1.out HZ2.out rfl (by decide) u9 i us (by simp [Act.eval]) (HOWN.out _ (grown_alloc (grown_drew (grown_refl _ none)) _)) ⟨wr.drew.heap.size, 0, none⟩ 1 1 [.slice ad (en - ps) (cap2 - ps)] (by simp [Act.eval]) rfl (one_elem wr.drew _ _) (by intro u hu; rw [List.mem_singleton.1 hu]; rfl) (by omega) (by unfold maxLen; omega) (by omega) (HBS.out _ (grown_alloc (grown_drew (grown_refl _ none)) _)) _ rfl ?_; intro g cap' w5 hrow' hgrow hat hglt; have k1 := HKC.out _ w5 _ _ (grown_alloc (grown_drew (grown_refl _ none)) _) hgrow Y1.out; have k2 := HKC.out _ w5 _ _ (grown_alloc (grown_drew (grown_refl _ none)) _) hgrow Y3.out; have k3 := HKC.out _ w5 _ _ (grown_alloc (grown_drew (grown_refl _ none)) _) hgrow Y2.out; have HROW' : Hid _ := hrow'; have HGROW : Hid _ := hgrow; have HAT : Hid _ := hat; clear hrow' hgrow hat))
          all_goals
            go_wp2
            go_roundg (gk - 1)
            case measure => omega
            case rel => exact ⟨i + 1, _, by omega, by go_num, HW.out.next (grown_drew (grown_alloc (grown_refl _ none) _)) HGROW.out HROW'.out HRDL.out⟩
      · have tlt : decide ((i : Int) < (nc : Int)) = false := decide_eq_false (by omega)
        have hrd : RdS wr u9 (cutAll ps en chs) := by
          have hie : i = nc := by omega
          rw [hie] at hW
          exact hW.rds HCL.out
        have HSL := lsame_lists wr lv u9 (cutAll ps en chs) (HAR1.out.out.kept hW.grown) hrd (by rw [HCL.out]; omega) (by
          intro c hc
          obtain ⟨c0, hc0, rfl⟩ := List.mem_map.1 hc
          rw [List.length_take]
          omega)
        have HGR : Hid (w2.grownBy wr none) := hW.grown
        clear hW hrd
        go_wp2_with fail
        refine HSL.mono ?_
        rintro e w3 ⟨rfl, d3, hw3⟩
        have hg3 : w2.grownBy w3 none := by rw [hw3]; exact grown_drewN HGR.out d3
        have HKP := HAR1.out.keep w3 hg3
        clear hw3 HSL r3
        go_wp2_with fail
        refine HKP.mono ?_
        rintro e w4 ⟨rfl, ⟨u4, hu4⟩, hfz4, hpost⟩
        have HPO : Hid (StepPost w gW t S (.returned (.bool true)) (w4.setCell ⟨gW, 4, none⟩ (.int .i64 en))) := hpost
        clear HKP hpost
        go_wp2
        go_ret
        exact HPO.out
end Go.Proofs.Ytncmgnmcggkhnaa

namespace Go.Proofs.Ytncmgnmcggkhnaa
open Go.RowKit

/-- a step of any kind -/
theorem Side.step {w : World} {gW t : Nat} {S : Nat → Prop} (hs : Side w gW t S) (kind n : Int) (hn : -9223372036854775808 ≤ n ∧ n ≤ 9223372036854775807) (ht : t ≤ 100000000) :
    Calls Try.prog 29 #[.pointer (some ⟨gW, 0, none⟩), .agg #[.int .i64 kind, .int .i64 n]] w (StepPost w gW t S) := by
  by_cases h1 : kind = 1
  · subst h1
    obtain ⟨X, gM, h, chs, l, pv, nM, M, KB, D, BS, N, Mo, hp, hS⟩ := hs
    by_cases h2 : 0 ≤ n ∧ n ≤ (h.total : Int)
    · obtain ⟨p, rfl⟩ := Int.eq_ofNat_of_zero_le h2.1
      exact step_seek w gW t S X gM h chs l pv nM M KB D BS N Mo hp hS p (by omega)
    · exact step_seek_no w gW t S X gM h chs l pv nM M KB D BS N Mo hp hS n (by omega)
  by_cases h2 : kind = 2
  · subst h2
    obtain ⟨X, gM, h, chs, l, pv, nM, M, KB, D, BS, N, Mo, hp, hS⟩ := hs
    by_cases h3 : 0 ≤ n
    · obtain ⟨p, rfl⟩ := Int.eq_ofNat_of_zero_le h3
      exact step_read w gW t S X gM h chs l pv nM M KB D BS N Mo hp hS p (by omega) ht
    · exact step_read_no w gW t S X gM h chs l pv nM M KB D BS N Mo hp hS n (by omega)
  by_cases h3 : kind = 3
  · subst h3
    exact step_tell w gW t S hs n
  exact step_other w gW t S hs kind n ⟨h1, h2, h3⟩

theorem Subs.insFrom {w : World} {base : Nat} {lv : Value} {vs : List Value} {xss : List (List Int)} (h : Subs w base lv vs xss) : Ins w (fun q => base ≤ q ∧ q < w.heap.size) lv xss := by
  have hl := h.len
  rcases h.row.2 with ⟨h1, h2⟩ | ⟨g, cap, cur, hv, hb, hg, hnc, hcm, hcs, htake⟩
  · exact .inl ⟨h1, List.eq_nil_of_length_eq_zero (by omega)⟩
  · have hglt := World.ownsRow.lt h.row g (by rw [hv]; rfl)
    refine .inr ⟨g, cap, by rw [hv, hl], hglt, hglt.2, fun i hi => ?_⟩
    have hr := h.row
    rw [hv] at hr
    have hc := World.ownsRow.cellAt hr i (by omega)
    refine ⟨vs.getD i undef, by rw [hc]; simp [List.getD, show i < vs.length by omega], ?_⟩
    have ho := h.own i (by omega)
    rcases ho.2 with ⟨e1, e2⟩ | ⟨g1, cap1, cur1, hv1, hb1, hg1, hnc1, hcm1, hcs1, htake1⟩
    · exact .inl ⟨e1, List.eq_nil_of_length_eq_zero e2⟩
    · have hrow : Row w base g1 (xss.getD i []).length cap1 (xss.getD i []) := by unfold Own at ho; rw [hv1] at ho; exact ho
      exact .inr ⟨g1, 0, cap1, hv1, hnc1, hrow.lt, hrow.lt.2, fun j hj => by rw [Nat.zero_add]; exact hrow.cell j hj⟩

/-- a world as the law makes it -/
theorem side_new {w1 w2 w3 : World} {base gB gW r b : Nat} {chs : List (List Int)} {lv : Value} {vs : List Value} (hn : RdrNew w1 base gB r b chs) (hg : w1.grownBy w2 none) (hs : Subs w2 w1.heap.size lv vs chs) (hg3 : w2.grownBy w3 none)
    (hgW : w2.heap.size ≤ gW) (hb : Box w3 gW (wdC ⟨gB, r, b, lv, 0⟩ (.slice none 0 0) (.slice none 0 0)) 54) (hbase : base ≤ w1.heap.size) : ∃ S, Side w3 gW 0 S ∧ ∀ q, S q → base ≤ q := by
  obtain ⟨h, l, pv, gM, _, _, hf, hgM, hpv, hr⟩ := hn.rdr
  have hr3 := (hr.kp (Kp.ofNone (S := fun _ => False) hg) (fun _ _ e => e)).kp (Kp.ofNone (S := fun _ => False) hg3) (fun _ _ e => e)
  have hin := hs.insFrom.kept hg3
  have hlt := hr.lt
  have hblt := hr.blt
  have hz := hg.size
  have hz3 := hg3.size
  refine ⟨sideB gB gM pv (fun _ => False) (fun q => w1.heap.size ≤ q ∧ q < w2.heap.size) (fun q => q = gW), ⟨⟨gB, r, b, lv, 0⟩, gM, h, chs, l, pv, 0, fun _ => none, fun _ => False, fun q => w1.heap.size ≤ q ∧ q < w2.heap.size, fun q => q = gW, 0, 0,
    ⟨BookS.start hb (fun q => Iff.rfl), hr3, hf, hin, Nat.zero_le _, fun q hq => by omega, fun q hq => ?_, fun q hq e => by omega, rfl, rfl, by omega, by omega, by omega⟩, fun q => Iff.rfl⟩, ?_⟩
  · have := hblt q hq
    exact ⟨fun e => by omega, fun e => by omega⟩
  · rintro q ((hq | hq | hq | hq) | hq | hq)
    · omega
    · omega
    · exact hpv q hq
    · exact hq.elim
    · omega
    · omega

/-- a world, or none -/
def Slot (w : World) (t : Nat) (p : Value) (S : Nat → Prop) : Prop :=
  (p = .pointer none ∧ ∀ q, ¬ S q) ∨ ∃ gW, p = .pointer (some ⟨gW, 0, none⟩) ∧ Side w gW t S

theorem Slot.kp {w w' : World} {t : Nat} {p : Value} {S T : Nat → Prop} (h : Slot w t p S) (hk : Kp w w' T) (hn : ∀ q, S q → ¬ T q) : Slot w' t p S := by
  rcases h with h | ⟨gW, h1, h2⟩
  · exact .inl h
  · exact .inr ⟨gW, h1, h2.kp hk hn⟩

theorem Slot.lt {w : World} {t : Nat} {p : Value} {S : Nat → Prop} (h : Slot w t p S) : ∀ q, S q → q < w.heap.size := by
  rcases h with h | ⟨gW, h1, h2⟩
  · exact fun q hq => (h.2 q hq).elim
  · exact h2.lt

theorem Slot.later {w : World} {t : Nat} {p : Value} {S : Nat → Prop} (h : Slot w t p S) : Slot w (t + 1) p S := by
  rcases h with h | ⟨gW, h1, h2⟩
  · exact .inl h
  · exact .inr ⟨gW, h1, h2.later⟩

/-- the two worlds -/
structure Worlds (w : World) (base gA t : Nat) (p0 p1 : Value) (S0 S1 : Nat → Prop) : Prop where
  s0 : Slot w t p0 S0
  s1 : Slot w t p1 S1
  ap : ∀ q, S0 q → ¬ S1 q
  a0 : ∀ q, S0 q → base ≤ q ∧ q ≠ gA
  a1 : ∀ q, S1 q → base ≤ q ∧ q ≠ gA

section
variable {w w' : World} {base gA gW t : Nat} {p0 p1 : Value} {S0 S1 : Nat → Prop}

theorem Worlds.swap (h : Worlds w base gA t p0 p1 S0 S1) : Worlds w base gA t p1 p0 S1 S0 := ⟨h.s1, h.s0, fun q h1 h0 => h.ap q h0 h1, h.a1, h.a0⟩

theorem Worlds.later (h : Worlds w base gA t p0 p1 S0 S1) : Worlds w base gA (t + 1) p0 p1 S0 S1 := ⟨h.s0.later, h.s1.later, h.ap, h.a0, h.a1⟩

theorem Worlds.new (h : Worlds w base gA t p0 p1 S0 S1) (hg : w.grownBy w' none) : Worlds w' base gA t p0 p1 S0 S1 :=
  ⟨h.s0.kp (Kp.ofNone (S := fun _ => False) hg) (fun _ _ e => e), h.s1.kp (Kp.ofNone (S := fun _ => False) hg) (fun _ _ e => e), h.ap, h.a0, h.a1⟩

theorem Worlds.step (h : Worlds w base gA t p0 p1 S0 S1) (hp : StepPost w gW t S0 (.returned (.bool true)) w') (hp0 : p0 = .pointer (some ⟨gW, 0, none⟩)) (hA : gA < w.heap.size) (hbase : base ≤ w.heap.size) :
    ∃ S0', Worlds w' base gA (t + 1) p0 p1 S0' S1 ∧ Kp w w' S0 := by
  obtain ⟨_, hk, S', hs, hsub⟩ := hp
  have hl1 := h.s1.lt
  refine ⟨S', ⟨.inr ⟨gW, hp0, hs⟩, (h.s1.kp hk (fun q h1 h0 => h.ap q h0 h1)).later, fun q hq h1 => ?_, fun q hq => ?_, h.a1⟩, hk⟩
  · rcases hsub q hq with h2 | h2
    · exact h.ap q h2 h1
    · have := hl1 q h1; omega
  · rcases hsub q hq with h2 | h2
    · exact h.a0 q h2
    · omega
end
end Go.Proofs.Ytncmgnmcggkhnaa
