import Derived.Test.YtodbbdknkffceaaDecProofJ27
import Derived.Test.YtodbbdknkffceaaDecProofJ25
import Derived.Test.YtodbbdknkffceaaDecProofJ22
import Derived.BigQuiet
import Derived.Test.YtodbbdknkffceaaDecProofJ16
import Derived.Test.YtodbbdknkffceaaDecProofJ17
namespace Go.Proofs.Ytodbbdknkffceaa
open Go.RowKit

theorem frames_fuel (h : Head) : ∀ (f1 f2 number total : Nat) (ended : Bool) (acc : List (List Int)) (L : List UInt8), L.length < f1 → L.length < f2 → frames h f1 number total ended acc L = frames h f2 number total ended acc L
  | 0, _, _, _, _, _, _, h1, _ => by omega
  | _ + 1, 0, _, _, _, _, _, _, h2 => by omega
  | f1 + 1, f2 + 1, number, total, ended, acc, L, h1, h2 => by
    unfold frames
    split
    · rfl
    · rename_i hne
      cases hp : pFrame h number L with
      | none => rfl
      | some x =>
        obtain ⟨chs, rest⟩ := x
        obtain ⟨_, n, k, _, _, _, hk1, hk2, hrest⟩ := pFrame_spec hp
        have hl : rest.length < L.length := by rw [hrest, List.length_drop]; omega
        simp only
        split
        · rfl
        · exact frames_fuel h f1 f2 _ _ _ _ rest (by omega) (by omega)

theorem frames_len (h : Head) : ∀ (fuel number total : Nat) (ended : Bool) (acc chs : List (List Int)) (L : List UInt8), acc.length = h.channels → frames h fuel number total ended acc L = .ok chs → chs.length = h.channels
  | 0, _, _, _, _, _, _, _, e => by cases e
  | fuel + 1, number, total, ended, acc, chs, L, ha, e => by
    unfold frames at e
    split at e
    · injection e with e; rw [← e]; exact ha
    · cases hp : pFrame h number L with
      | none => rw [hp] at e; cases e
      | some x =>
        obtain ⟨cs, rest⟩ := x
        rw [hp] at e
        simp only at e
        split at e
        · cases e
        · exact frames_len h fuel _ _ _ _ chs rest (by rw [List.length_zipWith, ha, (pFrame_spec hp).1]; omega) e

theorem frs_shape {w w' : World} {res : Except Nat (List (List Int))} {e : Ending} (hp : FrsPost w res e w') : ∃ (lv : Value) (k : Nat) (ok : Bool), e = .returned (.tuple #[lv, .int .i64 k, .bool ok]) := by
  obtain ⟨_, hp⟩ := hp
  cases res with
  | error k => exact ⟨_, k, _, hp⟩
  | ok chs => obtain ⟨lv, vs, e, _⟩ := hp; exact ⟨lv, 0, true, e⟩

set_option maxHeartbeats 4000000 in
set_option maxRecDepth 20000 in
theorem qdecode (w : World) (s : ByteArray) (hsz : s.size ≤ maxLen) :
    Calls Try.prog 13 #[.string s] w (DecPost w s) := by
  have hmax : s.size ≤ 9223372036854775807 := hsz
  by_cases hlong : 6000 < s.size
  · have hd := decode_long s hlong
    go_enter Try.func13, Try.ntmps13
    go_wp2
    refine bodyPost_ret (v := .tuple #[noSound, .int .i64 2, .int .i64 0]) (by simp [results, Try.results13, go_sem, noSound]) rfl ⟨grown_alloc (grown_refl _ _) _, ?_⟩
    rw [hd]
    rfl
  have hs : s.size ≤ 6000 := by omega
  clear hlong hmax hsz
  go_enter Try.func13, Try.ntmps13
  go_wp2_with fail
  have hbr0 := Box.new w #[Value.int .i64 0, .int .i64 0, .slice none 0 0] 26
  obtain ⟨r, hr⟩ : ∃ r, w.heap.size = r := ⟨_, rfl⟩
  obtain ⟨wa, hwa⟩ : ∃ wa, w.alloc (.cells #[Value.int .i64 0, .int .i64 0, .slice none 0 0] 26) = wa := ⟨_, rfl⟩
  have hga : w.grownBy wa none := by rw [← hwa]; exact grown_alloc (grown_refl _ _) _
  rw [hwa, hr] at hbr0
  rw [hwa, hr]
  refine (qread wa s hs).mono ?_
  rintro e w1 ⟨hg1, h, at', ok, rfl, hcase⟩
  have hbr2 := hbr0.kept hg1 (by simp)
  have hgg1 := grown_trans hga hg1
  obtain ⟨w2, hw2⟩ : ∃ w2, w1.alloc (.cells #[Value.int .i64 h.block, .int .i64 h.rate, .int .i64 h.channels, .int .i64 h.bits, .int .i64 h.total] 57) = w2 := ⟨_, rfl⟩
  have hg2 : w1.grownBy w2 none := by rw [← hw2]; exact grown_alloc (grown_refl _ _) _
  have hgg2 := grown_trans hgg1 hg2
  have hbr3 := hbr2.kept hg2 (by simp)
  obtain ⟨gH, hgH⟩ : ∃ gH, w1.heap.size = gH := ⟨_, rfl⟩
  have hbh3 : Box w2 gH (headC h) 57 := by rw [← hgH, ← hw2]; exact Box.new _ _ _
  have hrlt := hbr2.lt
  rw [hgH] at hrlt
  have HR : Hid (w.heap.size = r) := hr
  have HW2 : Hid (w1.alloc (.cells #[Value.int .i64 h.block, .int .i64 h.rate, .int .i64 h.channels, .int .i64 h.bits, .int .i64 h.total] 57) = w2) := hw2
  have HGH : Hid (w1.heap.size = gH) := hgH
  clear hbr0 hbr2 hgg1 hga hwa hg1 hw2 hgH hg2 hr
  unfold headV
  go_upto_region 4 with fail
  rw [HW2.out, HGH.out]
  clear HW2 HGH
  have z0 : w2.cell? ⟨r, 0, none⟩ = some (.int .i64 0) := hbr3.cell 0
  have z1 : w2.cell? ⟨r, 1, none⟩ = some (.int .i64 0) := hbr3.cell 1
  have z2 : w2.cell? ⟨r, 2, none⟩ = some (.slice none 0 0) := hbr3.cell 2
  have y0 := hbr3.fz 0
  have y1 := hbr3.fz 1
  have y2 := hbr3.fz 2
  rcases hcase with ⟨rfl, hat, hpb⟩ | ⟨rfl, hnone⟩
  rotate_left
  · have hd := decode_meta s hs hnone
    have hf := dec_err hgg2 (by rw [HR.out]; omega) hbr3 hd
    clear hd hnone
    go_wp2
    generalize (World.setCell _ _ (Value.slice none 0 0)) = wf at hf ⊢
    have x0 := hf.1.cell 0
    have x1 := hf.1.cell 1
    have x2 := hf.1.cell 2
    exact bodyPost_ret (v := .tuple #[noSound, .int .i64 3, .int .i64 0]) (by simp [results, Try.results13, go_sem, x0, x1, x2, noSound]) rfl hf.2
  have hspec := pBlocks_spec hpb (by rw [total_bits]; omega)
  have hc1 := hspec.2.2.2
  have hhok := hspec.2.2.1
  have hb1 : 16 ≤ h.block ∧ h.block ≤ 256 ∧ 4 ≤ h.bits ∧ h.bits ≤ 16 ∧ h.rate ≤ 655350 ∧ h.total ≤ 1200 ∧ h.channels ≤ 2 := by unfold headOk at hhok; simp at hhok; omega
  have hdf := decode_frames s hs hpb
  have hrl : s.size - (bitsOf (s.data.toList.drop at')).length / 8 = at' := by rw [bitsOf_length, List.length_drop, dlen]; omega
  rw [hrl] at hdf
  have hex : (s.extract at' s.size).data.toList = s.data.toList.drop at' := by rw [extract_list, List.take_of_length_le (by rw [List.length_drop, dlen]; omega)]
  have hexs : (s.extract at' s.size).size = s.size - at' := by rw [← dlen, hex, List.length_drop, dlen]
  rw [frames_fuel h (s.size + 1) ((s.extract at' s.size).size + 1) 0 0 false _ _ (by rw [List.length_drop, dlen]; omega) (by rw [List.length_drop, dlen]; omega), ← hex] at hdf
  obtain ⟨res, hres⟩ : ∃ res, frames h ((s.extract at' s.size).size + 1) 0 0 false (List.replicate h.channels []) (s.extract at' s.size).data.toList = res := ⟨_, rfl⟩
  have hrlen : ∀ chs, res = .ok chs → chs.length = h.channels := fun chs e => frames_len h _ _ _ _ _ chs _ (by simp) (hres.trans e)
  have HFR := qreadframes w2.drew (s.extract at' s.size) h res (by omega) hc1 (by omega) (by omega) (by omega) (by omega) hres
  rw [hres] at hdf
  have HDF : Hid (decode s.data.toList = ansOf h res) := hdf
  have HRLEN : Hid (∀ chs, res = .ok chs → chs.length = h.channels) := hrlen
  clear hdf hres hrlen hex hexs hrl hhok hspec hpb
  have e0 : w2.cell? ⟨gH, 0, none⟩ = some (.int .i64 h.block) := hbh3.cell 0
  have e1 : w2.cell? ⟨gH, 1, none⟩ = some (.int .i64 h.rate) := hbh3.cell 1
  have e2 : w2.cell? ⟨gH, 2, none⟩ = some (.int .i64 h.channels) := hbh3.cell 2
  have e3 : w2.cell? ⟨gH, 3, none⟩ = some (.int .i64 h.bits) := hbh3.cell 3
  have e4 : w2.cell? ⟨gH, 4, none⟩ = some (.int .i64 h.total) := hbh3.cell 4
  unfold headC at HFR
  go_upto_region 6 with fail
  go_cut [7, 8, 9] (fun s7 s8 s9 wx => FrsPost w2.drew res (.returned (.tuple #[s8, s9, s7])) wx)
  case first =>
    go_region_with (first
      | (go_at_call 31; refine HFR.mono ?_; rintro e w3 hfp; obtain ⟨lv, k, ok, rfl⟩ := frs_shape hfp))
    all_goals
      go_wp2
      go_meet
      case rel => exact hfp
  case rest =>
    clear HFR e0 e1 e2 e3 e4 z0 z1 z2 y0 y1 y2
    obtain ⟨hg3, hcase⟩ := hcut
    have hgd := grown_drew (grown_refl w2 none)
    have hg23 := grown_trans hgd hg3
    have hgg3 := grown_trans hgg2 hg23
    have hbr4 := hbr3.kept hg23 (by simp)
    have hbh4 := hbh3.kept hg23 (by simp)
    have hHlt : gH < w2.drew.heap.size := hbh3.lt
    obtain ⟨B, hB⟩ : ∃ B, w2.drew.heap.size = B := ⟨_, rfl⟩
    rw [hB] at hHlt hcase
    have z0 : wc.cell? ⟨r, 0, none⟩ = some (.int .i64 0) := hbr4.cell 0
    have z1 : wc.cell? ⟨r, 1, none⟩ = some (.int .i64 0) := hbr4.cell 1
    have z2 : wc.cell? ⟨r, 2, none⟩ = some (.slice none 0 0) := hbr4.cell 2
    have y0 := hbr4.fz 0
    have y1 := hbr4.fz 1
    have y2 := hbr4.fz 2
    clear hgg2 hbr3 hbh3 hgd hg23 hg3 hB
    cases res with
    | error k =>
      injection hcase with e
      injection e with e
      injection e with e
      injection e with e8 e
      injection e with e9 e
      injection e with e7 _
      subst e7 e8 e9
      have hd : decode s.data.toList = .err 4 k := HDF.out
      have hf := dec_err hgg3 (by rw [HR.out]; omega) hbr4 hd
      clear hd HDF HRLEN
      go_wp2
      generalize (World.setCell _ _ (Value.slice none 0 0)) = wf at hf ⊢
      have x0 := hf.1.cell 0
      have x1 := hf.1.cell 1
      have x2 := hf.1.cell 2
      exact bodyPost_ret (v := .tuple #[noSound, .int .i64 4, .int .i64 k]) (by simp [results, Try.results13, go_sem, x0, x1, x2, noSound]) rfl hf.2
    | ok chs =>
      obtain ⟨lv, vs, e, hsubs⟩ := hcase
      injection e with e
      injection e with e
      injection e with e
      injection e with e8 e
      injection e with e9 e
      injection e with e7 _
      subst e7 e8 e9
      have hcl := HRLEN.out chs rfl
      have hvl := hsubs.len
      obtain ⟨lg, lcap, rfl, hlb, hlt, hcells⟩ := hsubs.cell (by omega)
      have hown0 := hsubs.own 0 (by omega)
      obtain ⟨a0, c0, hv0⟩ := own_slice hown0
      have hl0 := hcells 0 (by omega)
      rw [hv0] at hl0
      obtain ⟨n, hn⟩ : ∃ n, (chs.getD 0 []).length = n := ⟨_, rfl⟩
      rw [hn] at hl0
      have hvpos : (0 : Int) < (vs.length : Int) := by omega
      obtain ⟨m, hm⟩ : ∃ m, vs.length = m := ⟨_, rfl⟩
      rw [hm] at hvpos
      have hm2 : m ≤ 2 := by omega
      rw [hm] at hsubs
      rw [hm]
      have e1 : wc.cell? ⟨gH, 1, none⟩ = some (.int .i64 h.rate) := hbh4.cell 1
      have e3 : wc.cell? ⟨gH, 3, none⟩ = some (.int .i64 h.bits) := hbh4.cell 3
      have e4 : wc.cell? ⟨gH, 4, none⟩ = some (.int .i64 h.total) := hbh4.cell 4
      by_cases htt : n = h.total
      · have hd : decode s.data.toList = .sound h.rate h.bits chs := by rw [HDF.out]; show (if _ then _ else _) = _; rw [if_pos (by rw [headD_getD]; omega)]
        have h3 := fun nq => three_cells (wc.drewN nq) r _ _ _ _ (.int .i64 h.rate) (.int .i64 h.bits) (.slice (some ⟨lg, 0, none⟩) m lcap) hbr4
        have hfin : ∀ nq wf, (wc.drewN nq).grownBy wf (some r) → DecPost w s (.returned (.tuple #[.agg #[.int .i64 h.rate, .int .i64 h.bits, .slice (some ⟨lg, 0, none⟩) m lcap], .int .i64 0, .int .i64 0])) wf := by
          intro nq wf hgf
          have hgf' := grown_undrew hgf
          refine ⟨grown_new hgg3 hgf' (fun g e => by injection e with e; rw [HR.out]; omega), ?_⟩
          rw [hd]
          exact ⟨_, vs, rfl, (hsubs.kept hgf' (by omega)).mono (by rw [HR.out]; omega)⟩
        have tt : ((n : Int) != (h.total : Int)) = false := by simp; omega
        clear hd HDF HRLEN hsubs hown0 hv0 hcells hn hcl hvl hm htt
        go_upto_region 9 with fail
        go_quiet (fail)
        have h3' := h3 nq
        have hfin' := hfin nq
        clear h3 hfin
        go_wp2
        generalize (World.setCell _ _ (Value.slice (some ⟨lg, 0, none⟩) m lcap)) = wf at h3' ⊢
        have x0 := h3'.1.cell 0
        have x1 := h3'.1.cell 1
        have x2 := h3'.1.cell 2
        exact bodyPost_ret (v := .tuple #[.agg #[.int .i64 h.rate, .int .i64 h.bits, .slice (some ⟨lg, 0, none⟩) m lcap], .int .i64 0, .int .i64 0]) (by simp [results, Try.results13, go_sem, x0, x1, x2]) rfl (hfin' wf h3'.2)
      · have hd : decode s.data.toList = .err 5 0 := by rw [HDF.out]; show (if _ then _ else _) = _; rw [if_neg (by rw [headD_getD]; omega)]
        have tt : ((n : Int) != (h.total : Int)) = true := by simp; omega
        have hf := fun nq => dec_err (X := wc.drewN nq) (grown_drewN hgg3 nq) (by rw [HR.out]; omega) hbr4 hd
        clear hd HDF HRLEN hsubs hown0 hv0 hcells hn hcl hvl hm htt
        go_upto_region 9 with fail
        go_quiet (fail)
        have hf' := hf nq
        clear hf
        go_wp2
        generalize (World.setCell _ _ (Value.slice none 0 0)) = wf at hf' ⊢
        have x0 := hf'.1.cell 0
        have x1 := hf'.1.cell 1
        have x2 := hf'.1.cell 2
        exact bodyPost_ret (v := .tuple #[noSound, .int .i64 5, .int .i64 0]) (by simp [results, Try.results13, go_sem, x0, x1, x2, noSound]) rfl hf'.2
end Go.Proofs.Ytodbbdknkffceaa

namespace Go.Proofs.Ytodbbdknkffceaa
open Go.RowKit

theorem frames_lens (h : Head) (hc : 1 ≤ h.channels) : ∀ (fuel number total : Nat) (ended : Bool) (acc chs : List (List Int)) (L : List UInt8), acc.length = h.channels → total ≤ 1200 → (∀ j, j < h.channels → (acc.getD j []).length = total) →
    frames h fuel number total ended acc L = .ok chs → ∀ j, j < h.channels → (chs.getD j []).length ≤ 1200
  | 0, _, _, _, _, _, _, _, _, _, e => by cases e
  | fuel + 1, number, total, ended, acc, chs, L, ha, ht, hl, e => by
    unfold frames at e
    split at e
    · injection e with e
      subst e
      intro j hj
      rw [hl j hj]
      exact ht
    · cases hp : pFrame h number L with
      | none => rw [hp] at e; cases e
      | some x =>
        obtain ⟨cs, rest⟩ := x
        rw [hp] at e
        obtain ⟨hcl, n, k, _, _, hcn, _⟩ := pFrame_spec hp
        simp only at e
        split at e
        · cases e
        · rename_i hno
          rw [headD_getD, hcn 0 (by omega)] at hno
          have hn : ¬ 1200 < total + n := fun h => hno (.inr h)
          refine frames_lens h hc fuel _ _ _ _ chs rest (by rw [List.length_zipWith, ha, hcl]; omega) ?_ ?_ e
          · rw [headD_getD, hcn 0 (by omega)]; omega
          · intro j hj
            rw [zip_append_get acc cs h.channels ha hcl j hj, List.length_append, hl j hj, hcn j hj, headD_getD, hcn 0 (by omega)]

theorem decode_bounds {s : ByteArray} {r bt : Nat} {chs : List (List Int)} (hd : decode s.data.toList = .sound r bt chs) : chs.length ≤ 2 ∧ ∀ j, j < chs.length → (chs.getD j []).length ≤ 1200 := by
  by_cases hlong : 6000 < s.size
  · rw [decode_long s hlong] at hd; cases hd
  · have hs : s.size ≤ 6000 := by omega
    cases hpb : pBlocks (bitsOf s.data.toList) with
    | none => rw [decode_meta s hs hpb] at hd; cases hd
    | some x =>
      obtain ⟨h, rb⟩ := x
      have hspec := pBlocks_spec hpb (by rw [total_bits]; omega)
      have hhok := hspec.2.2.1
      have hc2 : h.channels ≤ 2 := by unfold headOk at hhok; simp at hhok; omega
      rw [decode_frames s hs hpb] at hd
      cases hf : frames h (s.size + 1) 0 0 false (List.replicate h.channels []) (s.data.toList.drop (s.size - rb.length / 8)) with
      | error k => rw [hf] at hd; cases hd
      | ok cs =>
        rw [hf] at hd
        have hd' : (if (cs.headD []).length = h.total then Answer.sound h.rate h.bits cs else .err 5 0) = .sound r bt chs := hd
        split at hd'
        · injection hd' with _ _ e
          subst e
          have hl := frames_len h _ _ _ _ _ cs _ (by simp) hf
          refine ⟨by omega, fun j hj => frames_lens h hspec.2.2.2 _ _ _ _ _ cs _ (by simp) (by omega) (fun j hj => by simp [List.getD, hj]) hf j (by omega)⟩
        · cases hd'

def ansRate : Answer → Nat | .err _ _ => 0 | .sound r _ _ => r
def ansBits : Answer → Nat | .err _ _ => 0 | .sound _ b _ => b
def ansChs : Answer → List (List Int) | .err _ _ => [] | .sound _ _ c => c
def ansErr : Answer → Nat | .err e _ => e | .sound _ _ _ => 0
def ansAt : Answer → Nat | .err _ p => p | .sound _ _ _ => 0

theorem ans_bounds (s : ByteArray) : (ansChs (decode s.data.toList)).length ≤ 2 ∧ ∀ j, j < (ansChs (decode s.data.toList)).length → ((ansChs (decode s.data.toList)).getD j []).length ≤ 1200 := by
  cases hd : decode s.data.toList with
  | err e p => exact ⟨by simp [ansChs], fun j hj => by simp [ansChs] at hj⟩
  | sound r b c => exact decode_bounds hd

theorem dec_parts {w w' : World} {s : ByteArray} {e : Ending} {A : Answer} (hA : decode s.data.toList = A) (h : DecPost w s e w') :
    w.grownBy w' none ∧ ∃ lv vs, e = .returned (.tuple #[.agg #[.int .i64 (ansRate A), .int .i64 (ansBits A), lv], .int .i64 (ansErr A), .int .i64 (ansAt A)]) ∧ Subs w' w.heap.size lv vs (ansChs A) := by
  obtain ⟨hg, h⟩ := h
  rw [hA] at h
  refine ⟨hg, ?_⟩
  cases A with
  | err er place => exact ⟨.slice none 0 0, [], h, Subs.nil _ _⟩
  | sound r b c => exact h

theorem Subs.ls2 {w : World} {base : Nat} {lv : Value} {vs : List Value} {xss : List (List Int)} (h : Subs w base lv vs xss) : Ls2 w lv xss := by
  have hl := h.len
  rcases Nat.eq_zero_or_pos vs.length with h0 | hpos
  · have hx : xss = [] := List.eq_nil_of_length_eq_zero (by omega)
    subst hx
    rcases h.row.2 with ⟨hv, _⟩ | ⟨g, cap, cur, hv, _⟩
    · exact .inl ⟨hv, rfl⟩
    · exact .inr ⟨g, cap, by rw [hv, h0]; rfl, fun i hi => by simp at hi⟩
  · obtain ⟨lg, lcap, hv, _, _, hc⟩ := h.cell hpos
    exact .inr ⟨lg, lcap, by rw [hv, hl], fun i hi => ⟨_, hc i (by omega), (h.own i (by omega)).ls⟩⟩

/-- the book through new memory -/
theorem BookOk.new {w w' : World} {b N M : Nat} (h : BookOk w b N M) (hg : w.grownBy w' none) : BookOk w' b N M := by
  obtain ⟨iv, ov, us, os, E, hbk, hN, hM, hi, ho⟩ := h
  refine ⟨iv, ov, us, os, E, hbk.data hg (fun g e => by cases e), hN, hM, fun k hk => (hi k hk).step fun g n hS => ⟨hS, fun _ _ hc => cell_kept hc hg⟩, fun k hk => (ho k hk).step (fun g hgE => ⟨hgE, ?_⟩) fun g n hS => ⟨hS, fun _ _ _ _ hc => cell_kept hc hg⟩⟩
  exact World.cell?_of_block (w := w) (a := ⟨g, 0, none⟩) (hg.block g (hbk.dat g (.inl hgE)).2.1 (by simp))

/-- the book, empty -/
theorem BookOk.start {w : World} {b : Nat} (h : Box w b #[.slice none 0 0, .slice none 0 0] 34) : BookOk w b 0 0 :=
  ⟨_, _, [], [], fun _ => False, ⟨h, World.ownsRow_nil _ _ _ _, World.ownsRow_nil _ _ _ _, (fun g e => by cases e), (fun g hg => by rcases hg with hg | hg <;> exact hg.elim), fun g hg => hg.elim⟩, rfl, rfl, (fun k hk => by simp at hk), fun k hk => by simp at hk⟩

/-- lists that came out of a call, and the book that was there before -/
theorem KS.begin {wB w : World} {b B N M : Nat} {lv : Value} {vs : List Value} {xss : List (List Int)} (h : BookOk wB b N M) (hg : wB.grownBy w none) (hs : Subs w B lv vs xss) (hB : wB.heap.size ≤ B) :
    ∃ iv ov us os E, us.length = N ∧ os.length = M ∧ KS w w b lv vs xss 0 iv ov us os E (.slice none 0 0) 0 0 := by
  have hnew := h.new hg
  obtain ⟨iv, ov, us, os, E, hbk, hN, hM, hi, ho⟩ := h
  have hbk2 := hbk.data hg (fun g e => by cases e)
  have hri := World.ownsRow.lt hbk.ri
  have hro := World.ownsRow.lt hbk.ro
  have hbl := hbk.box.lt
  have hlv := World.ownsRow.lt hs.row
  have hK : ∀ g, Kl lv vs 0 g → B ≤ g ∧ g < w.heap.size := by
    rintro g (hg | ⟨j, _, hj, hg⟩)
    · exact hlv g hg
    · exact (hs.own j hj).lt g hg
  refine ⟨iv, ov, us, os, E, hN, hM, ⟨hbk2.sets (fun g hgE => ?_) (fun g hgE hk => ?_), Below.refl _ _, ownsRow_mono hs.row (by omega), fun j _ hj => Own.mono (hs.own j hj) (by omega), fun j g _ hj hv => hs.apartL j g hj hv, hs.apartV, Own.nil _ _, (fun g e => by cases e), fun k hk => (hi k hk).step fun g n hS => ⟨.inl hS, fun _ _ hc => cell_kept hc hg⟩, fun k hk => (ho k hk).step (fun g hgE => ⟨hgE, ?_⟩) fun g n hS => ⟨hS, fun _ _ _ _ hc => cell_kept hc hg⟩⟩⟩
  · rcases hgE with hgE | hk | hk
    · exact hbk2.dat g (.inl hgE)
    · have := hK g hk
      exact ⟨by omega, this.2, fun e => by have := (hri g e).2; omega, fun e => by have := (hro g e).2; omega⟩
    · cases hk
  · have h1 := (hbk.dat g (.inl hgE)).2.1
    rcases hk with hk | hk
    · have := hK g hk; omega
    · cases hk
  · exact World.cell?_of_block (w := w) (a := ⟨g, 0, none⟩) rfl |>.trans (World.cell?_of_block (w := wB) (a := ⟨g, 0, none⟩) (hg.block g (hbk.dat g (.inl hgE)).2.1 (by simp)))

theorem BookOk.looks {w : World} {b N M : Nat} (h : BookOk w b N M) (hN : N ≤ 1000) (hM : M ≤ 1000) :
    Calls Try.prog 17 #[.pointer (some ⟨b, 0, none⟩)] w fun e w' => e = .returned (.bool true) ∧ w' = w := by
  obtain ⟨iv, ov, us, os, E, hbk, hNe, hMe, hi, ho⟩ := h
  subst hNe hMe
  refine looks_true w b us.length os.length iv ov (by omega) (by omega) (hbk.box.cell 0) (hbk.box.cell 1) ?_ ?_
  · obtain ⟨a, c, hv⟩ := row_slice hbk.ri
    refine ⟨a, c, hv, fun i hlt => ?_⟩
    have hri := hbk.ri
    rw [hv] at hri
    obtain ⟨g, ha, _, hc, _⟩ := row_cell1 hri hlt
    exact ⟨g, _, ha, hc, (hi i hlt).mk⟩
  · obtain ⟨a, c, hv⟩ := row_slice hbk.ro
    refine ⟨a, c, hv, fun i hlt => ?_⟩
    have hro := hbk.ro
    rw [hv] at hro
    obtain ⟨g, ha, _, hc, _⟩ := row_cell1 hro hlt
    exact ⟨g, _, ha, hc, (ho i hlt).mk⟩

/-- keep, on a book and lists that came out of a call -/
theorem BookOk.keep {wB w : World} {b B N M : Nat} {lv : Value} {vs : List Value} {xss : List (List Int)} (h : BookOk wB b N M) (hg : wB.grownBy w none) (hs : Subs w B lv vs xss) (hB : wB.heap.size ≤ B) (hN : N % 4 = 0) (hNb : N ≤ 100) (hM : M % 4 = 0) (hMb : M ≤ 100)
    (hx2 : xss.length ≤ 2) (hxl : ∀ j, j < xss.length → (xss.getD j []).length ≤ 1200) :
    Calls Try.prog 16 #[.pointer (some ⟨b, 0, none⟩), lv] w fun e w' => e = .returned (.tuple #[]) ∧ Below b w w' ∧ BookOk w' b (N + 4 * xss.length) (M + 4) := by
  obtain ⟨iv, ov, us, os, E, hNe, hMe, hks⟩ := KS.begin h hg hs hB
  subst hNe hMe
  have hl := hs.len
  have := keep_book w b lv vs xss iv ov us os E hks hN hNb hM hMb hl (by omega) hxl
  rw [hl] at this
  exact this
end Go.Proofs.Ytodbbdknkffceaa
