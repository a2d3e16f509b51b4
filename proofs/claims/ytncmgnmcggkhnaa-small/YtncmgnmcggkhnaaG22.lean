import Derived.Test.YtncmgnmcggkhnaaG21
import Derived.Test.YtncmgnmcggkhnaaG20
import Derived.BigQuiet
namespace Go.Proofs.Ytncmgnmcggkhnaa
open Go.RowKit

/-- what Decode's function has made of the frames ahead: their samples, joined -/
def JDec (gV gC base n : Nat) (w : World) (l : List Fr) (S : Nat → Prop) : Prop :=
  Box w gV #[.slice (some ⟨gC, 0, none⟩) n n] 24 ∧ gC < gV ∧ gV < base ∧ base ≤ w.heap.size ∧ ∃ vs, CM w gC base vs (joined n l) ∧ vs.length = n ∧ ∀ b, S b ↔ ownsB gC vs b

theorem JDec.apart {gV gC base : Nat} {w : World} {vs : List Value} {acc : List (List Int)} (hm : CM w gC base vs acc) (h1 : gC < gV) (h2 : gV < base) : ¬ ownsB gC vs gV := by
  intro e
  rcases e with e | ⟨i, hi, hq⟩
  · omega
  · have := ((hm.own i hi).lt gV hq).1
    omega

set_option maxHeartbeats 1000000 in
theorem take_dec (gV gC base : Nat) (h : Head) (hc2 : h.channels ≤ 2) : TakeOk 42 #[.pointer (some ⟨gV, 0, none⟩)] h (JDec gV gC base h.channels) := by
  refine ⟨?_, ?_, ?_⟩
  · intro w l S hJ b hb
    obtain ⟨_, _, _, _, vs, hm, _, hS⟩ := hJ
    exact hm.ownsLt b ((hS b).1 hb)
  · intro w w' l S hJ hg
    obtain ⟨h1, h2, h3, h4, vs, hm, hl, hS⟩ := hJ
    exact ⟨h1.kept hg (by simp), h2, h3, Nat.le_trans h4 hg.size, vs, hm.kp (Kp.ofNone (S := fun _ => False) hg) (fun _ _ e => e), hl, hS⟩
  · intro W l S D part chs v n total hJ hview hD hcl hcn hn1 hjl hjn hmax hll hps
    obtain ⟨h1, h2, h3, h4, vs, hm, hl, hS⟩ := hJ
    have hD' : ∀ q, D q → ¬ ownsB gC vs q ∧ q < W.heap.size := fun q hq => ⟨fun e => (hD q hq).1 ((hS q).2 e), (hD q hq).2⟩
    have HJ := qjoin W gC base h.channels D v vs (joined h.channels l) chs hm hl hcl hc2 (by omega) h4 hview hD' (fun j hj => by rw [hcn j hj, hjl j hj]; omega)
    have hap := JDec.apart hm h2 h3
    show Calls Try.prog 42 #[.string part, v, .pointer (some ⟨gV, 0, none⟩)] W _
    have c0 : W.cell? ⟨gV, 0, none⟩ = some (.slice (some ⟨gC, 0, none⟩) h.channels h.channels) := h1.cell 0
    have hfin : ∀ w', JoinPost W gC base h.channels vs (joined h.channels l) chs (.returned (.tuple #[])) w' → TakePost (JDec gV gC base h.channels) W l S (part.data.toList, chs) (.returned (.tuple #[])) w' := by
      rintro w' ⟨_, hk, vs', hm', hl', hs'⟩
      refine ⟨rfl, hk.mono (fun b hb => .inl ((hS b).2 hb)), ownsB gC vs', ⟨h1.kp hk hap, h2, h3, Nat.le_trans h4 hk.size, vs', by rw [joined_snoc]; exact hm', hl', fun b => Iff.rfl⟩, fun b hb => ?_⟩
      rcases hs' b hb with e | e
      · exact .inl ((hS b).2 e)
      · exact .inr e
    clear hview hD hD' hm h1 hcl hcn hjl hjn hS hap
    go_enter Try.func42, Try.ntmps42
    go_wp2_with (go_at_call 43; refine HJ.mono ?_; rintro e w' hpost; obtain rfl := hpost.1)
    exact bodyPost_end (v := .tuple #[]) (by simp [results, Try.results42, go_sem]) rfl (hfin w' hpost)
end Go.Proofs.Ytncmgnmcggkhnaa

namespace Go.Proofs.Ytncmgnmcggkhnaa
open Go.RowKit

theorem frames_fuel (h : Head) : ∀ (f1 f2 number total : Nat) (ended : Bool) (acc : List (List Int)) (L : List UInt8), L.length < f1 → L.length < f2 → frames h f1 number total ended acc L = frames h f2 number total ended acc L
  | 0, _, _, _, _, _, _, h1, _ => by omega
  | _ + 1, 0, _, _, _, _, _, _, h2 => by omega
  | f1 + 1, f2 + 1, number, total, ended, acc, L, h1, h2 => by
    unfold frames
    split
    · rfl
    · rename_i hne
      cases hp : pFrame h number L with
      | none => rfl
      | some x =>
        obtain ⟨chs, rest⟩ := x
        obtain ⟨_, n, k, _, _, _, hk1, hk2, hrest⟩ := pFrame_spec hp
        have hl : rest.length < L.length := by rw [hrest, List.length_drop]; omega
        simp only
        split
        · rfl
        · exact frames_fuel h f1 f2 _ _ _ _ rest (by omega) (by omega)

theorem frames_len (h : Head) : ∀ (fuel number total : Nat) (ended : Bool) (acc chs : List (List Int)) (L : List UInt8), acc.length = h.channels → frames h fuel number total ended acc L = .ok chs → chs.length = h.channels
  | 0, _, _, _, _, _, _, _, e => by cases e
  | fuel + 1, number, total, ended, acc, chs, L, ha, e => by
    unfold frames at e
    split at e
    · injection e with e; rw [← e]; exact ha
    · cases hp : pFrame h number L with
      | none => rw [hp] at e; cases e
      | some x =>
        obtain ⟨cs, rest⟩ := x
        rw [hp] at e
        simp only at e
        split at e
        · cases e
        · exact frames_len h fuel _ _ _ _ chs rest (by rw [List.length_zipWith, ha, (pFrame_spec hp).1]; omega) e

theorem each_shape {J : World → List Fr → (Nat → Prop) → Prop} {w w' : World} {S : Nat → Prop} {h : Head} {L : List UInt8} {res : Except Nat (List (List Int))} {e : Ending} (hp : EachPost J w S h L res e w') :
    ∃ (er k : Nat), e = .returned (.tuple #[.int .i64 er, .int .i64 k]) := by
  obtain ⟨_, _, _, _, _, hp⟩ := hp
  cases res with
  | error k => exact ⟨4, k, hp⟩
  | ok chs => exact ⟨_, 0, hp.2.2⟩

/-- what Decode answers, out of what eachFrame answered -/
theorem each_err {J : World → List Fr → (Nat → Prop) → Prop} {w w' : World} {S : Nat → Prop} {h : Head} {L : List UInt8} {res : Except Nat (List (List Int))} {er k : Nat} (hp : EachPost J w S h L res (.returned (.tuple #[.int .i64 er, .int .i64 k])) w') (hne : er ≠ 0) : ansOf h res = .err er k := by
  obtain ⟨_, _, _, _, _, hp⟩ := hp
  cases res with
  | error k' =>
    injection hp with e
    injection e with e
    injection e with e
    injection e with e1 e
    injection e with e2 _
    injection e1 with _ e1
    injection e2 with _ e2
    have h1 : er = 4 := by omega
    have h2 : k = k' := by omega
    subst h1 h2
    rfl
  | ok chs =>
    have e := hp.2.2
    injection e with e
    injection e with e
    injection e with e
    injection e with e1 e
    injection e with e2 _
    injection e1 with _ e1
    injection e2 with _ e2
    have h2 : k = 0 := by omega
    subst h2
    unfold ansOf
    by_cases hc : (chs.headD []).length = h.total
    · rw [if_pos hc] at e1; omega
    · rw [if_neg hc] at e1
      have h1 : er = 5 := by omega
      rw [h1]
      simp only
      rw [if_neg hc]

theorem each_ok {J : World → List Fr → (Nat → Prop) → Prop} {w w' : World} {S : Nat → Prop} {h : Head} {L : List UInt8} {res : Except Nat (List (List Int))} {k : Nat} (hp : EachPost J w S h L res (.returned (.tuple #[.int .i64 0, .int .i64 k])) w') :
    k = 0 ∧ ∃ l S', J w' l S' ∧ Kp w w' S ∧ (∀ b, S' b → S b ∨ w.heap.size ≤ b) ∧ res = .ok (joined h.channels l) ∧ ansOf h res = .sound h.rate h.bits (joined h.channels l) ∧ ∃ ended, Fls h L l L.length ended := by
  obtain ⟨l, S', hJ, hk, hs, hp⟩ := hp
  cases res with
  | error k' =>
    injection hp with e
    injection e with e
    injection e with e
    injection e with e1 _
    injection e1 with _ e1
    omega
  | ok chs =>
    obtain ⟨hj, hf, e⟩ := hp
    injection e with e
    injection e with e
    injection e with e
    injection e with e1 e
    injection e with e2 _
    injection e1 with _ e1
    injection e2 with _ e2
    refine ⟨by omega, l, S', hJ, hk, hs, by rw [hj], ?_, hf⟩
    unfold ansOf
    by_cases hc : (chs.headD []).length = h.total
    · simp only
      rw [if_pos hc, hj]
    · rw [if_neg hc] at e1; omega

set_option maxHeartbeats 4000000 in
set_option maxRecDepth 20000 in
theorem qdecode (w : World) (s : ByteArray) (hsz : s.size ≤ maxLen) :
    Calls Try.prog 16 #[.string s] w (DecPost w s) := by
  obtain ⟨i1, hi, hz0, hz1, hz2⟩ := info_parts Try.info30
  have HI : Hid _ := hi
  have HZ0 : Hid _ := hz0
  have HZ1 : Hid _ := hz1
  have HZ2 : Hid _ := hz2
  clear hi hz0 hz1 hz2
  have HPH := fun w => qphead w s hsz
  clear hsz
  go_enter Try.func16, Try.ntmps16
  go_wp2_with fail
  have hbr0 := Box.new w #[Value.int .i64 0, .int .i64 0, .slice none 0 0] 26
  obtain ⟨r, hr⟩ : ∃ r, w.heap.size = r := ⟨_, rfl⟩
  obtain ⟨wa, hwa⟩ : ∃ wa, w.alloc (.cells #[Value.int .i64 0, .int .i64 0, .slice none 0 0] 26) = wa := ⟨_, rfl⟩
  have hga : w.grownBy wa none := by rw [← hwa]; exact grown_alloc (grown_refl _ _) _
  rw [hwa, hr] at hbr0
  rw [hwa, hr]
  refine (HPH wa).mono ?_
  rintro e w1 ⟨hg1, hv, d, er, rfl, hcase⟩
  clear HPH
  have hvf : ∃ b1 b2 b3 b4 b5 : Int, hv = .agg #[.int .i64 b1, .int .i64 b2, .int .i64 b3, .int .i64 b4, .int .i64 b5] := by
    rcases hcase with ⟨_, rfl, _⟩ | ⟨_, rfl, _⟩ | ⟨_, _, h, _, _, rfl, _⟩
    · exact ⟨_, _, _, _, _, rfl⟩
    · exact ⟨_, _, _, _, _, rfl⟩
    · exact ⟨_, _, _, _, _, rfl⟩
  obtain ⟨b1, b2, b3, b4, b5, rfl⟩ := hvf
  have hbr2 := hbr0.kept hg1 (by simp)
  have hgg1 := grown_trans hga hg1
  obtain ⟨w2, hw2⟩ : ∃ w2, w1.alloc (.cells #[Value.int .i64 b1, .int .i64 b2, .int .i64 b3, .int .i64 b4, .int .i64 b5] 77) = w2 := ⟨_, rfl⟩
  have hg2 : w1.grownBy w2 none := by rw [← hw2]; exact grown_alloc (grown_refl _ _) _
  have hgg2 := grown_trans hgg1 hg2
  have hbr3 := hbr2.kept hg2 (by simp)
  obtain ⟨gH, hgH⟩ : ∃ gH, w1.heap.size = gH := ⟨_, rfl⟩
  have hbh3 : Box w2 gH #[Value.int .i64 b1, .int .i64 b2, .int .i64 b3, .int .i64 b4, .int .i64 b5] 77 := by rw [← hgH, ← hw2]; exact Box.new _ _ _
  have hrlt := hbr2.lt
  rw [hgH] at hrlt
  have hs2 : w2.heap.size = gH + 1 := by rw [← hw2, ← hgH]; simp
  have HR : Hid (w.heap.size = r) := hr
  have HW2 : Hid (w1.alloc (.cells #[Value.int .i64 b1, .int .i64 b2, .int .i64 b3, .int .i64 b4, .int .i64 b5] 77) = w2) := hw2
  have HGH : Hid (w1.heap.size = gH) := hgH
  have HS2 : Hid (w2.heap.size = gH + 1) := hs2
  clear hbr0 hbr2 hgg1 hga hwa hg1 hw2 hgH hg2 hr hs2
  go_upto_region 2 with fail
  rw [HW2.out, HGH.out]
  clear HW2 HGH
  have z0 : w2.cell? ⟨r, 0, none⟩ = some (.int .i64 0) := hbr3.cell 0
  have z1 : w2.cell? ⟨r, 1, none⟩ = some (.int .i64 0) := hbr3.cell 1
  have z2 : w2.cell? ⟨r, 2, none⟩ = some (.slice none 0 0) := hbr3.cell 2
  have y0 := hbr3.fz 0
  have y1 := hbr3.fz 1
  have y2 := hbr3.fz 2
  by_cases her : er ≠ 0
  · have hd : decode s.data.toList = .err er 0 := by
      rcases hcase with ⟨rfl, _, hlong⟩ | ⟨rfl, _, hs, hnone⟩ | ⟨h1, _⟩
      · exact decode_long s hlong
      · exact decode_meta s hs hnone
      · exact absurd h1 her
    have hf := dec_err hgg2 (by rw [HR.out]; omega) hbr3 hd
    have te : ((er : Int) != 0) = true := by simp; omega
    clear hd hcase her
    go_wp2
    generalize (World.setCell _ _ (Value.slice none 0 0)) = wf at hf ⊢
    have x0 := hf.1.cell 0
    have x1 := hf.1.cell 1
    have x2 := hf.1.cell 2
    exact bodyPost_ret (v := .tuple #[noSound, .int .i64 er, .int .i64 0]) (by simp [results, Try.results16, go_sem, x0, x1, x2, noSound]) rfl hf.2
  have her0 : er = 0 := by omega
  subst her0
  obtain ⟨hs, h, at', hat, hhv, rfl, hpb⟩ : s.size ≤ 6000 ∧ ∃ (h : Head) (at' : Nat), at' ≤ s.size ∧ Value.agg #[.int .i64 b1, .int .i64 b2, .int .i64 b3, .int .i64 b4, .int .i64 b5] = .agg (headC h) ∧ d = s.extract at' s.size ∧ pBlocks (bitsOf s.data.toList) = some (h, bitsOf (s.data.toList.drop at')) := by
    rcases hcase with ⟨h1, _⟩ | ⟨h1, _⟩ | ⟨_, h2, h3⟩
    · omega
    · omega
    · exact ⟨h2, h3⟩
  clear hcase her
  have hb5 : b1 = h.block ∧ b2 = h.rate ∧ b3 = h.channels ∧ b4 = h.bits ∧ b5 = h.total := by
    unfold headC at hhv
    injection hhv with e
    injection e with e
    injection e with e1 e
    injection e with e2 e
    injection e with e3 e
    injection e with e4 e
    injection e with e5 e
    injection e1 with _ e1
    injection e2 with _ e2
    injection e3 with _ e3
    injection e4 with _ e4
    injection e5 with _ e5
    exact ⟨e1, e2, e3, e4, e5⟩
  obtain ⟨rfl, rfl, rfl, rfl, rfl⟩ := hb5
  clear hhv
  have hspec := pBlocks_spec hpb (by rw [total_bits]; omega)
  have hc1 := hspec.2.2.2
  have hhok := hspec.2.2.1
  have hb1 : 16 ≤ h.block ∧ h.block ≤ 256 ∧ 4 ≤ h.bits ∧ h.bits ≤ 16 ∧ h.rate ≤ 655350 ∧ h.total ≤ 1200 ∧ h.channels ≤ 2 := by unfold headOk at hhok; simp at hhok; omega
  have hdf := decode_frames s hs hpb
  have hrl : s.size - (bitsOf (s.data.toList.drop at')).length / 8 = at' := by rw [bitsOf_length, List.length_drop, dlen]; omega
  rw [hrl] at hdf
  have hex : (s.extract at' s.size).data.toList = s.data.toList.drop at' := by rw [extract_list, List.take_of_length_le (by rw [List.length_drop, dlen]; omega)]
  have hexs : (s.extract at' s.size).size = s.size - at' := by rw [← dlen, hex, List.length_drop, dlen]
  rw [frames_fuel h (s.size + 1) ((s.extract at' s.size).size + 1) 0 0 false _ _ (by rw [List.length_drop, dlen]; omega) (by rw [List.length_drop, dlen]; omega), ← hex] at hdf
  obtain ⟨d, hd⟩ : ∃ d, s.extract at' s.size = d := ⟨_, rfl⟩
  rw [hd] at hdf hexs ⊢
  obtain ⟨res, hres⟩ : ∃ res, frames h (d.size + 1) 0 0 false (List.replicate h.channels []) d.data.toList = res := ⟨_, rfl⟩
  have HRES : Hid (frames h (d.size + 1) 0 0 false (List.replicate h.channels []) d.data.toList = res) := hres
  rw [hres] at hdf
  have HDF : Hid (decode s.data.toList = ansOf h res) := hdf
  have hdsz : d.size ≤ 6000 := by omega
  clear hdf hres hex hexs hrl hhok hspec hpb hd hat
  have e0 : w2.cell? ⟨gH, 0, none⟩ = some (.int .i64 h.block) := hbh3.cell 0
  have e1 : w2.cell? ⟨gH, 1, none⟩ = some (.int .i64 h.rate) := hbh3.cell 1
  have e2 : w2.cell? ⟨gH, 2, none⟩ = some (.int .i64 h.channels) := hbh3.cell 2
  have e3 : w2.cell? ⟨gH, 3, none⟩ = some (.int .i64 h.bits) := hbh3.cell 3
  have e4 : w2.cell? ⟨gH, 4, none⟩ = some (.int .i64 h.total) := hbh3.cell 4
  go_wp2_with (first
    | (at_make; refine wpList_make_full _ rfl _ _ 24 rfl w2.heap.size 30 i1 (.slice none 0 0) 1 Try.underlying24 HI.out HZ0.out HZ1.out _ _ _ _ h.channels rfl rfl rfl rfl ?m1 ?m2 ?m3 ?_))
  case m1 => rw [HZ2.out]; omega
  case m2 => unfold maxLen; omega
  case m3 => exact Nat.le_refl _
  intro w3 hmade hg3
  have hboxC : Box w3 (gH + 1) (List.replicate h.channels (Value.slice none 0 0)).toArray 30 := by
    rcases hmade.2 with ⟨e, _⟩ | ⟨g, cap, cur, e, _, hblk, _, _, hcs, htake⟩
    · cases e
    · simp only [Value.slice.injEq, Option.some.injEq, Addr.mk.injEq, and_true, true_and] at e
      obtain ⟨rfl, rfl⟩ := e
      rw [Nat.mul_one] at hcs htake
      have hr := replicate_of_made hcs htake
      rw [← hr, ← HS2.out]
      exact hblk
  have hlt3 := hboxC.lt
  have hg23 := hg3
  have hgg3 := grown_trans hgg2 hg3
  have hbr4 := hbr3.kept hg3 (by simp)
  have hbh4 := hbh3.kept hg3 (by simp)
  have hgHlt : gH < w2.heap.size := hbh3.lt
  obtain ⟨gV, hgV⟩ : ∃ gV, w3.heap.size = gV := ⟨_, rfl⟩
  obtain ⟨w4, hw4⟩ : ∃ w4, w3.alloc (.cells #[.slice (some ⟨gH + 1, 0, none⟩) h.channels h.channels] 24) = w4 := ⟨_, rfl⟩
  have hg4 : w3.grownBy w4 none := by rw [← hw4]; exact grown_alloc (grown_refl _ _) _
  have hbV4 : Box w4 gV #[.slice (some ⟨gH + 1, 0, none⟩) h.channels h.channels] 24 := by rw [← hgV, ← hw4]; exact Box.new _ _ _
  have hs4 : w4.heap.size = gV + 1 := by rw [← hw4, ← hgV]; simp
  have hgg4 := grown_trans hgg3 hg4
  have hbr5 := hbr4.kept hg4 (by simp)
  have hbh5 := hbh4.kept hg4 (by simp)
  have hboxC4 := hboxC.kept hg4 (by simp)
  rw [hgV] at hlt3
  have HW4 : Hid (w3.alloc (.cells #[.slice (some ⟨gH + 1, 0, none⟩) h.channels h.channels] 24) = w4) := hw4
  have HGV : Hid (w3.heap.size = gV) := hgV
  have HW2S : Hid (w2.heap.size = gH + 1) := HS2.out
  rw [HS2.out]
  clear hmade hg3 hg23 hboxC hgg2 hgg3 hbr3 hbr4 hbh3 hbh4 e0 e1 e2 e3 e4 z0 z1 z2 y0 y1 y2 hw4 hgV hg4 HS2
  go_upto_region 5 with fail
  rw [HW4.out, HGV.out]
  clear HW4 HGV
  have hJ0 : JDec gV (gH + 1) (gV + 1) h.channels w4 [] (ownsB (gH + 1) (List.replicate h.channels (.slice none 0 0))) := by
    have hm := CM.start w4 (gH + 1) (gV + 1) h.channels hboxC4
    have e1 : fillV h.channels [] = List.replicate h.channels (Value.slice none 0 0) := by simp [fillV]
    have e2 : fillX h.channels [] = List.replicate h.channels [] := by simp [fillX]
    rw [e1, e2] at hm
    exact ⟨hbV4, by omega, by omega, by omega, _, hm, by simp, fun b => Iff.rfl⟩
  have HEA := qeachframe w4 d h res 42 #[.pointer (some ⟨gV, 0, none⟩)] _ _ (enters_of Try.func42 (by kernel_rfl) rfl) (take_dec gV (gH + 1) (gV + 1) h (by omega)) hJ0 hdsz hc1 (by omega) (by omega) (by omega) (by omega) HRES.out
  have e0 : w4.cell? ⟨gH, 0, none⟩ = some (.int .i64 h.block) := hbh5.cell 0
  have e1 : w4.cell? ⟨gH, 1, none⟩ = some (.int .i64 h.rate) := hbh5.cell 1
  have e2 : w4.cell? ⟨gH, 2, none⟩ = some (.int .i64 h.channels) := hbh5.cell 2
  have e3 : w4.cell? ⟨gH, 3, none⟩ = some (.int .i64 h.bits) := hbh5.cell 3
  have e4 : w4.cell? ⟨gH, 4, none⟩ = some (.int .i64 h.total) := hbh5.cell 4
  unfold headC at HEA
  go_wp2_with fail
  refine HEA.mono ?_
  intro e w5 hpost
  obtain ⟨er, k, rfl⟩ := each_shape hpost
  clear HEA e0 e1 e2 e3 e4
  have hk5 : Kp w4 w5 (ownsB (gH + 1) (List.replicate h.channels (.slice none 0 0))) := by obtain ⟨_, _, _, hk, _⟩ := hpost; exact hk
  have hnot : ∀ b, b ≠ gH + 1 → ¬ ownsB (gH + 1) (List.replicate h.channels (Value.slice none 0 0)) b := by
    intro b hb e
    rcases e with e | ⟨i, hi, hq⟩
    · exact hb e
    · rw [List.length_replicate] at hi
      have e1 : (List.replicate h.channels (Value.slice none 0 0)).getD i undef = .slice none 0 0 := by simp [List.getD, hi]
      rw [e1] at hq
      cases hq
  have hbr6 := hbr5.kp hk5 (hnot r (by omega))
  have hbh6 := hbh5.kp hk5 (hnot gH (by omega))
  have hbV6 := hbV4.kp hk5 (hnot gV (by omega))
  have hgg5 : w.grownBy w5 none := by
    refine ⟨hk5.os.trans hgg4.os, hk5.tape.trans hgg4.tape, hk5.output.trans hgg4.output, Nat.le_trans hgg4.size hk5.size, fun b hb hn => ?_⟩
    rw [hk5.block b (Nat.lt_of_lt_of_le hb hgg4.size) (hnot b (by rw [HR.out] at hb; omega)), hgg4.block b hb hn]
  have z0 : w5.cell? ⟨r, 0, none⟩ = some (.int .i64 0) := hbr6.cell 0
  have z1 : w5.cell? ⟨r, 1, none⟩ = some (.int .i64 0) := hbr6.cell 1
  have z2 : w5.cell? ⟨r, 2, none⟩ = some (.slice none 0 0) := hbr6.cell 2
  have y0 := hbr6.fz 0
  have y1 := hbr6.fz 1
  have y2 := hbr6.fz 2
  by_cases her : er ≠ 0
  · have hd : decode s.data.toList = .err er k := by rw [HDF.out]; exact each_err hpost her
    have hf := dec_err hgg5 (by rw [HR.out]; omega) hbr6 hd
    have te : ((er : Int) != 0) = true := by simp; omega
    clear hd her hpost hJ0 hk5
    go_wp2
    generalize (World.setCell _ _ (Value.slice none 0 0)) = wf at hf ⊢
    have x0 := hf.1.cell 0
    have x1 := hf.1.cell 1
    have x2 := hf.1.cell 2
    exact bodyPost_ret (v := .tuple #[noSound, .int .i64 er, .int .i64 k]) (by simp [results, Try.results16, go_sem, x0, x1, x2, noSound]) rfl hf.2
  have her0 : er = 0 := by omega
  subst her0
  obtain ⟨rfl, l, S', hJ, _, hS', hres, hans, _⟩ := each_ok hpost
  have hd : decode s.data.toList = .sound h.rate h.bits (joined h.channels l) := by rw [HDF.out]; exact hans
  obtain ⟨_, _, _, _, vs, hm, hvl, hS2⟩ := hJ
  have hsubs := hm.subs (base' := gH + 1) (Nat.le_refl _) (by omega) (by omega)
  have h3 := three_cells w5 r _ _ _ _ (.int .i64 h.rate) (.int .i64 h.bits) (.slice (some ⟨gH + 1, 0, none⟩) h.channels h.channels) hbr6
  have hfin : ∀ wf, w5.grownBy wf (some r) → DecPost w s (.returned (.tuple #[.agg #[.int .i64 h.rate, .int .i64 h.bits, .slice (some ⟨gH + 1, 0, none⟩) h.channels h.channels], .int .i64 0, .int .i64 0])) wf := by
    intro wf hgf
    refine ⟨grown_new hgg5 hgf (fun g e => by injection e with e; rw [HR.out]; omega), ?_⟩
    rw [hd]
    refine ⟨_, vs, rfl, ?_⟩
    rw [hvl] at hsubs
    exact (hsubs.kept hgf (by omega)).mono (by rw [HR.out]; omega)
  have e1 : w5.cell? ⟨gH, 1, none⟩ = some (.int .i64 h.rate) := hbh6.cell 1
  have e3 : w5.cell? ⟨gH, 3, none⟩ = some (.int .i64 h.bits) := hbh6.cell 3
  have eV : w5.cell? ⟨gV, 0, none⟩ = some (.slice (some ⟨gH + 1, 0, none⟩) h.channels h.channels) := hbV6.cell 0
  clear hd her hpost hJ0 hk5 hm hsubs hvl hres hans hS' hS2
  go_wp2
  generalize (World.setCell _ _ (Value.slice (some ⟨gH + 1, 0, none⟩) h.channels h.channels)) = wf at h3 ⊢
  have x0 := h3.1.cell 0
  have x1 := h3.1.cell 1
  have x2 := h3.1.cell 2
  exact bodyPost_ret (v := .tuple #[.agg #[.int .i64 h.rate, .int .i64 h.bits, .slice (some ⟨gH + 1, 0, none⟩) h.channels h.channels], .int .i64 0, .int .i64 0]) (by simp [results, Try.results16, go_sem, x0, x1, x2]) rfl (hfin wf h3.2)
end Go.Proofs.Ytncmgnmcggkhnaa
