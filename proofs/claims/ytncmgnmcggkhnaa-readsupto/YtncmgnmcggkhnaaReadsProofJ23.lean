import Derived.Test.YtncmgnmcggkhnaaReadsProofJ22
import Derived.BigQuiet
import Derived.Carry
import Derived.Maps.OwnSet
import Derived.Test.YtncmgnmcggkhnaaReadsProofJ0
namespace Go.Proofs.Ytncmgnmcggkhnaa
open Go.RowKit

theorem frames_fuel (h : Head) : ∀ (f1 f2 number total : Nat) (ended : Bool) (acc : List (List Int)) (L : List UInt8), L.length < f1 → L.length < f2 → frames h f1 number total ended acc L = frames h f2 number total ended acc L
  | 0, _, _, _, _, _, _, h1, _ => by omega
  | _ + 1, 0, _, _, _, _, _, _, h2 => by omega
  | f1 + 1, f2 + 1, number, total, ended, acc, L, h1, h2 => by
    unfold frames
    split
    · rfl
    · rename_i hne
      cases hp : pFrame h number L with
      | none => rfl
      | some x =>
        obtain ⟨chs, rest⟩ := x
        obtain ⟨_, n, k, _, _, _, hk1, hk2, hrest⟩ := pFrame_spec hp
        have hl : rest.length < L.length := by rw [hrest, List.length_drop]; omega
        simp only
        split
        · rfl
        · exact frames_fuel h f1 f2 _ _ _ _ rest (by omega) (by omega)

theorem frames_len (h : Head) : ∀ (fuel number total : Nat) (ended : Bool) (acc chs : List (List Int)) (L : List UInt8), acc.length = h.channels → frames h fuel number total ended acc L = .ok chs → chs.length = h.channels
  | 0, _, _, _, _, _, _, _, e => by cases e
  | fuel + 1, number, total, ended, acc, chs, L, ha, e => by
    unfold frames at e
    split at e
    · injection e with e; rw [← e]; exact ha
    · cases hp : pFrame h number L with
      | none => rw [hp] at e; cases e
      | some x =>
        obtain ⟨cs, rest⟩ := x
        rw [hp] at e
        simp only at e
        split at e
        · cases e
        · exact frames_len h fuel _ _ _ _ chs rest (by rw [List.length_zipWith, ha, (pFrame_spec hp).1]; omega) e

theorem each_shape {J : World → List Fr → (Nat → Prop) → Prop} {w w' : World} {S : Nat → Prop} {h : Head} {L : List UInt8} {res : Except Nat (List (List Int))} {e : Ending} (hp : EachPost J w S h L res e w') :
    ∃ (er k : Nat), e = .returned (.tuple #[.int .i64 er, .int .i64 k]) := by
  obtain ⟨_, _, _, _, _, hp⟩ := hp
  cases res with
  | error k => exact ⟨4, k, hp⟩
  | ok chs => exact ⟨_, 0, hp.2.2⟩

/-- what Decode answers, out of what eachFrame answered -/
theorem each_err {J : World → List Fr → (Nat → Prop) → Prop} {w w' : World} {S : Nat → Prop} {h : Head} {L : List UInt8} {res : Except Nat (List (List Int))} {er k : Nat} (hp : EachPost J w S h L res (.returned (.tuple #[.int .i64 er, .int .i64 k])) w') (hne : er ≠ 0) : ansOf h res = .err er k := by
  obtain ⟨_, _, _, _, _, hp⟩ := hp
  cases res with
  | error k' =>
    injection hp with e
    injection e with e
    injection e with e
    injection e with e1 e
    injection e with e2 _
    injection e1 with _ e1
    injection e2 with _ e2
    have h1 : er = 4 := by omega
    have h2 : k = k' := by omega
    subst h1 h2
    rfl
  | ok chs =>
    have e := hp.2.2
    injection e with e
    injection e with e
    injection e with e
    injection e with e1 e
    injection e with e2 _
    injection e1 with _ e1
    injection e2 with _ e2
    have h2 : k = 0 := by omega
    subst h2
    unfold ansOf
    by_cases hc : (chs.headD []).length = h.total
    · rw [if_pos hc] at e1; omega
    · rw [if_neg hc] at e1
      have h1 : er = 5 := by omega
      rw [h1]
      simp only
      rw [if_neg hc]

theorem each_ok {J : World → List Fr → (Nat → Prop) → Prop} {w w' : World} {S : Nat → Prop} {h : Head} {L : List UInt8} {res : Except Nat (List (List Int))} {k : Nat} (hp : EachPost J w S h L res (.returned (.tuple #[.int .i64 0, .int .i64 k])) w') :
    k = 0 ∧ ∃ l S', J w' l S' ∧ Kp w w' S ∧ (∀ b, S' b → S b ∨ w.heap.size ≤ b) ∧ res = .ok (joined h.channels l) ∧ ansOf h res = .sound h.rate h.bits (joined h.channels l) ∧ ∃ ended, Fls h L l L.length ended := by
  obtain ⟨l, S', hJ, hk, hs, hp⟩ := hp
  cases res with
  | error k' =>
    injection hp with e
    injection e with e
    injection e with e
    injection e with e1 _
    injection e1 with _ e1
    omega
  | ok chs =>
    obtain ⟨hj, hf, e⟩ := hp
    injection e with e
    injection e with e
    injection e with e
    injection e with e1 e
    injection e with e2 _
    injection e1 with _ e1
    injection e2 with _ e2
    refine ⟨by omega, l, S', hJ, hk, hs, by rw [hj], ?_, hf⟩
    unfold ansOf
    by_cases hc : (chs.headD []).length = h.total
    · simp only
      rw [if_pos hc, hj]
    · rw [if_neg hc] at e1; omega

set_option maxHeartbeats 4000000 in
set_option maxRecDepth 20000 in
theorem qdecode (w : World) (s : ByteArray) (hsz : s.size ≤ maxLen) :
    Calls Try.prog 16 #[.string s] w (DecPost w s) := by
  obtain ⟨i1, hi, hz0, hz1, hz2⟩ := info_parts Try.info30
  have HI : Hid _ := hi
  have HZ0 : Hid _ := hz0
  have HZ1 : Hid _ := hz1
  have HZ2 : Hid _ := hz2
  clear hi hz0 hz1 hz2
  have HPH := fun w => qphead w s hsz
  clear hsz
  go_enter Try.func16, Try.ntmps16
  go_wp2_with fail
  have hbr0 := Box.new w #[Value.int .i64 0, .int .i64 0, .slice none 0 0] 26
  obtain ⟨r, hr⟩ : ∃ r, w.heap.size = r := ⟨_, rfl⟩
  obtain ⟨wa, hwa⟩ : ∃ wa, w.alloc (.cells #[Value.int .i64 0, .int .i64 0, .slice none 0 0] 26) = wa := ⟨_, rfl⟩
  have hga : w.grownBy wa none := by rw [← hwa]; exact grown_alloc (grown_refl _ _) _
  rw [hwa, hr] at hbr0
  rw [hwa, hr]
  refine (HPH wa).mono ?_
  rintro e w1 ⟨hg1, hv, d, er, rfl, hcase⟩
  clear HPH
  have hvf : ∃ b1 b2 b3 b4 b5 : Int, hv = .agg #[.int .i64 b1, .int .i64 b2, .int .i64 b3, .int .i64 b4, .int .i64 b5] := by
    rcases hcase with ⟨_, rfl, _⟩ | ⟨_, rfl, _⟩ | ⟨_, _, h, _, _, rfl, _⟩
    · exact ⟨_, _, _, _, _, rfl⟩
    · exact ⟨_, _, _, _, _, rfl⟩
    · exact ⟨_, _, _, _, _, rfl⟩
  obtain ⟨b1, b2, b3, b4, b5, rfl⟩ := hvf
  have hbr2 := hbr0.kept hg1 (by simp)
  have hgg1 := grown_trans hga hg1
  obtain ⟨w2, hw2⟩ : ∃ w2, w1.alloc (.cells #[Value.int .i64 b1, .int .i64 b2, .int .i64 b3, .int .i64 b4, .int .i64 b5] 77) = w2 := ⟨_, rfl⟩
  have hg2 : w1.grownBy w2 none := by rw [← hw2]; exact grown_alloc (grown_refl _ _) _
  have hgg2 := grown_trans hgg1 hg2
  have hbr3 := hbr2.kept hg2 (by simp)
  obtain ⟨gH, hgH⟩ : ∃ gH, w1.heap.size = gH := ⟨_, rfl⟩
  have hbh3 : Box w2 gH #[Value.int .i64 b1, .int .i64 b2, .int .i64 b3, .int .i64 b4, .int .i64 b5] 77 := by rw [← hgH, ← hw2]; exact Box.new _ _ _
  have hrlt := hbr2.lt
  rw [hgH] at hrlt
  have hs2 : w2.heap.size = gH + 1 := by rw [← hw2, ← hgH]; simp
  have HR : Hid (w.heap.size = r) := hr
  have HW2 : Hid (w1.alloc (.cells #[Value.int .i64 b1, .int .i64 b2, .int .i64 b3, .int .i64 b4, .int .i64 b5] 77) = w2) := hw2
  have HGH : Hid (w1.heap.size = gH) := hgH
  have HS2 : Hid (w2.heap.size = gH + 1) := hs2
  clear hbr0 hbr2 hgg1 hga hwa hg1 hw2 hgH hg2 hr hs2
  go_upto_region 2 with fail
  rw [HW2.out, HGH.out]
  clear HW2 HGH
  have z0 : w2.cell? ⟨r, 0, none⟩ = some (.int .i64 0) := hbr3.cell 0
  have z1 : w2.cell? ⟨r, 1, none⟩ = some (.int .i64 0) := hbr3.cell 1
  have z2 : w2.cell? ⟨r, 2, none⟩ = some (.slice none 0 0) := hbr3.cell 2
  have y0 := hbr3.fz 0
  have y1 := hbr3.fz 1
  have y2 := hbr3.fz 2
  by_cases her : er ≠ 0
  · have hd : decode s.data.toList = .err er 0 := by
      rcases hcase with ⟨rfl, _, hlong⟩ | ⟨rfl, _, hs, hnone⟩ | ⟨h1, _⟩
      · exact decode_long s hlong
      · exact decode_meta s hs hnone
      · exact absurd h1 her
    have hf := dec_err hgg2 (by rw [HR.out]; omega) hbr3 hd
    have te : ((er : Int) != 0) = true := by simp; omega
    clear hd hcase her
    go_wp2
    generalize (World.setCell _ _ (Value.slice none 0 0)) = wf at hf ⊢
    have x0 := hf.1.cell 0
    have x1 := hf.1.cell 1
    have x2 := hf.1.cell 2
    exact bodyPost_ret (v := .tuple #[noSound, .int .i64 er, .int .i64 0]) (by simp [results, Try.results16, go_sem, x0, x1, x2, noSound]) rfl hf.2
  have her0 : er = 0 := by omega
  subst her0
  obtain ⟨hs, h, at', hat, hhv, rfl, hpb⟩ : s.size ≤ 6000 ∧ ∃ (h : Head) (at' : Nat), at' ≤ s.size ∧ Value.agg #[.int .i64 b1, .int .i64 b2, .int .i64 b3, .int .i64 b4, .int .i64 b5] = .agg (headC h) ∧ d = s.extract at' s.size ∧ pBlocks (bitsOf s.data.toList) = some (h, bitsOf (s.data.toList.drop at')) := by
    rcases hcase with ⟨h1, _⟩ | ⟨h1, _⟩ | ⟨_, h2, h3⟩
    · omega
    · omega
    · exact ⟨h2, h3⟩
  clear hcase her
  have hb5 : b1 = h.block ∧ b2 = h.rate ∧ b3 = h.channels ∧ b4 = h.bits ∧ b5 = h.total := by
    unfold headC at hhv
    injection hhv with e
    injection e with e
    injection e with e1 e
    injection e with e2 e
    injection e with e3 e
    injection e with e4 e
    injection e with e5 e
    injection e1 with _ e1
    injection e2 with _ e2
    injection e3 with _ e3
    injection e4 with _ e4
    injection e5 with _ e5
    exact ⟨e1, e2, e3, e4, e5⟩
  obtain ⟨rfl, rfl, rfl, rfl, rfl⟩ := hb5
  clear hhv
  have hspec := pBlocks_spec hpb (by rw [total_bits]; omega)
  have hc1 := hspec.2.2.2
  have hhok := hspec.2.2.1
  have hb1 : 16 ≤ h.block ∧ h.block ≤ 256 ∧ 4 ≤ h.bits ∧ h.bits ≤ 16 ∧ h.rate ≤ 655350 ∧ h.total ≤ 1200 ∧ h.channels ≤ 2 := by unfold headOk at hhok; simp at hhok; omega
  have hdf := decode_frames s hs hpb
  have hrl : s.size - (bitsOf (s.data.toList.drop at')).length / 8 = at' := by rw [bitsOf_length, List.length_drop, dlen]; omega
  rw [hrl] at hdf
  have hex : (s.extract at' s.size).data.toList = s.data.toList.drop at' := by rw [extract_list, List.take_of_length_le (by rw [List.length_drop, dlen]; omega)]
  have hexs : (s.extract at' s.size).size = s.size - at' := by rw [← dlen, hex, List.length_drop, dlen]
  rw [frames_fuel h (s.size + 1) ((s.extract at' s.size).size + 1) 0 0 false _ _ (by rw [List.length_drop, dlen]; omega) (by rw [List.length_drop, dlen]; omega), ← hex] at hdf
  obtain ⟨d, hd⟩ : ∃ d, s.extract at' s.size = d := ⟨_, rfl⟩
  rw [hd] at hdf hexs ⊢
  obtain ⟨res, hres⟩ : ∃ res, frames h (d.size + 1) 0 0 false (List.replicate h.channels []) d.data.toList = res := ⟨_, rfl⟩
  have HRES : Hid (frames h (d.size + 1) 0 0 false (List.replicate h.channels []) d.data.toList = res) := hres
  rw [hres] at hdf
  have HDF : Hid (decode s.data.toList = ansOf h res) := hdf
  have hdsz : d.size ≤ 6000 := by omega
  clear hdf hres hex hexs hrl hhok hspec hpb hd hat
  have e0 : w2.cell? ⟨gH, 0, none⟩ = some (.int .i64 h.block) := hbh3.cell 0
  have e1 : w2.cell? ⟨gH, 1, none⟩ = some (.int .i64 h.rate) := hbh3.cell 1
  have e2 : w2.cell? ⟨gH, 2, none⟩ = some (.int .i64 h.channels) := hbh3.cell 2
  have e3 : w2.cell? ⟨gH, 3, none⟩ = some (.int .i64 h.bits) := hbh3.cell 3
  have e4 : w2.cell? ⟨gH, 4, none⟩ = some (.int .i64 h.total) := hbh3.cell 4
  go_wp2_with (first
    | (at_make; refine wpList_make_full _ rfl _ _ 24 rfl w2.heap.size 30 i1 (.slice none 0 0) 1 Try.underlying24 HI.out HZ0.out HZ1.out _ _ _ _ h.channels rfl rfl rfl rfl ?m1 ?m2 ?m3 ?_))
  case m1 => rw [HZ2.out]; omega
  case m2 => unfold maxLen; omega
  case m3 => exact Nat.le_refl _
  intro w3 hmade hg3
  have hboxC : Box w3 (gH + 1) (List.replicate h.channels (Value.slice none 0 0)).toArray 30 := by
    rcases hmade.2 with ⟨e, _⟩ | ⟨g, cap, cur, e, _, hblk, _, _, hcs, htake⟩
    · cases e
    · simp only [Value.slice.injEq, Option.some.injEq, Addr.mk.injEq, and_true, true_and] at e
      obtain ⟨rfl, rfl⟩ := e
      rw [Nat.mul_one] at hcs htake
      have hr := replicate_of_made hcs htake
      rw [← hr, ← HS2.out]
      exact hblk
  have hlt3 := hboxC.lt
  have hg23 := hg3
  have hgg3 := grown_trans hgg2 hg3
  have hbr4 := hbr3.kept hg3 (by simp)
  have hbh4 := hbh3.kept hg3 (by simp)
  have hgHlt : gH < w2.heap.size := hbh3.lt
  obtain ⟨gV, hgV⟩ : ∃ gV, w3.heap.size = gV := ⟨_, rfl⟩
  obtain ⟨w4, hw4⟩ : ∃ w4, w3.alloc (.cells #[.slice (some ⟨gH + 1, 0, none⟩) h.channels h.channels] 24) = w4 := ⟨_, rfl⟩
  have hg4 : w3.grownBy w4 none := by rw [← hw4]; exact grown_alloc (grown_refl _ _) _
  have hbV4 : Box w4 gV #[.slice (some ⟨gH + 1, 0, none⟩) h.channels h.channels] 24 := by rw [← hgV, ← hw4]; exact Box.new _ _ _
  have hs4 : w4.heap.size = gV + 1 := by rw [← hw4, ← hgV]; simp
  have hgg4 := grown_trans hgg3 hg4
  have hbr5 := hbr4.kept hg4 (by simp)
  have hbh5 := hbh4.kept hg4 (by simp)
  have hboxC4 := hboxC.kept hg4 (by simp)
  rw [hgV] at hlt3
  have HW4 : Hid (w3.alloc (.cells #[.slice (some ⟨gH + 1, 0, none⟩) h.channels h.channels] 24) = w4) := hw4
  have HGV : Hid (w3.heap.size = gV) := hgV
  have HW2S : Hid (w2.heap.size = gH + 1) := HS2.out
  rw [HS2.out]
  clear hmade hg3 hg23 hboxC hgg2 hgg3 hbr3 hbr4 hbh3 hbh4 e0 e1 e2 e3 e4 z0 z1 z2 y0 y1 y2 hw4 hgV hg4 HS2
  go_upto_region 5 with fail
  rw [HW4.out, HGV.out]
  clear HW4 HGV
  have hJ0 : JDec gV (gH + 1) (gV + 1) h.channels w4 [] (ownsB (gH + 1) (List.replicate h.channels (.slice none 0 0))) := by
    have hm := CM.start w4 (gH + 1) (gV + 1) h.channels hboxC4
    have e1 : fillV h.channels [] = List.replicate h.channels (Value.slice none 0 0) := by simp [fillV]
    have e2 : fillX h.channels [] = List.replicate h.channels [] := by simp [fillX]
    rw [e1, e2] at hm
    exact ⟨hbV4, by omega, by omega, by omega, _, hm, by simp, fun b => Iff.rfl⟩
  have HEA := qeachframe w4 d h res 42 #[.pointer (some ⟨gV, 0, none⟩)] _ _ (enters_of Try.func42 (by kernel_rfl) rfl) (take_dec gV (gH + 1) (gV + 1) h (by omega)) hJ0 hdsz hc1 (by omega) (by omega) (by omega) (by omega) HRES.out
  have e0 : w4.cell? ⟨gH, 0, none⟩ = some (.int .i64 h.block) := hbh5.cell 0
  have e1 : w4.cell? ⟨gH, 1, none⟩ = some (.int .i64 h.rate) := hbh5.cell 1
  have e2 : w4.cell? ⟨gH, 2, none⟩ = some (.int .i64 h.channels) := hbh5.cell 2
  have e3 : w4.cell? ⟨gH, 3, none⟩ = some (.int .i64 h.bits) := hbh5.cell 3
  have e4 : w4.cell? ⟨gH, 4, none⟩ = some (.int .i64 h.total) := hbh5.cell 4
  unfold headC at HEA
  go_wp2_with fail
  refine HEA.mono ?_
  intro e w5 hpost
  obtain ⟨er, k, rfl⟩ := each_shape hpost
  clear HEA e0 e1 e2 e3 e4
  have hk5 : Kp w4 w5 (ownsB (gH + 1) (List.replicate h.channels (.slice none 0 0))) := by obtain ⟨_, _, _, hk, _⟩ := hpost; exact hk
  have hnot : ∀ b, b ≠ gH + 1 → ¬ ownsB (gH + 1) (List.replicate h.channels (Value.slice none 0 0)) b := by
    intro b hb e
    rcases e with e | ⟨i, hi, hq⟩
    · exact hb e
    · rw [List.length_replicate] at hi
      have e1 : (List.replicate h.channels (Value.slice none 0 0)).getD i undef = .slice none 0 0 := by simp [List.getD, hi]
      rw [e1] at hq
      cases hq
  have hbr6 := hbr5.kp hk5 (hnot r (by omega))
  have hbh6 := hbh5.kp hk5 (hnot gH (by omega))
  have hbV6 := hbV4.kp hk5 (hnot gV (by omega))
  have hgg5 : w.grownBy w5 none := by
    refine ⟨hk5.os.trans hgg4.os, hk5.tape.trans hgg4.tape, hk5.output.trans hgg4.output, Nat.le_trans hgg4.size hk5.size, fun b hb hn => ?_⟩
    rw [hk5.block b (Nat.lt_of_lt_of_le hb hgg4.size) (hnot b (by rw [HR.out] at hb; omega)), hgg4.block b hb hn]
  have z0 : w5.cell? ⟨r, 0, none⟩ = some (.int .i64 0) := hbr6.cell 0
  have z1 : w5.cell? ⟨r, 1, none⟩ = some (.int .i64 0) := hbr6.cell 1
  have z2 : w5.cell? ⟨r, 2, none⟩ = some (.slice none 0 0) := hbr6.cell 2
  have y0 := hbr6.fz 0
  have y1 := hbr6.fz 1
  have y2 := hbr6.fz 2
  by_cases her : er ≠ 0
  · have hd : decode s.data.toList = .err er k := by rw [HDF.out]; exact each_err hpost her
    have hf := dec_err hgg5 (by rw [HR.out]; omega) hbr6 hd
    have te : ((er : Int) != 0) = true := by simp; omega
    clear hd her hpost hJ0 hk5
    go_wp2
    generalize (World.setCell _ _ (Value.slice none 0 0)) = wf at hf ⊢
    have x0 := hf.1.cell 0
    have x1 := hf.1.cell 1
    have x2 := hf.1.cell 2
    exact bodyPost_ret (v := .tuple #[noSound, .int .i64 er, .int .i64 k]) (by simp [results, Try.results16, go_sem, x0, x1, x2, noSound]) rfl hf.2
  have her0 : er = 0 := by omega
  subst her0
  obtain ⟨rfl, l, S', hJ, _, hS', hres, hans, _⟩ := each_ok hpost
  have hd : decode s.data.toList = .sound h.rate h.bits (joined h.channels l) := by rw [HDF.out]; exact hans
  obtain ⟨_, _, _, _, vs, hm, hvl, hS2⟩ := hJ
  have hsubs := hm.subs (base' := gH + 1) (Nat.le_refl _) (by omega) (by omega)
  have h3 := three_cells w5 r _ _ _ _ (.int .i64 h.rate) (.int .i64 h.bits) (.slice (some ⟨gH + 1, 0, none⟩) h.channels h.channels) hbr6
  have hfin : ∀ wf, w5.grownBy wf (some r) → DecPost w s (.returned (.tuple #[.agg #[.int .i64 h.rate, .int .i64 h.bits, .slice (some ⟨gH + 1, 0, none⟩) h.channels h.channels], .int .i64 0, .int .i64 0])) wf := by
    intro wf hgf
    refine ⟨grown_new hgg5 hgf (fun g e => by injection e with e; rw [HR.out]; omega), ?_⟩
    rw [hd]
    refine ⟨_, vs, rfl, ?_⟩
    rw [hvl] at hsubs
    exact (hsubs.kept hgf (by omega)).mono (by rw [HR.out]; omega)
  have e1 : w5.cell? ⟨gH, 1, none⟩ = some (.int .i64 h.rate) := hbh6.cell 1
  have e3 : w5.cell? ⟨gH, 3, none⟩ = some (.int .i64 h.bits) := hbh6.cell 3
  have eV : w5.cell? ⟨gV, 0, none⟩ = some (.slice (some ⟨gH + 1, 0, none⟩) h.channels h.channels) := hbV6.cell 0
  clear hd her hpost hJ0 hk5 hm hsubs hvl hres hans hS' hS2
  go_wp2
  generalize (World.setCell _ _ (Value.slice (some ⟨gH + 1, 0, none⟩) h.channels h.channels)) = wf at h3 ⊢
  have x0 := h3.1.cell 0
  have x1 := h3.1.cell 1
  have x2 := h3.1.cell 2
  exact bodyPost_ret (v := .tuple #[.agg #[.int .i64 h.rate, .int .i64 h.bits, .slice (some ⟨gH + 1, 0, none⟩) h.channels h.channels], .int .i64 0, .int .i64 0]) (by simp [results, Try.results16, go_sem, x0, x1, x2]) rfl (hfin wf h3.2)
end Go.Proofs.Ytncmgnmcggkhnaa

namespace Go.Proofs.Ytncmgnmcggkhnaa
open Go.RowKit

/-- a reader in memory, as Open leaves it: the bytes of the frames of a stream that is right -/
def RdrNew (w : World) (base gB : Nat) (rate bits : Nat) (chs : List (List Int)) : Prop :=
  ∃ (h : Head) (l : List Fr) (pv : Value) (gM : Nat) (D : List UInt8) (ended : Bool), h.rate = rate ∧ h.bits = bits ∧ joined h.channels l = chs ∧ Fls h D l D.length ended ∧ headOk h = true ∧ 1 ≤ h.channels ∧ (chs.headD []).length = h.total ∧ D.length ≤ 6000 ∧
    base ≤ gM ∧ gM < gB ∧ Box w gB (readerC h pv 0 gM) 108 ∧ w.heap[gM]? = some (.map #[] 0) ∧ ∃ b2, gB < b2 ∧ w.ownsRow b2 9 1 pv l.length (l.map fun p => strV p.1)

def OpenPost (w : World) (s : ByteArray) (e : Ending) (w' : World) : Prop :=
  w.grownBy w' none ∧ match decode s.data.toList with
    | .err er p => e = .returned (.tuple #[.pointer none, .int .i64 er, .int .i64 p])
    | .sound r b chs => ∃ gB, e = .returned (.tuple #[.pointer (some ⟨gB, 0, none⟩), .int .i64 0, .int .i64 0]) ∧ RdrNew w' w.heap.size gB r b chs

set_option maxHeartbeats 4000000 in
set_option maxRecDepth 20000 in
theorem qopen (w : World) (s : ByteArray) (hsz : s.size ≤ maxLen) :
    Calls Try.prog 27 #[.string s] w (OpenPost w s) := by
  have HPH := fun w => qphead w s hsz
  clear hsz
  go_enter Try.func27, Try.ntmps27
  go_wp2_with fail
  refine (HPH w).mono ?_
  rintro e w1 ⟨hg1, hv, d, er, rfl, hcase⟩
  clear HPH
  have hvf : ∃ b1 b2 b3 b4 b5 : Int, hv = .agg #[.int .i64 b1, .int .i64 b2, .int .i64 b3, .int .i64 b4, .int .i64 b5] := by
    rcases hcase with ⟨_, rfl, _⟩ | ⟨_, rfl, _⟩ | ⟨_, _, h, _, _, rfl, _⟩
    · exact ⟨_, _, _, _, _, rfl⟩
    · exact ⟨_, _, _, _, _, rfl⟩
    · exact ⟨_, _, _, _, _, rfl⟩
  obtain ⟨b1, b2, b3, b4, b5, rfl⟩ := hvf
  obtain ⟨w2, hw2⟩ : ∃ w2, w1.alloc (.cells #[Value.int .i64 b1, .int .i64 b2, .int .i64 b3, .int .i64 b4, .int .i64 b5] 77) = w2 := ⟨_, rfl⟩
  have hg2 : w1.grownBy w2 none := by rw [← hw2]; exact grown_alloc (grown_refl _ _) _
  have hgg2 := grown_trans hg1 hg2
  obtain ⟨gH, hgH⟩ : ∃ gH, w1.heap.size = gH := ⟨_, rfl⟩
  have hbh2 : Box w2 gH #[Value.int .i64 b1, .int .i64 b2, .int .i64 b3, .int .i64 b4, .int .i64 b5] 77 := by rw [← hgH, ← hw2]; exact Box.new _ _ _
  have hs2 : w2.heap.size = gH + 1 := by rw [← hw2, ← hgH]; simp
  have HW2 : Hid (w1.alloc (.cells #[Value.int .i64 b1, .int .i64 b2, .int .i64 b3, .int .i64 b4, .int .i64 b5] 77) = w2) := hw2
  have HGH : Hid (w1.heap.size = gH) := hgH
  have HS2 : Hid (w2.heap.size = gH + 1) := hs2
  have hwH : w.heap.size ≤ gH := by rw [← hgH]; exact hg1.size
  clear hg1 hw2 hgH hg2 hs2
  go_upto_region 2 with fail
  rw [HW2.out, HGH.out]
  clear HW2 HGH
  by_cases her : er ≠ 0
  · have hd : decode s.data.toList = .err er 0 := by
      rcases hcase with ⟨rfl, _, hlong⟩ | ⟨rfl, _, hs, hnone⟩ | ⟨h1, _⟩
      · exact decode_long s hlong
      · exact decode_meta s hs hnone
      · exact absurd h1 her
    have hpost : OpenPost w s (.returned (.tuple #[.pointer none, .int .i64 er, .int .i64 0])) w2 := ⟨hgg2, by rw [hd]; rfl⟩
    have te : ((er : Int) != 0) = true := by simp; omega
    clear hd hcase her
    go_wp2
    exact bodyPost_ret (v := .tuple #[.pointer none, .int .i64 er, .int .i64 0]) (by simp [results, Try.results27, go_sem]) rfl hpost
  have her0 : er = 0 := by omega
  subst her0
  obtain ⟨hs, h, at', hat, hhv, rfl, hpb⟩ : s.size ≤ 6000 ∧ ∃ (h : Head) (at' : Nat), at' ≤ s.size ∧ Value.agg #[.int .i64 b1, .int .i64 b2, .int .i64 b3, .int .i64 b4, .int .i64 b5] = .agg (headC h) ∧ d = s.extract at' s.size ∧ pBlocks (bitsOf s.data.toList) = some (h, bitsOf (s.data.toList.drop at')) := by
    rcases hcase with ⟨h1, _⟩ | ⟨h1, _⟩ | ⟨_, h2, h3⟩
    · omega
    · omega
    · exact ⟨h2, h3⟩
  clear hcase her
  have hb5 : b1 = h.block ∧ b2 = h.rate ∧ b3 = h.channels ∧ b4 = h.bits ∧ b5 = h.total := by
    unfold headC at hhv
    injection hhv with e
    injection e with e
    injection e with e1 e
    injection e with e2 e
    injection e with e3 e
    injection e with e4 e
    injection e with e5 e
    injection e1 with _ e1
    injection e2 with _ e2
    injection e3 with _ e3
    injection e4 with _ e4
    injection e5 with _ e5
    exact ⟨e1, e2, e3, e4, e5⟩
  obtain ⟨rfl, rfl, rfl, rfl, rfl⟩ := hb5
  clear hhv
  have hspec := pBlocks_spec hpb (by rw [total_bits]; omega)
  have hc1 := hspec.2.2.2
  have hhok := hspec.2.2.1
  have hb1 : 16 ≤ h.block ∧ h.block ≤ 256 ∧ 4 ≤ h.bits ∧ h.bits ≤ 16 ∧ h.rate ≤ 655350 ∧ h.total ≤ 1200 ∧ h.channels ≤ 2 := by unfold headOk at hhok; simp at hhok; omega
  have HHOK : Hid (headOk h = true) := hhok
  have hdf := decode_frames s hs hpb
  have hrl : s.size - (bitsOf (s.data.toList.drop at')).length / 8 = at' := by rw [bitsOf_length, List.length_drop, dlen]; omega
  rw [hrl] at hdf
  have hex : (s.extract at' s.size).data.toList = s.data.toList.drop at' := by rw [extract_list, List.take_of_length_le (by rw [List.length_drop, dlen]; omega)]
  have hexs : (s.extract at' s.size).size = s.size - at' := by rw [← dlen, hex, List.length_drop, dlen]
  rw [frames_fuel h (s.size + 1) ((s.extract at' s.size).size + 1) 0 0 false _ _ (by rw [List.length_drop, dlen]; omega) (by rw [List.length_drop, dlen]; omega), ← hex] at hdf
  obtain ⟨d, hd⟩ : ∃ d, s.extract at' s.size = d := ⟨_, rfl⟩
  rw [hd] at hdf hexs ⊢
  obtain ⟨res, hres⟩ : ∃ res, frames h (d.size + 1) 0 0 false (List.replicate h.channels []) d.data.toList = res := ⟨_, rfl⟩
  have HRES : Hid (frames h (d.size + 1) 0 0 false (List.replicate h.channels []) d.data.toList = res) := hres
  rw [hres] at hdf
  have HDF : Hid (decode s.data.toList = ansOf h res) := hdf
  have hdsz : d.size ≤ 6000 := by omega
  clear hdf hres hex hexs hrl hhok hspec hpb hd hat
  have e0 : w2.cell? ⟨gH, 0, none⟩ = some (.int .i64 h.block) := hbh2.cell 0
  have e1 : w2.cell? ⟨gH, 1, none⟩ = some (.int .i64 h.rate) := hbh2.cell 1
  have e2 : w2.cell? ⟨gH, 2, none⟩ = some (.int .i64 h.channels) := hbh2.cell 2
  have e3 : w2.cell? ⟨gH, 3, none⟩ = some (.int .i64 h.bits) := hbh2.cell 3
  have e4 : w2.cell? ⟨gH, 4, none⟩ = some (.int .i64 h.total) := hbh2.cell 4
  have hmm := @run_makeMap Try.prog
  go_upto_region 5 with fail
  obtain ⟨gM, hgM⟩ : ∃ gM, w2.heap.size = gM := ⟨_, rfl⟩
  rw [hgM]
  obtain ⟨w5, hw5⟩ : ∃ w5, (((w2.alloc (.map #[] 0)).alloc (.cells #[.int .i64 h.block, .int .i64 h.rate, .int .i64 h.channels, .int .i64 h.bits, .int .i64 h.total, .slice none 0 0, .int .i64 0, .map (some gM)] 108)).alloc (.cells #[.pointer (some ⟨gM + 1, 0, none⟩)] 46)) = w5 := ⟨_, rfl⟩
  rw [hw5]
  have hg5 : w2.grownBy w5 none := by rw [← hw5]; exact grown_alloc (grown_alloc (grown_alloc (grown_refl _ _) _) _) _
  have hs5 : w5.heap.size = gM + 3 := by rw [← hw5, ← hgM]; simp
  have hm5 : w5.heap[gM]? = some (.map #[] 0) := by
    rw [← hw5, ← hgM]
    rw [Below.heap_alloc _ _ _ (by simp; omega), Below.heap_alloc _ _ _ (by simp)]
    show (w2.heap.push _)[w2.heap.size]? = _
    simp
  have hbB5 : Box w5 (gM + 1) (readerC h (.slice none 0 0) 0 gM) 108 := by
    have e : (w2.alloc (.map #[] 0)).heap.size = gM + 1 := by rw [← hgM]; simp
    rw [← hw5, ← e]
    exact (Box.new _ _ _).kept (grown_alloc (grown_refl _ none) _) (by simp)
  have hbV5 : Box w5 (gM + 2) #[.pointer (some ⟨gM + 1, 0, none⟩)] 46 := by
    have e : ((w2.alloc (.map #[] 0)).alloc (.cells #[.int .i64 h.block, .int .i64 h.rate, .int .i64 h.channels, .int .i64 h.bits, .int .i64 h.total, .slice none 0 0, .int .i64 0, .map (some gM)] 108)).heap.size = gM + 2 := by rw [← hgM]; simp
    rw [← hw5, ← e]
    exact Box.new _ _ _
  have hgg5 := grown_trans hgg2 hg5
  have hbh5 := hbh2.kept hg5 (by simp)
  have hwM : w.heap.size ≤ gM := by rw [← hgM]; exact hgg2.size
  have hJ0 : JOpen (gM + 2) (gM + 1) gM (gM + 3) h w5 [] (fun b => b = gM + 1 ∨ (Value.slice none 0 0).ownBlock = some b) :=
    ⟨hbV5, by omega, by omega, by omega, by omega, hm5, _, hbB5, World.ownsRow_nil _ _ _ _, fun b => Iff.rfl⟩
  have HEA := qeachframe w5 d h res 55 #[.pointer (some ⟨gM + 2, 0, none⟩)] _ _ (enters_of Try.func55 (by kernel_rfl) rfl) (take_open (gM + 2) (gM + 1) gM (gM + 3) h) hJ0 hdsz hc1 (by omega) (by omega) (by omega) (by omega) HRES.out
  clear e0 e1 e2 e3 e4 hw5 hgM hg5 hs5 hm5 hbB5 hmm
  have e0 : w5.cell? ⟨gH, 0, none⟩ = some (.int .i64 h.block) := hbh5.cell 0
  have e1 : w5.cell? ⟨gH, 1, none⟩ = some (.int .i64 h.rate) := hbh5.cell 1
  have e2 : w5.cell? ⟨gH, 2, none⟩ = some (.int .i64 h.channels) := hbh5.cell 2
  have e3 : w5.cell? ⟨gH, 3, none⟩ = some (.int .i64 h.bits) := hbh5.cell 3
  have e4 : w5.cell? ⟨gH, 4, none⟩ = some (.int .i64 h.total) := hbh5.cell 4
  unfold headC at HEA
  go_wp2_with fail
  refine HEA.mono ?_
  intro e w6 hpost
  obtain ⟨er, k, rfl⟩ := each_shape hpost
  clear HEA e0 e1 e2 e3 e4 hbh5 hbh2
  have hk6 : Kp w5 w6 (fun b => b = gM + 1 ∨ (Value.slice none 0 0).ownBlock = some b) := by obtain ⟨_, _, _, hk, _⟩ := hpost; exact hk
  have hgg6 : w.grownBy w6 none := by
    refine ⟨hk6.os.trans hgg5.os, hk6.tape.trans hgg5.tape, hk6.output.trans hgg5.output, Nat.le_trans hgg5.size hk6.size, fun b hb hn => ?_⟩
    rw [hk6.block b (Nat.lt_of_lt_of_le hb hgg5.size) (fun e => by rcases e with e | e; omega; cases e), hgg5.block b hb hn]
  by_cases her : er ≠ 0
  · have hd : decode s.data.toList = .err er k := by rw [HDF.out]; exact each_err hpost her
    have hpo : OpenPost w s (.returned (.tuple #[.pointer none, .int .i64 er, .int .i64 k])) w6 := ⟨hgg6, by rw [hd]⟩
    have te : ((er : Int) != 0) = true := by simp; omega
    clear hd her hpost hJ0 hk6
    go_wp2
    exact bodyPost_ret (v := .tuple #[.pointer none, .int .i64 er, .int .i64 k]) (by simp [results, Try.results27, go_sem]) rfl hpo
  have her0 : er = 0 := by omega
  subst her0
  obtain ⟨rfl, l, S', hJ, _, hS', hres, hans, ended, hfls⟩ := each_ok hpost
  have hd : decode s.data.toList = .sound h.rate h.bits (joined h.channels l) := by rw [HDF.out]; exact hans
  obtain ⟨bV6, j1, j2, j3, j4, j5, pv, bB6, hrow6, _⟩ := hJ
  have htot : ((joined h.channels l).headD []).length = h.total := by
    rw [hres] at hans
    unfold ansOf at hans
    by_cases hc : ((joined h.channels l).headD []).length = h.total
    · exact hc
    · simp only at hans
      rw [if_neg hc] at hans
      cases hans
  have hpo : OpenPost w s (.returned (.tuple #[.pointer (some ⟨gM + 1, 0, none⟩), .int .i64 0, .int .i64 0])) w6 := by
    refine ⟨hgg6, ?_⟩
    rw [hd]
    exact ⟨gM + 1, rfl, h, l, pv, gM, d.data.toList, ended, rfl, rfl, rfl, hfls, HHOK.out, hc1, htot, by rw [dlen]; exact hdsz, hwM, j1, bB6, j5, gM + 3, by omega, hrow6⟩
  have eV : w6.cell? ⟨gM + 2, 0, none⟩ = some (.pointer (some ⟨gM + 1, 0, none⟩)) := bV6.cell 0
  clear hd her hpost hJ0 hk6 hres hans hS' hfls bV6 bB6 hrow6 j5 htot
  go_wp2
  exact bodyPost_ret (v := .tuple #[.pointer (some ⟨gM + 1, 0, none⟩), .int .i64 0, .int .i64 0]) (by simp [results, Try.results27, go_sem]) rfl hpo
end Go.Proofs.Ytncmgnmcggkhnaa

namespace Go.Proofs.Ytncmgnmcggkhnaa
open Go.RowKit Go.ChangeMaps Go.MapKept

theorem law_int : Maps.Keyed Try.prog 3 := Maps.int_keyed Try.underlying3
theorem und_map : Try.prog.underlying 106 = some (.map 3 24) := by kernel_rfl
theorem zero_rows (w : World) : (zeroValue 24).run Try.prog w = .ok (.slice none 0 0) w := by kernel_rfl

/-- an element is read as itself -/
def heldR (v : Value) : Option (DataW Value × List MemPlace) := some (.held v, [])

theorem fits_i64 {a : Int} (h : -9223372036854775808 ≤ a ∧ a ≤ 9223372036854775807) : (Lit.int .i64 a).wf = true := WalkArith.wf_i64 h

/-- what is kept, by numbers -/
def KMap (w : World) (gM n : Nat) (M : Int → Option Value) : Prop :=
  ∃ D : DataW Value, w.ownsMap Try.prog 3 heldR gM n D ∧ ∀ a : Int, Maps.has D (.int .i64 a) = (M a).isSome ∧ ∀ v, M a = some v → ∀ z, D.atKey (.int .i64 a) z = .held v

theorem KMap.new (w : World) (gM : Nat) (h : w.heap[gM]? = some (.map #[] 0)) : KMap w gM 0 (fun _ => none) :=
  ⟨.map [], ⟨#[], 0, h, ⟨by simp, stamped_empty 0, by simp⟩, Nat.le_refl _, rfl⟩, fun a => ⟨rfl, fun v hv => by cases hv⟩⟩

theorem KMap.kp {w w' : World} {gM n : Nat} {M : Int → Option Value} {S : Nat → Prop} (h : KMap w gM n M) (hk : Kp w w' S) (hn : ¬ S gM) : KMap w' gM n M := by
  obtain ⟨D, hD, hM⟩ := h
  have hl := hD.lt
  obtain ⟨es, clock, hb, F, hs, e⟩ := hD
  exact ⟨D, ⟨es, clock, by rw [hk.block gM hl hn, hb], F, hs, e⟩, hM⟩

theorem KMap.lt {w : World} {gM n : Nat} {M : Int → Option Value} (h : KMap w gM n M) : gM < w.heap.size := by
  obtain ⟨D, hD, _⟩ := h
  exact hD.lt

/-- the number of the entries' bound may be raised -/
theorem KMap.more {w : World} {gM n n' : Nat} {M : Int → Option Value} (h : KMap w gM n M) (hn : n ≤ n') : KMap w gM n' M := by
  obtain ⟨D, hD, hM⟩ := h
  exact ⟨D, hD.mono hn, hM⟩

set_option maxRecDepth 20000 in
theorem KMap.look {w : World} {gM n : Nat} {M : Int → Option Value} (h : KMap w gM n M) (a : Int) (ha : -9223372036854775808 ≤ a ∧ a ≤ 9223372036854775807) :
    ∃ v, (Instr.lookup 106 (.map (some gM)) (.int .i64 a) true).run Try.prog w = .ok (.tuple #[v, .bool (M a).isSome]) w ∧ ∀ u, M a = some u → v = u := by
  obtain ⟨D, hD, hM⟩ := h
  obtain ⟨v, ps, hrun, hv⟩ := hD.look_ok law_int und_map (zero_rows w) (zd := .held (.slice none 0 0)) (zp := []) rfl (Maps.keyOf_int_mk Try.underlying3 (fits_i64 ha))
  rw [(hM a).1] at hrun
  refine ⟨v, hrun, fun u hu => ?_⟩
  have h2 := (hM a).2 u hu (.held (.slice none 0 0))
  rw [h2] at hv
  unfold heldR at hv
  injection hv with hv
  injection hv with hv _
  injection hv with hv

theorem lit_ne {a b : Int} (h : a ≠ b) : (Lit.int .i64 a) ≠ .int .i64 b := fun e => by injection e with _ e; exact h e

theorem KMap.drop {w : World} {gM n : Nat} {M : Int → Option Value} (h : KMap w gM n M) (a : Int) (ha : -9223372036854775808 ≤ a ∧ a ≤ 9223372036854775807) :
    ∃ w', (∀ ty, (Builtin.delete_ #[106, 3] ty #[.map (some gM), .int .i64 a]).run Try.prog w = .ok (.tuple #[]) w') ∧ KMap w' gM n (fun x => if x = a then none else M x) ∧ w.grownBy w' (some gM) := by
  obtain ⟨D, hD, hM⟩ := h
  obtain ⟨w', hrun, hown, hturn⟩ := hD.drop law_int und_map (Maps.keyOf_int_mk Try.underlying3 (fits_i64 ha)) 0
  refine ⟨w', fun ty => hrun, ⟨D.del (.int .i64 a), hown, fun x => ?_⟩, hturn.grown⟩
  by_cases hx : x = a
  · subst hx
    simp only [if_pos]
    exact ⟨Maps.has_del_same, fun v hv => by cases hv⟩
  · simp only [if_neg hx]
    refine ⟨by rw [Maps.has_del_other (lit_ne hx)]; exact (hM x).1, fun v hv z => ?_⟩
    rw [Maps.atKey_del_other (lit_ne hx)]
    exact (hM x).2 v hv z

set_option maxRecDepth 20000 in
theorem KMap.put {w : World} {gM n : Nat} {M : Int → Option Value} (h : KMap w gM n M) (hn : n < maxLen) (a : Int) (ha : -9223372036854775808 ≤ a ∧ a ≤ 9223372036854775807) (v : Value) :
    ∃ w', (Instr.mapUpdate 106 (.map (some gM)) (.int .i64 a) v).run Try.prog w = .ok () w' ∧ KMap w' gM (n + 1) (fun x => if x = a then some v else M x) ∧ w.grownBy w' (some gM) := by
  obtain ⟨D, hD, hM⟩ := h
  have hkey := Maps.keyOf_int_mk Try.underlying3 (fits_i64 ha)
  obtain ⟨w', hrun, hown, hturn⟩ := hD.store law_int und_map hn hkey (val := v) (d := .held v) (ps := []) rfl
  refine ⟨w', hrun, ⟨D.put (.int .i64 a) (.held v), hown, fun x => ?_⟩, hturn.grown⟩
  by_cases hx : x = a
  · subst hx
    simp only [if_pos]
    refine ⟨Maps.has_put_same hD.isMap (law_int.key hkey) _, fun u hu z => ?_⟩
    injection hu with hu
    subst hu
    exact Maps.atKey_put_same hD.isMap (law_int.key hkey) _ _
  · simp only [if_neg hx]
    refine ⟨by rw [Maps.has_put_other (lit_ne hx)]; exact (hM x).1, fun u hu z => ?_⟩
    rw [Maps.atKey_put_other (lit_ne hx)]
    exact (hM x).2 u hu z

theorem KMap.clear {w : World} {gM n : Nat} {M : Int → Option Value} (h : KMap w gM n M) :
    ∃ w', (∀ ty, (Builtin.clear_ #[106] ty #[.map (some gM)]).run Try.prog w = .ok (.tuple #[]) w') ∧ KMap w' gM 0 (fun _ => none) ∧ w.grownBy w' (some gM) := by
  obtain ⟨D, ⟨es, clock, hb, F, hs, e⟩, hM⟩ := h
  refine ⟨setBlock w gM (.map #[] clock), fun ty => ?_, ⟨.map [], ⟨#[], clock, heap_setBlock_same hb _, ⟨by simp, stamped_empty clock, by simp⟩, Nat.le_refl _, rfl⟩, fun a => ⟨rfl, fun v hv => by cases hv⟩⟩, ?_⟩
  · simp [Builtin.clear_, run_underlying und_map, Go.MapKept.run_getObj_map hb, Go.MapKept.run_setObj_map _ hb, Result.andThen, setBlock]
  · exact ⟨rfl, rfl, rfl, by simp [setBlock], fun i _ hi => heap_setBlock_other hb _ (fun e => hi (by rw [e]))⟩
end Go.Proofs.Ytncmgnmcggkhnaa

/-
  What a field is does not hang on what stands behind it.
-/
namespace Go.Proofs.Ytncmgnmcggkhnaa

def Loc {α : Type} (p : P α) : Prop := ∀ l x r, p l = some (x, r) → ∃ pre, l = pre ++ r ∧ ∀ r', p (pre ++ r') = some (x, r')

theorem Loc.fail {α : Type} : Loc (fun _ => none : P α) := fun l x r h => by cases h

theorem Loc.pure {α : Type} (y : α) : Loc (fun l => some (y, l) : P α) := fun l x r h => by
  injection h with h
  injection h with h1 h2
  subst h1 h2
  exact ⟨[], rfl, fun r' => rfl⟩

theorem Loc.bind {α β : Type} {p : P α} {F : α × List Bool → Option (β × List Bool)} (hp : Loc p) (hq : ∀ x, Loc (fun r => F (x, r) : P β)) : Loc (fun l => (p l).bind F : P β) := fun l x r h => by
  cases hl : p l with
  | none => simp only [hl] at h; cases h
  | some a =>
    obtain ⟨y, m⟩ := a
    simp only [hl] at h
    have h' : F (y, m) = some (x, r) := h
    obtain ⟨pre, e1, k1⟩ := hp l y m hl
    obtain ⟨pre2, e2, k2⟩ := hq y m x r h'
    refine ⟨pre ++ pre2, by rw [List.append_assoc, ← e2, ← e1], fun r' => ?_⟩
    show (p (pre ++ pre2 ++ r')).bind _ = _
    rw [List.append_assoc, k1]
    exact k2 r'

theorem Loc.map {α β : Type} {p : P α} {F : α × List Bool → β × List Bool} (f : α → β) (hf : ∀ x r, F (x, r) = (f x, r)) (hp : Loc p) : Loc (fun l => (p l).map F : P β) := fun l x r h => by
  cases hl : p l with
  | none => simp only [hl] at h; cases h
  | some a =>
    obtain ⟨y, m⟩ := a
    simp only [hl] at h
    injection h with h
    rw [hf] at h
    injection h with h1 h2
    subst h1 h2
    obtain ⟨pre, e1, k1⟩ := hp l y m hl
    exact ⟨pre, e1, fun r' => by show (p (pre ++ r')).map _ = _; rw [k1]; show some (F _) = _; rw [hf]⟩

theorem Loc.ite {α : Type} {c : Prop} [Decidable c] {p q : P α} (hp : Loc p) (hq : Loc q) : Loc (fun l => if c then p l else q l : P α) := fun l x r h => by
  by_cases hc : c
  · simp only [if_pos hc] at h ⊢
    exact hp l x r h
  · simp only [if_neg hc] at h ⊢
    exact hq l x r h

theorem loc_num (n : Nat) : Loc (pNum n) := fun l x r h => by
  unfold pNum at h
  split at h
  · rename_i hn
    injection h with h
    injection h with h1 h2
    subst h1 h2
    refine ⟨l.take n, by rw [List.take_append_drop], fun r' => ?_⟩
    have hl : (l.take n).length = n := by rw [List.length_take]; omega
    unfold pNum
    rw [if_pos (by rw [List.length_append]; omega), List.take_append_of_le_length (by omega), List.take_of_length_le (by omega), List.drop_append_of_le_length (by omega), List.drop_of_length_le (by omega)]
    rfl
  · cases h

theorem loc_signed (n : Nat) : Loc (pSigned n) := Loc.map (sign n) (fun _ _ => rfl) (loc_num n)

theorem loc_must (n v : Nat) : Loc (pMust n v) := by
  unfold pMust
  apply Loc.bind (loc_num n)
  intro x
  apply Loc.ite
  · exact Loc.pure ()
  · exact Loc.fail

theorem loc_noughts : Loc pNoughts := by
  intro l
  induction l with
  | nil => intro x r h; cases h
  | cons b l ih =>
    intro x r h
    cases b with
    | true =>
      injection h with h
      injection h with h1 h2
      subst h1 h2
      exact ⟨[true], rfl, fun r' => rfl⟩
    | false =>
      have h' : (pNoughts l).map (fun (q, r) => (q + 1, r)) = some (x, r) := h
      cases hl : pNoughts l with
      | none => rw [hl] at h'; cases h'
      | some a =>
        obtain ⟨y, m⟩ := a
        rw [hl] at h'
        injection h' with h'
        injection h' with h1 h2
        subst h1 h2
        obtain ⟨pre, e1, k1⟩ := ih y m hl
        exact ⟨false :: pre, by rw [e1]; rfl, fun r' => by show (pNoughts (pre ++ r')).map _ = _; rw [k1]; rfl⟩

theorem loc_list {f : P Int} (hf : Loc f) : ∀ n, Loc (pList f n)
  | 0 => Loc.pure []
  | n + 1 => Loc.bind hf fun x => Loc.map (fun xs => x :: xs) (fun _ _ => rfl) (loc_list hf n)

theorem loc_rice (k : Nat) : Loc (pRice k) := by
  unfold pRice
  apply Loc.bind loc_noughts
  intro q
  apply Loc.bind (loc_num k)
  intro v
  apply Loc.ite
  · exact Loc.pure _
  · exact Loc.fail

theorem loc_part (method many : Nat) : Loc (pPart method many) := by
  unfold pPart
  apply Loc.bind (loc_num _)
  intro k
  apply Loc.ite
  · apply Loc.bind (loc_num 5)
    intro m
    exact loc_list (loc_signed m) many
  · exact loc_list (loc_rice k) many

theorem loc_parts (method many : Nat) : ∀ (c less : Nat), Loc (pParts method many less c)
  | 0, _ => Loc.pure []
  | c + 1, _ => Loc.bind (loc_part _ _) fun xs => Loc.map (fun ys => xs ++ ys) (fun _ _ => rfl) (loc_parts method many c 0)

theorem loc_residue (n order : Nat) : Loc (pResidue n order) := by
  unfold pResidue
  apply Loc.bind (loc_num 2)
  intro method
  apply Loc.bind (loc_num 4)
  intro p
  apply Loc.ite
  · exact loc_parts _ _ _ _
  · exact Loc.fail

theorem Loc.some {α β : Type} {p : P α} {F : α × List Bool → Option (β × List Bool)} (f : α → Option β) (hF : ∀ x r, F (x, r) = (f x).map fun y => (y, r)) (hp : Loc p) : Loc (fun l => (p l).bind F : P β) := fun l x r h => by
  cases hl : p l with
  | none => simp only [hl] at h; cases h
  | some a =>
    obtain ⟨y, m⟩ := a
    simp only [hl] at h
    have h' : (f y).map (fun z => (z, m)) = Option.some (x, r) := by rw [← hF]; exact h
    cases hf : f y with
    | none => rw [hf] at h'; cases h'
    | some z =>
      rw [hf] at h'
      injection h' with h'
      injection h' with h1 h2
      subst h1 h2
      obtain ⟨pre, e1, k1⟩ := hp l y m hl
      refine ⟨pre, e1, fun r' => ?_⟩
      show (p (pre ++ r')).bind _ = _
      rw [k1]
      show F (y, r') = _
      rw [hF, hf]
      rfl

theorem loc_foretold (n wide : Nat) (first factors : List Int) (shift : Nat) : Loc (pForetold n wide first factors shift) :=
  Loc.some (fun res => predict wide factors shift first.reverse res) (fun _ _ => rfl) (loc_residue _ _)

theorem loc_fixed (n wide order : Nat) : Loc (pFixed n wide order) := by
  unfold pFixed
  apply Loc.ite
  · apply Loc.bind (loc_list (loc_signed wide) order)
    intro first
    exact loc_foretold _ _ _ _ _
  · exact Loc.fail

theorem loc_linear (n wide order : Nat) : Loc (pLinear n wide order) := by
  unfold pLinear
  apply Loc.ite
  · apply Loc.bind (loc_list (loc_signed wide) order)
    intro first
    apply Loc.bind (loc_num 4)
    intro fb
    apply Loc.bind (loc_signed 5)
    intro shift
    apply Loc.ite
    · exact Loc.fail
    · apply Loc.bind (loc_list (loc_signed (fb + 1)) order)
      intro factors
      exact loc_foretold _ _ _ _ _
  · exact Loc.fail

theorem loc_kind (kind n wide : Nat) : Loc (pKind kind n wide) := by
  unfold pKind
  refine Loc.ite (Loc.map (fun x => List.replicate n x) (fun _ _ => rfl) (loc_signed wide)) ?_
  refine Loc.ite (loc_list (loc_signed wide) n) ?_
  refine Loc.ite (loc_fixed _ _ _) ?_
  exact Loc.ite (loc_linear _ _ _) Loc.fail

theorem loc_less : Loc pLess := by
  unfold pLess
  apply Loc.bind (loc_num 1)
  intro c
  apply Loc.ite
  · apply Loc.map (fun q => q + 1) _ loc_noughts
    intro x r
    rfl
  · exact Loc.pure 0

theorem loc_subframe (n wide : Nat) : Loc (pSubframe n wide) := by
  unfold pSubframe
  apply Loc.bind (loc_must 1 0)
  intro _
  apply Loc.bind (loc_num 6)
  intro kind
  apply Loc.bind loc_less
  intro less
  apply Loc.ite
  · apply Loc.map (fun xs => xs.map (· * 2 ^ less)) _ (loc_kind _ _ _)
    intro x r
    rfl
  · exact Loc.fail

theorem loc_channels (n bits mode : Nat) : ∀ (c i : Nat), Loc (pChannels n bits mode c i)
  | 0, _ => Loc.pure []
  | c + 1, i => Loc.bind (loc_subframe _ _) fun x => Loc.map (fun xs => x :: xs) (fun _ _ => rfl) (loc_channels n bits mode c (i + 1))

theorem loc_head (h : Head) (number : Nat) (bytes : List UInt8) : Loc (pHead h number bytes) := by
  unfold pHead
  apply Loc.bind (loc_must _ _)
  intro _
  apply Loc.bind (loc_must _ _)
  intro _
  apply Loc.bind (loc_num _)
  intro mode
  apply Loc.bind (loc_must _ _)
  intro _
  apply Loc.bind (loc_must _ _)
  intro _
  apply Loc.bind (loc_num _)
  intro n1
  apply Loc.bind (loc_must _ _)
  intro _
  apply Loc.ite
  · exact Loc.pure _
  · exact Loc.fail

theorem loc_info : Loc pInfo := by
  unfold pInfo
  apply Loc.bind (loc_num _)
  intro block
  apply Loc.bind (loc_must _ _)
  intro _
  apply Loc.bind (loc_num _)
  intro _
  apply Loc.bind (loc_num _)
  intro rate
  apply Loc.bind (loc_num _)
  intro ch
  apply Loc.bind (loc_num _)
  intro bt
  apply Loc.bind (loc_num _)
  intro total
  apply Loc.bind (loc_num _)
  intro _
  apply Loc.ite
  · exact Loc.pure _
  · exact Loc.fail

theorem loc_block : Loc pBlock := by
  unfold pBlock
  apply Loc.bind (loc_num _)
  intro last
  apply Loc.bind (loc_num _)
  intro kind
  apply Loc.bind (loc_num _)
  intro size
  exact Loc.pure _
end Go.Proofs.Ytncmgnmcggkhnaa
