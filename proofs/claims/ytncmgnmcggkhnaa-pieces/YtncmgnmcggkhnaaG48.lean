import Derived.Test.YtncmgnmcggkhnaaG32
import Derived.Test.YtncmgnmcggkhnaaG41
import Derived.BigQuiet
import Derived.Deep.RegionHeld
namespace Go.Proofs.Ytncmgnmcggkhnaa
open Go.RowKit

theorem grown_kp {w0 wr w' : World} {S : Nat → Prop} (hg : w0.grownBy wr none) (hk : Kp wr w' S) (hs : ∀ b, S b → w0.heap.size ≤ b) : w0.grownBy w' none :=
  ⟨hk.os.trans hg.os, hk.tape.trans hg.tape, hk.output.trans hg.output, Nat.le_trans hg.size hk.size, fun b hb hn => by rw [hk.block b (Nat.lt_of_lt_of_le hb hg.size) (fun e => by have := hs b e; omega), hg.block b hb hn]⟩

theorem open_of_sound {w w' : World} {s : ByteArray} {e : Ending} {r b : Nat} {chs : List (List Int)} (hA : decode s.data.toList = .sound r b chs) (h : OpenPost w s e w') :
    ∃ gB, e = .returned (.tuple #[.pointer (some ⟨gB, 0, none⟩), .int .i64 0, .int .i64 0]) ∧ w.grownBy w' none ∧ RdrNew w' w.heap.size gB r b chs := by
  obtain ⟨hg, h⟩ := h
  rw [hA] at h
  obtain ⟨gB, h1, h2⟩ := h
  exact ⟨gB, h1, hg, h2⟩

/-- the loop over the steps -/
def PcI (w0 wr : World) (gB gM : Nat) (h : Head) (l : List Fr) (pv : Value) (i place : Nat) : Prop :=
  w0.grownBy wr none ∧ place ≤ h.total ∧ ∃ M KB, Rdr wr gB gM h l pv place (1300 * i) M KB

set_option maxHeartbeats 4000000 in
set_option maxRecDepth 20000 in
theorem pieces_walk (w : World) (vr vt : Value) (raw steps : List Int) (wide channels block : Int) (h : Rin w vr raw) (hrl : raw.length ≤ 9223372036854775807) (hr64 : ∀ x ∈ raw, -9223372036854775808 ≤ x ∧ x ≤ 9223372036854775807) (hst : Rin w vt steps) (hs64 : ∀ x ∈ steps, -9223372036854775808 ≤ x ∧ x ≤ 9223372036854775807)
    (hw64 : -9223372036854775808 ≤ wide ∧ wide ≤ 9223372036854775807) (hc64 : -9223372036854775808 ≤ channels ∧ channels ≤ 9223372036854775807) (hb64 : -9223372036854775808 ≤ block ∧ block ≤ 9223372036854775807) :
    Calls Try.prog 10 #[vr, .int .i64 wide, .int .i64 channels, .int .i64 block, vt] w fun e w' => e = .returned (.bool true) ∧ w.grownBy w' none := by
  have HSO := ksound w vr raw wide channels 7 h hrl hr64 hw64 hc64 (by omega)
  obtain ⟨a, c, rfl, _⟩ := h
  obtain ⟨n, hn⟩ : ∃ n, raw.length = n := ⟨_, rfl⟩
  obtain ⟨sa, sc, rfl, hsat⟩ := hst
  obtain ⟨sn, hsn⟩ : ∃ sn, steps.length = sn := ⟨_, rfl⟩
  have HSN : Hid (steps.length = sn) := hsn
  have HSAT : Hid (∀ k, k < steps.length → ∃ b off, sa = some ⟨b, off, none⟩ ∧ w.cell? ⟨b, off + k, none⟩ = some (.int .i64 (steps.getD k 0))) := hsat
  have HS64 : Hid (∀ x ∈ steps, -9223372036854775808 ≤ x ∧ x ≤ 9223372036854775807) := hs64
  rw [hsn]
  rw [hn] at HSO ⊢
  clear hn hr64 hw64 hc64 hrl hsn hsat hs64
  go_enter Try.func10, Try.ntmps10
  go_wp2_with fail
  refine HSO.mono ?_
  rintro e w1 ⟨rt, bits, lv, vs, chs, rfl, hg1, hsubs, hM⟩
  clear HSO
  have hch1 : 1 ≤ chs.length ∧ chs.length ≤ 2 := by obtain ⟨_, _, _, _, h5, _⟩ := hM; omega
  have hvl := hsubs.len
  obtain ⟨lg, lcap, hlv, _, _, hcells⟩ := hsubs.cell (by omega)
  subst hlv
  obtain ⟨k, hk⟩ : ∃ k, vs.length = k := ⟨_, rfl⟩
  rw [hk] at hsubs ⊢
  have hkc : chs.length = k := by omega
  have hins := hsubs.ins
  clear hk hcells hvl
  obtain ⟨w2, hw2⟩ : ∃ w2, w1.alloc (.cells #[.int .i64 rt, .int .i64 bits, .slice (some ⟨lg, 0, none⟩) k lcap] 26) = w2 := ⟨_, rfl⟩
  have hg2 : w1.grownBy w2 none := by rw [← hw2]; exact grown_alloc (grown_refl _ _) _
  obtain ⟨gT, hgT⟩ : ∃ gT, w1.heap.size = gT := ⟨_, rfl⟩
  have hbT : Box w2 gT #[.int .i64 rt, .int .i64 bits, .slice (some ⟨lg, 0, none⟩) k lcap] 26 := by rw [← hgT, ← hw2]; exact Box.new _ _ _
  have hins2 := (hins.kept hg2).mono (D' := fun q => q < w2.heap.size) (fun b _ hb => hb)
  have HEN := kencoded w2 _ rt bits (min n 600) block chs hins2 hM (by omega) hb64
  have HW2 : Hid (w1.alloc (.cells #[.int .i64 rt, .int .i64 bits, .slice (some ⟨lg, 0, none⟩) k lcap] 26) = w2) := hw2
  have HGT : Hid (w1.heap.size = gT) := hgT
  have y0 : w2.cell? ⟨gT, 0, none⟩ = some (.int .i64 rt) := hbT.cell 0
  have y1 : w2.cell? ⟨gT, 1, none⟩ = some (.int .i64 bits) := hbT.cell 1
  have y2 : w2.cell? ⟨gT, 2, none⟩ = some (.slice (some ⟨lg, 0, none⟩) k lcap) := hbT.cell 2
  have HM : Hid (Made rt bits (min n 600) chs) := hM
  clear hw2 hgT hM hsubs hins
  go_upto_region 2 with fail
  rw [HW2.out, HGT.out]
  clear HW2 HGT
  go_wp2_with fail
  refine HEN.mono ?_
  rintro e w3 ⟨hg3, hh, hRS, hhr, hhb, rfl⟩
  have hgg3 := grown_trans hg1 (grown_trans hg2 hg3)
  have hel := hRS.encode_len
  have hdec := hRS.decode
  rw [hhr, hhb] at hdec
  have hsz := size_of (encode hh chs)
  have hdt := data_of (encode hh chs)
  have hins3 := hins2.kept hg3
  have hsnd3 := hins3.snd
  have hbT3 := hbT.kept hg3 (by simp)
  obtain ⟨st, hst⟩ : ∃ st, (⟨(encode hh chs).toArray⟩ : ByteArray) = st := ⟨_, rfl⟩
  rw [hst] at hsz hdt ⊢
  have hst60 : 42 ≤ st.size ∧ st.size ≤ 6000 := by omega
  have HOP := qopen w3 st (by unfold maxLen; omega)
  have HDE : Hid (decode st.data.toList = .sound rt bits chs) := by show _ = _; rw [hdt]; exact hdec
  clear HEN hst hsz hdt hdec hel hRS hhr hhb hins2 hg3 hg2 hg1 y0 y1 y2 hbT
  go_wp2_with fail
  refine HOP.mono ?_
  intro e w4 hop
  obtain ⟨gB, rfl, hg4, hnew⟩ := open_of_sound HDE.out hop
  obtain ⟨hd, l, pv, gM, _, _, hf, hgM3, _, hr4⟩ := hnew.rdr
  clear hop HOP HDE hnew hst60
  have hbT4 := hbT3.kept hg4 (by simp)
  have hsnd4 := hsnd3.kept hg4
  have hml := hr4.lt
  obtain ⟨tot, htot⟩ : ∃ tot, hd.total = tot := ⟨_, rfl⟩
  have hlen : ∀ j, j < k → (chs.getD j []).length = tot := fun j hj => by rw [← htot]; exact hf.total j (by rw [← hf.ch, hkc]; exact hj)
  have hchk : hd.channels = k := by rw [← hf.ch]; exact hkc
  obtain ⟨lg0, v0, ea, hc0, hlo0⟩ := hsnd4.at 0 (by omega)
  have e1 : lg0 = lg := by injection ea with ea; injection ea with ea; exact ea.symm
  subst e1
  obtain ⟨a0, c0, hv0⟩ := hlo0.slice
  subst hv0
  rw [hlen 0 (by omega)] at hc0
  have t4 : w4.cell? ⟨gT, 2, none⟩ = some (.slice (some ⟨lg0, 0, none⟩) k lcap) := hbT4.cell 2
  have HTO := rdr_total w4 gB gM hd l pv 0 0 _ _ hr4
  have HTE := rdr_tell w4 gB gM hd l pv 0 0 _ _ hr4
  rw [htot] at HTO
  have tne : ((tot : Int) != (tot : Int)) = false := by simp
  have hkz : (0 : Int) < (k : Int) := by omega
  go_upto_region 6 with fail
  go_wp2_with (first
    | (go_at_call 28; refine HTO.mono ?_; rintro e w5 ⟨rfl, rfl⟩)
    | (go_at_call 34; refine HTE.mono ?_; rintro e w5 ⟨rfl, rfl⟩))
  have hP0 : PcI w3 w5 gB gM hd l pv 0 0 := ⟨hg4, Nat.zero_le _, _, _, hr4⟩
  have HSND : Hid (Ins w3 (fun q => q < w2.heap.size) (.slice (some ⟨lg0, 0, none⟩) k lcap) chs) := hins3
  have HBT : Hid (Box w3 gT #[.int .i64 rt, .int .i64 bits, .slice (some ⟨lg0, 0, none⟩) k lcap] 26) := hbT3
  have HGG3 : Hid (w.grownBy w3 none) := hgg3
  have HF : Hid (FrOk hd chs l) := hf
  have HML : Hid (w3.heap.size ≤ gM ∧ gM < gB) := ⟨hgM3, hml⟩
  have HLEN : Hid (∀ j, j < k → (chs.getD j []).length = tot) := hlen
  have HTOT : Hid (hd.total = tot) := htot
  have HCHK : Hid (hd.channels = k) := hchk
  have HKC : Hid (chs.length = k) := hkc
  have htb : tot ≤ 1200 := by rw [← htot]; exact (headOk_parts hf.ok).2.2.2.2.2.2.2
  clear hlen htot hchk hkc hf hgM3 hml hgg3 hbT3 hsnd3 hins3 hr4 hg4 hbT4 hsnd4 hc0 hlo0 t4 HTO HTE hkz
  go_loopg [18, 19] 21 (fun gk t18 t19 wr => ∃ (i place : Nat), gk + i = 21 ∧ i ≤ 20 ∧ t18 = .int .i64 place ∧ t19 = .int .i64 i ∧ PcI w3 wr gB gM hd l pv i place)
  case atStart => exact ⟨0, 0, rfl, by omega, rfl, rfl, hP0⟩
  case round =>
    clear hP0
    obtain ⟨i, place, hgk, hi20, rfl, rfl, hP⟩ := hrel
    by_cases hgo : i < sn ∧ i < 20
    · have tg1 : decide ((i : Int) < (sn : Int)) = true := decide_eq_true (by omega)
      have tg2 : decide ((i : Int) < 20) = true := decide_eq_true (by omega)
      obtain ⟨sb, so, es, hsc⟩ := HSAT.out i (by rw [HSN.out]; exact hgo.1)
      subst es
      have hx64 := HS64.out (steps.getD i 0) (by have := HSN.out; simp [List.getD, show i < steps.length by omega])
      obtain ⟨x, hx⟩ : ∃ x, steps.getD i 0 = x := ⟨_, rfl⟩
      rw [hx] at hsc hx64
      have hscr : wr.cell? ⟨sb, so + i, none⟩ = some (.int .i64 x) := (grown_trans HGG3.out hP.1).cell hsc (by simp)
      have HPK : Calls _ _ #[_, .int .i64 1099511627776] _ _ := pick_any x 1099511627776 wr hx64.1 hx64.2 (by omega) (by omega)
      have hin1 := hgo.1
      have hin2 := hgo.2
      have HP : Hid (PcI w3 wr gB gM hd l pv i place) := hP
      clear hx hsc hP
      go_wp2_with fail
      refine HPK.mono ?_
      rintro e w9 ⟨c, hc, rfl, rfl⟩
      clear HPK hscr
      go_upto_if 91 with fail
      go_cut [18, 21] (fun s18 s21 wx => ∃ place', s18 = .int .i64 (place' : Nat) ∧ PcI w3 wx gB gM hd l pv i place')
      case first =>
        by_cases hc2 : c % 2 = 0
        · have tc : ((c : Int) % 2 == 0) = true := by
            have : ((c : Int) % 2) = 0 := by omega
            rw [this]; rfl
          obtain ⟨pl, hpl⟩ : ∃ pl, c / 2 % (tot + 1) = pl := ⟨_, rfl⟩
          have hplb : pl ≤ tot := by
            have := Nat.mod_lt (c / 2) (show tot + 1 > 0 by omega)
            omega
          have hplz : ((c : Int) / 2) % ((tot : Int) + 1) = (pl : Int) := by
            rw [← hpl]
            simp
          obtain ⟨hq0, hq1, Mq, KBq, hrq⟩ := HP.out
          have HSE := rdr_seek w9 gB gM hd l pv place (1300 * i) Mq KBq hrq pl (by rw [HTOT.out]; exact hplb)
          have HG0 : Hid (w3.grownBy w9 none) := hq0
          clear hq0 hq1 hrq hpl
          have HPLZ : Hid (((c : Int) / 2) % ((tot : Int) + 1) = (pl : Int)) := hplz
          have HPLB : Hid (pl ≤ tot) := hplb
          go_wp2_with fail
          refine HSE.mono ?_
          rintro e w10 ⟨rfl, hr10, hg10⟩
          have HPN : Hid (PcI w3 w10 gB gM hd l pv i pl) := ⟨grown_kp HG0.out (Kp.of hg10) (fun b hb => by injection hb with hb; have := HML.out; omega), by rw [HTOT.out]; exact HPLB.out, _, _, hr10⟩
          clear HSE hr10 hg10
          go_wp2
          go_meet
          case rel => exact ⟨pl, by first | rfl | rw [HPLZ.out], HPN.out⟩
        · have tc : ((c : Int) % 2 == 0) = false := by
            have : ((c : Int) % 2) = 1 := by omega
            rw [this]; rfl
          go_wp2
          go_meet
          case rel => exact ⟨place, rfl, HP.out⟩
      case rest =>
      obtain ⟨pl, rfl, hP⟩ := hcut
      obtain ⟨m, hm⟩ : ∃ m, c / 2 % 90 = m := ⟨_, rfl⟩
      have hmb : m < 90 := by rw [← hm]; exact Nat.mod_lt _ (by omega)
      have hmz : ((c : Int) / 2) % 90 = (m : Int) := by rw [← hm]; simp
      obtain ⟨hq0, hq1, Mq, KBq, hrq⟩ := hP
      have hplt : pl ≤ tot := by rw [← HTOT.out]; exact hq1
      have HRD := rdr_read wc gB gM hd chs l pv pl (1300 * i) Mq KBq hrq HF.out hq1 m (by omega) (by omega)
      rw [HTOT.out] at HRD
      obtain ⟨en, hen⟩ : ∃ en, pl + min m (tot - pl) = en := ⟨_, rfl⟩
      rw [hen] at HRD
      have henb : pl ≤ en ∧ en ≤ tot := by omega
      have HENE : Hid (min (pl + m) tot = en) := by show _ = _; omega
      have HG0 : Hid (w3.grownBy wc none) := hq0
      clear hq0 hq1 hrq hm hen HP
      go_wp2_with fail
      refine HRD.mono ?_
      rintro e w6 ⟨lv, vs6, M6, KB6, rfl, hk6, hr6, _, hsub6, _⟩
      have hg06 : w3.grownBy w6 none := grown_kp HG0.out hk6 (fun b hb => by have := HML.out; omega)
      have hln6 := hsub6.len
      have hcl6 : (cutAll pl en chs).length = k := by unfold cutAll; rw [List.length_map]; exact HKC.out
      obtain ⟨lg6, lcap6, hlv6, _, _, hcl⟩ := hsub6.cell (by have := hch1; have := HKC.out; omega)
      subst hlv6
      have hv6 : vs6.length = k := by omega
      rw [hv6] at hcl hsub6 ⊢
      have HP6 : Hid (PcI w3 w6 gB gM hd l pv (i + 1) en) := ⟨hg06, by rw [HTOT.out]; exact henb.2, M6, KB6, by rw [Nat.mul_add]; exact hr6⟩
      have HOUT : Hid (∀ j, j < k → ∃ u, w6.cell? ⟨lg6, j, none⟩ = some u ∧ Lo w6 u (((chs.getD j []).drop pl).take (en - pl))) := by
        intro j hj
        refine ⟨vs6.getD j undef, hcl j hj, ?_⟩
        have h1 := hsub6.own j (by omega)
        rw [cutAll_get pl en chs j (by rw [HKC.out]; exact hj)] at h1
        exact h1.ls.lo
      have HIN : Hid (∀ j, j < k → ∃ u, w6.cell? ⟨lg0, j, none⟩ = some u ∧ LoC w6 (fun q => q < w2.heap.size) u (chs.getD j [])) := by
        intro j hj
        rcases HSND.out.kept hg06 with ⟨e, _⟩ | ⟨lg', lcap', e, _, _, hc⟩
        · cases e
        · have e1 : lg0 = lg' := by injection e with e; injection e with e; injection e
          subst e1
          exact hc j (by rw [HKC.out]; exact hj)
      have HTE := rdr_tell w6 gB gM hd l pv en _ _ _ hr6
      have t6 : w6.cell? ⟨gT, 2, none⟩ = some (.slice (some ⟨lg0, 0, none⟩) k lcap) := hg06.cell (HBT.out.cell 2) (by simp)
      clear hcl hsub6 hln6 hcl6 hr6 hk6 HRD
      go_upto_region 23 with fail
      go_cut [25] (fun s25 wx => s25 = .int .i64 en ∧ wx = w6)
      case first =>
        go_wp2
        all_goals
          go_meet
          case rel => exact ⟨by have := HENE.out; congr 1; omega, rfl⟩
      case rest =>
      obtain ⟨rfl, rfl⟩ := hcut
      have tk : ((k : Int) != (k : Int)) = false := by simp
      have ten : ((en : Int) != (en : Int)) = false := by simp
      go_wp2_with (go_at_call 34; refine HTE.mono ?_; rintro e w7 ⟨rfl, rfl⟩)
      have HG6 : Hid (w3.grownBy w7 none) := hg06
      clear HTE t6 hg06
      obtain ⟨ko, rfl⟩ : ∃ ko : Nat, ko = gk := ⟨_, rfl⟩
      have HOM : Hid (ko + i = 21 ∧ i < 20) := ⟨hgk, hgo.2⟩
      go_loopg [26] k (fun gq t26 wq => ∃ j : Nat, gq + j = k ∧ t26 = .int .i64 j ∧ w7.grownBy wq none)
      case atStart => exact ⟨0, rfl, rfl, grown_refl _ _⟩
      case round =>
        obtain ⟨j, hgq, rfl, hgw⟩ := hrel
        have hk2 : k ≤ 2 := by have := HKC.out; omega
        by_cases hj : j < k
        · have tj : decide ((j : Int) < (k : Int)) = true := decide_eq_true (by omega)
          obtain ⟨u1, hu1, hlo1⟩ := HOUT.out j hj
          obtain ⟨u2, hu2, hlo2⟩ := HIN.out j hj
          have hlj := HLEN.out j hj
          have p1 := hgw.cell hu1 (by simp)
          have p2 : wr.cell? ⟨gT, 2, none⟩ = some (.slice (some ⟨lg0, 0, none⟩) k lcap) := hgw.cell (HG6.out.cell (HBT.out.cell 2) (by simp)) (by simp)
          have p3 := hgw.cell hu2 (by simp)
          have hlo1r : Lo wr.drew u1 (((chs.getD j []).drop pl).take (en - pl)) := hlo1.kept (grown_drew hgw)
          rcases hlo2 with ⟨rfl, hnil⟩ | ⟨b2, o2, cap2, rfl, hcap2, _, _, hc2⟩
          · have ht0 : tot = 0 := by rw [← hlj, hnil]; rfl
            obtain ⟨cap0, hc0⟩ : ∃ cap0 : Nat, 0 = cap0 := ⟨_, rfl⟩
            have p3' : wr.cell? ⟨lg0, j, none⟩ = some (.slice none tot cap0) := by rw [ht0, ← hc0]; exact p3
            have hv2 : Value.slice none (en - pl) (cap0 - pl) = .slice none 0 0 := by rw [show en - pl = 0 by omega, show cap0 - pl = 0 by omega]
            have hlo2 : Lo wr.drew (.slice none (en - pl) (cap0 - pl)) (((chs.getD j []).drop pl).take (en - pl)) := by
              rw [hv2, hnil]
              exact .inl ⟨rfl, by simp⟩
            have HSI := ksame_ints wr.drew u1 (.slice none (en - pl) (cap0 - pl)) _ hlo1r hlo2 (by rw [hnil]; simp)
            have HGW : Hid (w7.grownBy wr none) := hgw
            have f1 : (pl : Int) ≤ (en : Int) := by omega
            have f2 : (en : Int) ≤ (cap0 : Int) := by omega
            have hjz : (j : Int) < (k : Int) := by omega
            have Q1 : Hid (wr.cell? ⟨lg6, j, none⟩ = some u1) := p1
            have Q2 : Hid (wr.cell? ⟨gT, 2, none⟩ = some (.slice (some ⟨lg0, 0, none⟩) k lcap)) := p2
            have Q3 : Hid (wr.cell? ⟨lg0, j, none⟩ = some (.slice none tot cap0)) := p3'
            clear hu1 hu2 hlo1 hgw hlo1r hlj hnil ht0 hc0 hv2 hlo2 p3
            go_upto_region 29 with fail
            go_region_held (fun w' => w'.cell? ⟨lg6, j, none⟩ = some u1 ∧ w'.cell? ⟨gT, 2, none⟩ = some (.slice (some ⟨lg0, 0, none⟩) k lcap) ∧ w'.cell? ⟨lg0, j, none⟩ = some (.slice none tot cap0)) (go_keep) (first
              | (go_at_call 37; refine HSI.mono ?_; rintro e w8 ⟨rfl, d8, hw8⟩; have HG8 : Hid (wr.grownBy w8 none) := (by show wr.grownBy w8 none; rw [hw8]; exact grown_drewN (grown_drew (grown_refl _ _)) _); have q1 := HG8.out.cell Q1.out (by simp); have q2 := HG8.out.cell Q2.out (by simp); have q3 := HG8.out.cell Q3.out (by simp); clear hw8))
            all_goals
              go_wp2
              go_roundg (gk - 1)
              case measure => omega
              case rel => exact ⟨j + 1, by omega, by go_num, grown_trans HGW.out HG8.out⟩
          · rw [hlj] at hcap2 p3 hc2 hu2
            obtain ⟨ad, had⟩ : ∃ ad : Option Addr, (if cap2 = pl then some (⟨b2, o2, none⟩ : Addr) else some ⟨b2, o2 + pl, none⟩) = ad := ⟨_, rfl⟩
            have hlo2 : Lo wr.drew (.slice ad (en - pl) (cap2 - pl)) (((chs.getD j []).drop pl).take (en - pl)) := by
              have hll : (((chs.getD j []).drop pl).take (en - pl)).length = en - pl := by rw [List.length_take, List.length_drop, hlj]; omega
              by_cases hcp : cap2 = pl
              · rw [if_pos hcp] at had
                rw [← had]
                exact .inr ⟨b2, o2, cap2 - pl, by rw [hll], fun q hq => by rw [hll] at hq; omega⟩
              · rw [if_neg hcp] at had
                rw [← had]
                refine .inr ⟨b2, o2 + pl, cap2 - pl, by rw [hll], fun q hq => ?_⟩
                rw [hll] at hq
                have h1 := (grown_drew hgw).cell (hc2 (pl + q) (by omega)) (by simp)
                rw [Nat.add_assoc, h1]
                congr 2
                simp [List.getD, hq, List.getElem?_drop]
            have HSI := ksame_ints wr.drew u1 (.slice ad (en - pl) (cap2 - pl)) _ hlo1r hlo2 (by rw [List.length_take, List.length_drop, hlj]; omega)
            have HGW : Hid (w7.grownBy wr none) := hgw
            have f1 : (pl : Int) ≤ (en : Int) := by omega
            have f2 : (en : Int) ≤ (cap2 : Int) := by omega
            have hjz : (j : Int) < (k : Int) := by omega
            have Q1 : Hid (wr.cell? ⟨lg6, j, none⟩ = some u1) := p1
            have Q2 : Hid (wr.cell? ⟨gT, 2, none⟩ = some (.slice (some ⟨lg0, 0, none⟩) k lcap)) := p2
            have Q3 : Hid (wr.cell? ⟨lg0, j, none⟩ = some (.slice (some ⟨b2, o2, none⟩) tot cap2)) := p3
            clear hc2 hu1 hu2 hlo1 hgw hlo1r hlo2 hlj
            go_upto_region 29 with fail
            go_region_held (fun w' => w'.cell? ⟨lg6, j, none⟩ = some u1 ∧ w'.cell? ⟨gT, 2, none⟩ = some (.slice (some ⟨lg0, 0, none⟩) k lcap) ∧ w'.cell? ⟨lg0, j, none⟩ = some (.slice (some ⟨b2, o2, none⟩) tot cap2)) (go_keep) (first
              | (go_at_call 37; refine HSI.mono ?_; rintro e w8 ⟨rfl, d8, hw8⟩; have HG8 : Hid (wr.grownBy w8 none) := (by show wr.grownBy w8 none; rw [hw8]; exact grown_drewN (grown_drew (grown_refl _ _)) _); have q1 := HG8.out.cell Q1.out (by simp); have q2 := HG8.out.cell Q2.out (by simp); have q3 := HG8.out.cell Q3.out (by simp); clear hw8))
            all_goals
              go_wp2
              go_roundg (gk - 1)
              case measure => omega
              case rel => exact ⟨j + 1, by omega, by go_num, grown_trans HGW.out HG8.out⟩
        · have tj : decide ((j : Int) < (k : Int)) = false := decide_eq_false (by omega)
          have hje : j = k := by omega
          subst hje
          have HPF : Hid (PcI w3 wr gB gM hd l pv (i + 1) en) := by
            obtain ⟨h1, h2, M9, KB9, h3⟩ := HP6.out
            exact ⟨grown_trans h1 hgw, h2, M9, KB9, h3.kp (Kp.ofNone (S := fun _ => False) hgw) (fun _ _ e => e)⟩
          clear hgw hgq
          go_wp2
          go_roundg (ko - 1)
          case measure => have := HOM.out; omega
          case rel => exact ⟨i + 1, en, by have := HOM.out; omega, by have := HOM.out; omega, rfl, by go_num, HPF.out⟩
    · obtain ⟨hq0, hq1, Mq, KBq, hrq⟩ := hP
      have hpl : place ≤ tot := by rw [← HTOT.out]; exact hq1
      have HS1 := rdr_seek_no wr gB gM hd l pv place (1300 * i) Mq KBq hrq (-1) (by omega)
      have HS2 := rdr_seek_no wr gB gM hd l pv place (1300 * i) Mq KBq hrq ((tot : Int) + 1) (by rw [HTOT.out]; omega)
      have HR1 := rdr_read_no wr gB (-1) (by omega)
      have HT1 := rdr_tell wr gB gM hd l pv place (1300 * i) Mq KBq hrq
      have HGF : Hid (w.grownBy wr none) := grown_trans HGG3.out hq0
      have teq : ((place : Int) == (place : Int)) = true := by simp
      clear hq0 hq1 hrq
      by_cases h1 : i < sn
      · have tg1 : decide ((i : Int) < (sn : Int)) = true := decide_eq_true (by omega)
        have tg2 : decide ((i : Int) < 20) = false := decide_eq_false (by omega)
        have h20 : ¬ i < 20 := fun e => hgo ⟨h1, e⟩
        clear hgo
        go_wp2_with fail
        refine HS1.mono ?_
        rintro e w9 ⟨rfl, rfl⟩
        clear HS1
        go_wp2_with fail
        refine HS2.mono ?_
        rintro e w10 ⟨rfl, rfl⟩
        clear HS2
        go_wp2_with fail
        refine HR1.mono ?_
        rintro e w11 ⟨rfl, rfl⟩
        clear HR1
        go_wp2_with fail
        refine HT1.mono ?_
        rintro e w12 ⟨rfl, rfl⟩
        go_wp2
        exact bodyPost_ret (v := .bool true) (by simp [results, Try.results10, go_sem]) rfl ⟨rfl, HGF.out⟩
      · have tg1 : decide ((i : Int) < (sn : Int)) = false := decide_eq_false (by omega)
        clear hgo
        go_wp2_with fail
        refine HS1.mono ?_
        rintro e w9 ⟨rfl, rfl⟩
        clear HS1
        go_wp2_with fail
        refine HS2.mono ?_
        rintro e w10 ⟨rfl, rfl⟩
        clear HS2
        go_wp2_with fail
        refine HR1.mono ?_
        rintro e w11 ⟨rfl, rfl⟩
        clear HR1
        go_wp2_with fail
        refine HT1.mono ?_
        rintro e w12 ⟨rfl, rfl⟩
        go_wp2
        exact bodyPost_ret (v := .bool true) (by simp [results, Try.results10, go_sem]) rfl ⟨rfl, HGF.out⟩
end Go.Proofs.Ytncmgnmcggkhnaa
