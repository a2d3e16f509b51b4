import Derived.Test.YtncmgnmcggkhnaaGreatGZ26
import Derived.Test.YtncmgnmcggkhnaaGreatGZ29
import Derived.BigQuiet
import Derived.Deep.RegionHeld
import Derived.Test.YtncmgnmcggkhnaaGreatGZ27
import Derived.Test.YtncmgnmcggkhnaaGreatGZ13
import Derived.Test.YtncmgnmcggkhnaaGreatGZ21
import Derived.BigRegion
namespace Go.Proofs.YtncmgnmcggkhnaaGreat
open Go.RowKit

theorem grown_kp {w0 wr w' : World} {S : Nat → Prop} (hg : w0.grownBy wr none) (hk : Kp wr w' S) (hs : ∀ b, S b → w0.heap.size ≤ b) : w0.grownBy w' none :=
  ⟨hk.os.trans hg.os, hk.tape.trans hg.tape, hk.output.trans hg.output, Nat.le_trans hg.size hk.size, fun b hb hn => by rw [hk.block b (Nat.lt_of_lt_of_le hb hg.size) (fun e => by have := hs b e; omega), hg.block b hb hn]⟩

theorem open_of_sound {w w' : World} {s : ByteArray} {e : Ending} {r b : Nat} {chs : List (List Int)} (hA : decode s.data.toList = .sound r b chs) (h : OpenPost w s e w') :
    ∃ gB, e = .returned (.tuple #[.pointer (some ⟨gB, 0, none⟩), .int .i64 0, .int .i64 0]) ∧ w.grownBy w' none ∧ RdrNew w' w.heap.size gB r b chs := by
  obtain ⟨hg, h⟩ := h
  rw [hA] at h
  obtain ⟨gB, h1, h2⟩ := h
  exact ⟨gB, h1, hg, h2⟩

/-- the loop over the steps -/
def PcI (w0 wr : World) (gB gM : Nat) (h : Head) (l : List Fr) (pv : Value) (i place : Nat) : Prop :=
  w0.grownBy wr none ∧ place ≤ h.total ∧ ∃ M KB, Rdr wr gB gM h l pv place (1300 * i) M KB

end Go.Proofs.YtncmgnmcggkhnaaGreat

/-
  Blocks between the first one and the frames, whatever they tell, change nothing.
-/
namespace Go.Proofs.YtncmgnmcggkhnaaGreat
open Go.RowKit

/-- a block: its type, the mark of the last one, its bytes -/
def blkBytes (last k : Nat) (d : List UInt8) : List UInt8 := [UInt8.ofNat (128 * last + k), 0, UInt8.ofNat (d.length / 256), UInt8.ofNat (d.length % 256)] ++ d

theorem byte_split (n : Nat) (h : n < 256) : byteBits (UInt8.ofNat n) = numBits ((n / 128 : Nat) : Int) 1 ++ numBits ((n % 128 : Nat) : Int) 7 := by
  have : ∀ m : Fin 256, byteBits (UInt8.ofNat m.val) = numBits ((m.val / 128 : Nat) : Int) 1 ++ numBits ((m.val % 128 : Nat) : Int) 7 := by decide +kernel
  exact this ⟨n, h⟩

theorem pBlock_bytes (last k : Nat) (d rest : List UInt8) (hl : last ≤ 1) (hk : k < 128) (hd : d.length < 65536) : pBlock (bitsOf (blkBytes last k d ++ rest)) = some ((last, k, d.length), bitsOf (d ++ rest)) := by
  have hb : bitsOf (blkBytes last k d ++ rest) = numBits (last : Int) 1 ++ (numBits (k : Int) 7 ++ ((byteBits 0 ++ (byteBits (UInt8.ofNat (d.length / 256)) ++ byteBits (UInt8.ofNat (d.length % 256)))) ++ bitsOf (d ++ rest))) := by
    unfold blkBytes
    rw [List.append_assoc, bitsOf_append]
    have e : bitsOf [UInt8.ofNat (128 * last + k), 0, UInt8.ofNat (d.length / 256), UInt8.ofNat (d.length % 256)] = byteBits (UInt8.ofNat (128 * last + k)) ++ (byteBits 0 ++ (byteBits (UInt8.ofNat (d.length / 256)) ++ byteBits (UInt8.ofNat (d.length % 256)))) := by
      unfold bitsOf
      simp
    rw [e, byte_split _ (by omega), show (128 * last + k) / 128 = last by omega, show (128 * last + k) % 128 = k by omega]
    simp only [List.append_assoc]
  unfold pBlock
  rw [hb, pNum_bits_nat last 1 _ (by omega)]
  simp only [Option.bind_some]
  rw [pNum_bits_nat k 7 _ (by omega)]
  simp only [Option.bind_some]
  have h24 := pNum_append (byteBits 0 ++ (byteBits (UInt8.ofNat (d.length / 256)) ++ byteBits (UInt8.ofNat (d.length % 256)))) (bitsOf (d ++ rest))
  rw [List.length_append, List.length_append, byteBits_length, byteBits_length, byteBits_length] at h24
  rw [h24]
  simp only [Option.bind_some]
  rw [val_append, val_append, val_byte, val_byte, val_byte, List.length_append, byteBits_length, byteBits_length]
  have e1 : (UInt8.ofNat (d.length / 256)).toNat = d.length / 256 := by rw [UInt8.toNat_ofNat']; omega
  have e2 : (UInt8.ofNat (d.length % 256)).toNat = d.length % 256 := by rw [UInt8.toNat_ofNat']; omega
  rw [e1, e2]
  have e3 : (0 : UInt8).toNat * 2 ^ (8 + 8) + (d.length / 256 * 2 ^ 8 + d.length % 256) = d.length := by
    show 0 * _ + _ = _
    omega
  rw [e3]

/-- other blocks: types and bytes -/
def OthOk (p : Nat × List UInt8) : Prop := 1 ≤ p.1 ∧ p.1 ≤ 126 ∧ p.2.length ≤ 300 ∧ (p.1 = 3 → p.2.length % 18 = 0)

/-- blocks behind the first one: the last of them is marked -/
def othBytes : List (Nat × List UInt8) → Nat × List UInt8 → List UInt8
  | [], z => blkBytes 1 z.1 z.2
  | p :: ps, z => blkBytes 0 p.1 p.2 ++ othBytes ps z

theorem pMore_bytes (z : Nat × List UInt8) (hz : OthOk z) (rest : List UInt8) : ∀ (ps : List (Nat × List UInt8)) (fuel : Nat), (∀ p ∈ ps, OthOk p) → ps.length < fuel → pMore fuel (bitsOf (othBytes ps z ++ rest)) = some ((), bitsOf rest)
  | _, 0, _, h => by omega
  | [], fuel + 1, _, _ => by
    obtain ⟨h1, h2, h3, h4⟩ := hz
    unfold pMore othBytes
    rw [pBlock_bytes 1 z.1 z.2 rest (by omega) (by omega) (by omega)]
    simp only [Option.bind_some]
    have hl : (bitsOf (z.2 ++ rest)).length = 8 * (z.2.length + rest.length) := by rw [bitsOf_length, List.length_append]
    rw [if_neg (by rw [hl]; omega), if_pos trivial, bitsOf_drop, List.drop_left]
  | p :: ps, fuel + 1, hp, hf => by
    obtain ⟨h1, h2, h3, h4⟩ := hp p (by simp)
    have ih := pMore_bytes z hz rest ps fuel (fun q hq => hp q (by simp [hq])) (by simpa using hf)
    unfold pMore othBytes
    rw [List.append_assoc, pBlock_bytes 0 p.1 p.2 _ (by omega) (by omega) (by omega)]
    simp only [Option.bind_some]
    have hl : (bitsOf (p.2 ++ (othBytes ps z ++ rest))).length = 8 * (p.2.length + (othBytes ps z ++ rest).length) := by rw [bitsOf_length, List.length_append]
    rw [if_neg (by rw [hl]; omega), if_neg (by decide), bitsOf_drop, List.drop_left]
    exact ih

/-- the first block's head, no longer the last one -/
def othHead (h : Head) : List UInt8 := [102, 76, 97, 67, 0] ++ (headBytes h).drop 5

theorem info_split (h : Head) : ∃ J, infoBits h = numBits ((1 : Nat) : Int) 1 ++ (numBits ((0 : Nat) : Int) 7 ++ (numBits ((34 : Nat) : Int) 24 ++ J)) := by
  unfold infoBits
  exact ⟨_, rfl⟩

theorem pack_info (h : Head) : bitsOf (pack (infoBits h)) = infoBits h := by
  rw [bitsOf_pack', infoBits_length]
  have : padLen 304 = 0 := rfl
  rw [this]
  simp

theorem pBlocks_oth {h : Head} (hok : headOk h = true) (hc1 : 1 ≤ h.channels) (ps : List (Nat × List UInt8)) (z : Nat × List UInt8) (hp : ∀ p ∈ ps, OthOk p) (hz : OthOk z) (rest : List UInt8) :
    pBlocks (bitsOf (othHead h ++ (othBytes ps z ++ rest))) = some (h, bitsOf rest) := by
  obtain ⟨J, hJ⟩ := info_split h
  have hinfo : ∀ R : List UInt8, pInfo (J ++ bitsOf R) = some (h, bitsOf R) := by
    intro R
    have h1 := pBlocks_head h R hok hc1
    have hbits : bitsOf (headBytes h ++ R) = numBits (102 : Nat) 8 ++ (numBits (76 : Nat) 8 ++ (numBits (97 : Nat) 8 ++ (numBits (67 : Nat) 8 ++ (numBits ((1 : Nat) : Int) 1 ++ (numBits ((0 : Nat) : Int) 7 ++ (numBits ((34 : Nat) : Int) 24 ++ (J ++ bitsOf R))))))) := by
      unfold headBytes
      rw [bitsOf_append, bitsOf_append, pack_info, hJ]
      have e4 : bitsOf [102, 76, 97, 67] = numBits ((102 : Nat) : Int) 8 ++ (numBits ((76 : Nat) : Int) 8 ++ (numBits ((97 : Nat) : Int) 8 ++ numBits ((67 : Nat) : Int) 8)) := by decide
      rw [e4]
      simp [List.append_assoc]
    unfold pBlocks at h1
    rw [hbits, pMust_bits 102 8 _ (by decide)] at h1
    simp only [Option.bind_some] at h1
    rw [pMust_bits 76 8 _ (by decide)] at h1
    simp only [Option.bind_some] at h1
    rw [pMust_bits 97 8 _ (by decide)] at h1
    simp only [Option.bind_some] at h1
    rw [pMust_bits 67 8 _ (by decide)] at h1
    simp only [Option.bind_some] at h1
    unfold pBlock at h1
    rw [pNum_bits_nat 1 1 _ (by decide)] at h1
    simp only [Option.bind_some] at h1
    rw [pNum_bits_nat 0 7 _ (by decide)] at h1
    simp only [Option.bind_some] at h1
    rw [pNum_bits_nat 34 24 _ (by decide)] at h1
    simp only [Option.bind_some] at h1
    rw [if_pos (by simp)] at h1
    cases hi : pInfo (J ++ bitsOf R) with
    | none => rw [hi] at h1; cases h1
    | some x =>
      obtain ⟨h', r'⟩ := x
      rw [hi] at h1
      simp only [Option.bind_some] at h1
      rw [if_pos (by trivial)] at h1
      exact h1
  have hbits : bitsOf (othHead h ++ (othBytes ps z ++ rest)) = numBits (102 : Nat) 8 ++ (numBits (76 : Nat) 8 ++ (numBits (97 : Nat) 8 ++ (numBits (67 : Nat) 8 ++ (numBits ((0 : Nat) : Int) 1 ++ (numBits ((0 : Nat) : Int) 7 ++ (numBits ((34 : Nat) : Int) 24 ++ (J ++ bitsOf (othBytes ps z ++ rest)))))))) := by
    unfold othHead
    have e5 : bitsOf [102, 76, 97, 67, 0] = numBits ((102 : Nat) : Int) 8 ++ (numBits ((76 : Nat) : Int) 8 ++ (numBits ((97 : Nat) : Int) 8 ++ (numBits ((67 : Nat) : Int) 8 ++ (numBits ((0 : Nat) : Int) 1 ++ numBits ((0 : Nat) : Int) 7)))) := by decide
    have e6 : bitsOf ((headBytes h).drop 5) = numBits ((34 : Nat) : Int) 24 ++ J := by
      have : (headBytes h).drop 5 = (pack (infoBits h)).drop 1 := by unfold headBytes; rfl
      rw [this, ← bitsOf_drop, pack_info, hJ]
      rw [show (8 * 1 : Nat) = 8 from rfl, ← List.append_assoc, List.drop_append_of_le_length (by simp [numBits_length]), List.drop_of_length_le (by simp [numBits_length]), List.nil_append]
    rw [bitsOf_append, bitsOf_append, e5, e6]
    simp only [List.append_assoc]
  unfold pBlocks
  rw [hbits, pMust_bits 102 8 _ (by decide)]
  simp only [Option.bind_some]
  rw [pMust_bits 76 8 _ (by decide)]
  simp only [Option.bind_some]
  rw [pMust_bits 97 8 _ (by decide)]
  simp only [Option.bind_some]
  rw [pMust_bits 67 8 _ (by decide)]
  simp only [Option.bind_some]
  unfold pBlock
  rw [pNum_bits_nat 0 1 _ (by decide)]
  simp only [Option.bind_some]
  rw [pNum_bits_nat 0 7 _ (by decide)]
  simp only [Option.bind_some]
  rw [pNum_bits_nat 34 24 _ (by decide)]
  simp only [Option.bind_some]
  rw [if_pos (by simp), hinfo]
  simp only [Option.bind_some]
  rw [if_neg (by decide)]
  have hlen : ps.length < (numBits ((102 : Nat) : Int) 8 ++ (numBits ((76 : Nat) : Int) 8 ++ (numBits ((97 : Nat) : Int) 8 ++ (numBits ((67 : Nat) : Int) 8 ++ (numBits ((0 : Nat) : Int) 1 ++ (numBits ((0 : Nat) : Int) 7 ++ (numBits ((34 : Nat) : Int) 24 ++ (J ++ bitsOf (othBytes ps z ++ rest))))))))).length := by
    rw [← hbits, bitsOf_length]
    have : ∀ qs : List (Nat × List UInt8), qs.length ≤ (othBytes qs z).length := by
      intro qs
      induction qs with
      | nil => simp
      | cons q qs ih =>
        unfold othBytes
        rw [List.length_append, List.length_cons]
        have : 4 ≤ (blkBytes 0 q.1 q.2).length := by unfold blkBytes; simp
        omega
    have := this ps
    rw [List.length_append, List.length_append]
    unfold othHead
    simp
    omega
  rw [pMore_bytes z hz rest ps _ hp hlen]
  rfl

/-- the stream with other blocks has the same sound -/
theorem right_oth {h : Head} {chs : List (List Int)} (hr : RightS h chs) (ps : List (Nat × List UInt8)) (z : Nat × List UInt8) (hp : ∀ p ∈ ps, OthOk p) (hz : OthOk z)
    (hl : (othHead h ++ (othBytes ps z ++ (encode h chs).drop 42)).length ≤ 6000) : decode (othHead h ++ (othBytes ps z ++ (encode h chs).drop 42)) = .sound h.rate h.bits chs := by
  have hF : (encode h chs).drop 42 = (List.range (nFrames h)).flatMap (encFr h chs) := by
    unfold encode
    rw [show (42 : Nat) = (headBytes h).length by rw [headBytes_length], List.drop_left]
  rw [hF] at hl ⊢
  obtain ⟨F, hFF⟩ : ∃ F, (List.range (nFrames h)).flatMap (encFr h chs) = F := ⟨_, rfl⟩
  have hd := fun fuel (hf : F.length < fuel) => hr.decode_frames fuel (by rw [hFF]; exact hf)
  rw [hFF] at hl hd ⊢
  unfold decode
  rw [if_neg (by omega), pBlocks_oth hr.ok hr.ch1 ps z hp hz F]
  simp only
  have e2 : (othHead h ++ (othBytes ps z ++ F)).drop ((othHead h ++ (othBytes ps z ++ F)).length - (bitsOf F).length / 8) = F := by
    rw [bitsOf_length, Nat.mul_div_cancel_left _ (by decide), ← List.append_assoc, List.length_append, Nat.add_sub_cancel, List.drop_left]
  rw [e2, hd _ (by rw [List.length_append, List.length_append]; omega)]
  simp only
  rw [if_pos hr.head_len]
end Go.Proofs.YtncmgnmcggkhnaaGreat

namespace Go.Proofs.YtncmgnmcggkhnaaGreat
open Go.RowKit

/-- how many bytes of the data a block of type `k` takes -/
def blkLen (k n : Nat) : Nat := if k = 3 then min n 300 / 18 * 18 else min n 300

/-- the block that the law makes -/
def blkOf (k : Nat) (data : List UInt8) : List UInt8 := blkBytes 0 k (data.take (blkLen k data.length))

theorem blkLen_le (k n : Nat) : blkLen k n ≤ n ∧ blkLen k n ≤ 300 := by
  unfold blkLen
  split <;> omega

theorem oth_ok (k : Nat) (data : List UInt8) (h1 : 1 ≤ k) (h2 : k ≤ 126) : OthOk (k, data.take (blkLen k data.length)) := by
  have h3 := blkLen_le k data.length
  have hl : (data.take (blkLen k data.length)).length = blkLen k data.length := by rw [List.length_take]; omega
  refine ⟨h1, h2, by show (data.take (blkLen k data.length)).length ≤ 300; omega, fun e => ?_⟩
  have e' : k = 3 := e
  show (data.take (blkLen k data.length)).length % 18 = 0
  rw [hl, e']
  unfold blkLen
  rw [if_pos rfl]
  omega

theorem cv4 (w : World) (a b c d : Int) : (convert 30 9 (.slice (some ⟨w.heap.size, 0, none⟩) 4 4)).run Tryz.prog (w.alloc (.cells #[.int .u8 a, .int .u8 b, .int .u8 c, .int .u8 d] 5)).drew = .ok (.string (strOfNums [a, b, c, d])) (w.alloc (.cells #[.int .u8 a, .int .u8 b, .int .u8 c, .int .u8 d] 5)).drew :=
  run_convert_bytes_arg _ 30 5 Tryz.underlying30 Tryz.underlying5 w.heap.size 0 4 4 [a, b, c, d] rfl (fun i hi => by
    have hb : Box (w.alloc (.cells #[.int .u8 a, .int .u8 b, .int .u8 c, .int .u8 d] 5)).drew w.heap.size #[.int .u8 a, .int .u8 b, .int .u8 c, .int .u8 d] 5 := Box.new w _ _
    rw [Nat.zero_add, hb.cell i]
    match i, hi with
    | 0, _ => rfl
    | 1, _ => rfl
    | 2, _ => rfl
    | 3, _ => rfl) 9 Tryz.underlying9

theorem blk_string (k n : Nat) (data : ByteArray) (hn : n ≤ data.size) (he : blkLen k data.size = n) : strOfNums [(k : Int), 0, (n : Int) / 256, (n : Int) % 256] ++ data.extract 0 n = ⟨(blkOf k data.data.toList).toArray⟩ := by
  apply ByteArray.ext
  apply Array.ext'
  show (strOfNums [(k : Int), 0, (n : Int) / 256, (n : Int) % 256] ++ data.extract 0 n).data.toList = blkOf k data.data.toList
  have hl : data.data.toList.length = data.size := dlen data
  have ht : (data.data.toList.take n).length = n := by rw [List.length_take]; omega
  rw [ByteArray.data_append, Array.toList_append, strOfNums_data, extract_list, List.drop_zero, Nat.sub_zero]
  unfold blkOf blkBytes
  rw [hl, he, ht]
  have e1 : ((n : Int) / 256).toNat = n / 256 := by omega
  have e2 : ((n : Int) % 256).toNat = n % 256 := by omega
  simp only [List.map_cons, List.map_nil, e1, e2, Int.toNat_natCast, Nat.mul_zero, Nat.zero_add]
  rfl

/-- a block of the law's, its type as `Q` has it -/
def BlkAny (w : World) (Q : Nat → Prop) (data : List UInt8) (e : Ending) (w' : World) : Prop := ∃ p : Nat, p < 126 ∧ Q p ∧ e = .returned (.string ⟨(blkOf (1 + p) data).toArray⟩) ∧ w.grownBy w' none

def BlkPost (w : World) (k : Nat) (data : List UInt8) (e : Ending) (w' : World) : Prop := e = .returned (.string ⟨(blkOf k data).toArray⟩) ∧ w.grownBy w' none

set_option maxHeartbeats 2000000 in
set_option maxRecDepth 20000 in
theorem kblock_of (w : World) (kind : Int) (Q : Nat → Prop) (data : ByteArray) (hd : data.size ≤ 140737488351232) (HPK : Calls Tryz.prog 9 #[.int .i64 kind, .int .i64 126] w fun e w' => ∃ p : Nat, p < 126 ∧ Q p ∧ e = .returned (.int .i64 p) ∧ w' = w) :
    Calls Tryz.prog 6 #[.int .i64 kind, .string data] w (BlkAny w Q data.data.toList) := by
  go_enter Tryz.func6, Tryz.ntmps6
  go_wp2_with fail
  refine HPK.mono ?_
  rintro e w9 ⟨p, hp, hQ, rfl, rfl⟩
  obtain ⟨k, hk⟩ : ∃ k, 1 + p = k := ⟨_, rfl⟩
  have hkz : 1 + (p : Int) = (k : Int) := by omega
  have hkb : 1 ≤ k ∧ k ≤ 126 := by omega
  have HK : Hid (1 + p = k) := hk
  have HQ0 : Hid (Q p) := hQ
  obtain ⟨n, hn⟩ : ∃ n, blkLen k data.size = n := ⟨_, rfl⟩
  have hnl := blkLen_le k data.size
  rw [hn] at hnl
  have HN : Hid (blkLen k data.size = n) := hn
  obtain ⟨mn, hmn⟩ : ∃ mn, min data.size 300 = mn := ⟨_, rfl⟩
  have HMN : Hid (min data.size 300 = mn) := hmn
  have hmnb : mn ≤ 300 := by omega
  clear HPK hk hn hmn hQ
  go_upto_region 2 with fail
  go_cut [6] (fun s6 wx => s6 = .int .i64 mn ∧ wx = w9)
  case first =>
    go_wp2
    all_goals
      go_meet
      case rel => exact ⟨by have := HMN.out; congr 1; omega, rfl⟩
  case rest =>
  obtain ⟨rfl, rfl⟩ := hcut
  go_upto_if 14 with fail
  go_cut [6] (fun s6 wx => s6 = .int .i64 n ∧ wx = wc)
  case first =>
    by_cases h3 : k = 3
    · have t3 : ((k : Int) == 3) = true := by rw [h3]; rfl
      have hq : (mn : Int) / 18 * 18 = (n : Int) := by
        have h1 := HN.out
        have h2 := HMN.out
        unfold blkLen at h1
        rw [if_pos h3] at h1
        omega
      clear h3
      go_wp2
      go_meet
      case rel => exact ⟨by first | rfl | rw [hq], rfl⟩
    · have t3 : ((k : Int) == 3) = false := by simp; omega
      have hq : mn = n := by
        have h1 := HN.out
        have h2 := HMN.out
        unfold blkLen at h1
        rw [if_neg h3] at h1
        omega
      have HQ : Hid (mn = n) := hq
      clear h3 hq
      go_wp2
      go_meet
      case rel => exact ⟨by rw [HQ.out], rfl⟩
  case rest =>
  obtain ⟨rfl, hwc2⟩ := hcut
  rename_i w2
  have hwc2 := hwc2.symm
  subst hwc2
  have hnz : (n : Int) ≤ (data.size : Int) := by omega
  go_upto_region 5 with fail
  have hcv := cv4 wc
  have hs4 : ∀ a b c d : Int, (strOfNums [a, b, c, d]).size = 4 := fun _ _ _ _ => rfl
  have HPO : Hid (∀ wx, wc.grownBy wx none → BlkAny wc Q data.data.toList (.returned (.string (strOfNums [(k : Int), 0, (n : Int) / 256, (n : Int) % 256] ++ data.extract 0 n))) wx) := by
    intro wx hg
    refine ⟨p, hp, HQ0.out, ?_, hg⟩
    rw [HK.out, blk_string k n data hnl.1 HN.out]
  go_region
  all_goals
    go_wp2
    exact bodyPost_ret (v := .string (strOfNums [(k : Int), 0, (n : Int) / 256, (n : Int) % 256] ++ data.extract 0 n)) (by simp [results, Tryz.results6, go_sem]) rfl (HPO.out _ (grown_drew (grown_alloc (grown_refl _ _) _)))

theorem pick_two (w : World) : Calls Tryz.prog 9 #[.int .i64 2, .int .i64 126] w fun e w' => ∃ p : Nat, p < 126 ∧ p = 2 ∧ e = .returned (.int .i64 p) ∧ w' = w := by
  go_enter Tryz.func9, Tryz.ntmps9
  go_wp2
  go_ret
  exact ⟨2, by omega, rfl, rfl, rfl⟩

theorem kblock_two (w : World) (data : ByteArray) (hd : data.size ≤ 140737488351232) :
    Calls Tryz.prog 6 #[.int .i64 2, .string data] w (BlkPost w 3 data.data.toList) := by
  refine (kblock_of w 2 (fun p => p = 2) data hd (pick_two w)).mono ?_
  rintro e w' ⟨p, _, rfl, h1, h2⟩
  exact ⟨h1, h2⟩

theorem kblock_any (w : World) (kind : Int) (data : ByteArray) (hd : data.size ≤ 140737488351232) (hk : -9223372036854775808 ≤ kind ∧ kind ≤ 9223372036854775807) :
    Calls Tryz.prog 6 #[.int .i64 kind, .string data] w (BlkAny w (fun _ => True) data.data.toList) := by
  refine kblock_of w kind (fun _ => True) data hd ((pick_any kind 126 w hk.1 hk.2 (by omega) (by omega)).mono ?_)
  rintro e w' ⟨p, h1, h2, h3⟩
  exact ⟨p, h1, trivial, h2, h3⟩
end Go.Proofs.YtncmgnmcggkhnaaGreat

namespace Go.Proofs.YtncmgnmcggkhnaaGreat
open Go.RowKit

/-- blocks that are not the last one -/
def midBytes (ps : List (Nat × List UInt8)) : List UInt8 := ps.flatMap (fun p => blkBytes 0 p.1 p.2)

theorem mid_oth (z : Nat × List UInt8) : ∀ ps : List (Nat × List UInt8), othBytes ps z = midBytes ps ++ blkBytes 1 z.1 z.2
  | [] => rfl
  | p :: ps => by
    unfold othBytes
    rw [mid_oth z ps]
    unfold midBytes
    rw [List.flatMap_cons, List.append_assoc]

theorem app_list (a b : ByteArray) : (a ++ b).data.toList = a.data.toList ++ b.data.toList := by rw [ByteArray.data_append, Array.toList_append]

/-- the first byte of the last block -/
theorem idx_three (ms zs : ByteArray) (L : List UInt8) (hz : zs.data.toList = blkOf 3 L) (W : World) : (Instr.index 9 (.string (ms ++ zs)) (.int .i64 (ms.size : Int))).run Tryz.prog W = .ok (.int .u8 3) W := by
  have hl : (ms ++ zs).data.toList.length = (ms ++ zs).size := dlen _
  have hz4 : 4 ≤ zs.data.toList.length := by rw [hz]; unfold blkOf blkBytes; simp
  have hsz : ms.size < (ms ++ zs).size := by
    rw [← hl, app_list, List.length_append, dlen]
    omega
  rw [run_index_string W 9 (ms ++ zs) .i64 (ms.size : Int) Tryz.underlying9, dif_pos ⟨by omega, by omega⟩]
  have e : (ms ++ zs).data.toList[ms.size]? = some 3 := by
    rw [app_list, List.getElem?_append_right (by rw [dlen]; exact Nat.le_refl _), dlen, Nat.sub_self, hz]
    rfl
  have e2 : (ms ++ zs)[(ms.size : Int).toNat]'(by omega) = 3 := by
    have h1 : (ms ++ zs).data.toList[ms.size]? = some ((ms ++ zs)[(ms.size : Int).toNat]'(by omega)) := by
      rw [Array.getElem?_toList]
      have h2 : ms.size < (ms ++ zs).data.size := hsz
      rw [Array.getElem?_eq_getElem h2]
      rfl
    rw [e] at h1
    injection h1 with h1
    exact h1.symm
  rw [e2]
  rfl

theorem oth_string (st ms zs : ByteArray) (hh : Head) (chs : List (List Int)) (ps : List (Nat × List UInt8)) (L : List UInt8) (h1 : st.data.toList = encode hh chs) (h2 : ms.data.toList = midBytes ps) (h3 : zs.data.toList = blkOf 3 L) :
    ((⟨#[102, 76, 97, 67, 0]⟩ : ByteArray) ++ st.extract 5 42 ++ (ms ++ zs).extract 0 ms.size ++ strOfNums [Go.bits BinOp.xor IntKind.u8 3 128] ++ (ms ++ zs).extract (ms.size + 1) (ms.size + zs.size) ++ st.extract 42 st.size).data.toList = othHead hh ++ (othBytes ps (3, L.take (blkLen 3 L.length)) ++ (encode hh chs).drop 42) := by
  have e1 : (st.extract 5 42).data.toList = (headBytes hh).drop 5 := by
    rw [extract_list, h1]
    unfold encode
    rw [List.drop_append_of_le_length (by rw [headBytes_length]; omega), List.take_append_of_le_length (by rw [List.length_drop, headBytes_length]; exact Nat.le_refl _), List.take_of_length_le (by rw [List.length_drop, headBytes_length]; exact Nat.le_refl _)]
  have e2 : ((ms ++ zs).extract 0 ms.size).data.toList = midBytes ps := by
    rw [extract_list, app_list, List.drop_zero, Nat.sub_zero, ← dlen ms, List.take_left, h2]
  have e3 : ((ms ++ zs).extract (ms.size + 1) (ms.size + zs.size)).data.toList = (blkOf 3 L).drop 1 := by
    rw [extract_list, app_list, ← dlen ms, ← List.drop_drop, List.drop_left, h3, List.take_of_length_le]
    rw [List.length_drop, ← dlen zs, h3]
    omega
  have e4 : (st.extract 42 st.size).data.toList = (encode hh chs).drop 42 := by
    rw [extract_list, h1, List.take_of_length_le]
    rw [List.length_drop, ← h1, dlen]
    omega
  rw [app_list, app_list, app_list, app_list, app_list, e1, e2, e3, e4, strOfNums_data, mid_oth]
  unfold othHead blkOf
  have e5 : [Go.bits BinOp.xor IntKind.u8 3 128].map (fun n => UInt8.ofNat n.toNat) ++ (blkBytes 0 3 (L.take (blkLen 3 L.length))).drop 1 = blkBytes 1 3 (L.take (blkLen 3 L.length)) := by
    have : [Go.bits BinOp.xor IntKind.u8 3 128].map (fun n => UInt8.ofNat n.toNat) = [131] := by decide +kernel
    rw [this]
    rfl
  rw [← e5]
  simp only [List.append_assoc]
end Go.Proofs.YtncmgnmcggkhnaaGreat

namespace Go.Proofs.YtncmgnmcggkhnaaGreat
open Go.RowKit

theorem mid_snoc (ps : List (Nat × List UInt8)) (p : Nat × List UInt8) : midBytes (ps ++ [p]) = midBytes ps ++ blkBytes 0 p.1 p.2 := by
  unfold midBytes
  simp

theorem mid_len (ps : List (Nat × List UInt8)) (h : ∀ p ∈ ps, OthOk p) : (midBytes ps).length ≤ 304 * ps.length := by
  induction ps with
  | nil => simp [midBytes]
  | cons p ps ih =>
    have h1 := ih (fun q hq => h q (by simp [hq]))
    obtain ⟨_, _, h2, _⟩ := h p (by simp)
    unfold midBytes at *
    rw [List.flatMap_cons, List.length_append, List.length_cons]
    have h3 : (blkBytes 0 p.1 p.2).length = 4 + p.2.length := by unfold blkBytes; simp; omega
    omega

set_option maxHeartbeats 4000000 in
set_option maxRecDepth 20000 in
theorem others_walk (w : World) (vr vt : Value) (raw kinds : List Int) (wide channels size : Int) (data : ByteArray) (hd : data.size ≤ 140737488351232) (h : Rin w vr raw) (hrl : raw.length ≤ 9223372036854775807) (hr64 : ∀ x ∈ raw, -9223372036854775808 ≤ x ∧ x ≤ 9223372036854775807) (hst : Rin w vt kinds) (hs64 : ∀ x ∈ kinds, -9223372036854775808 ≤ x ∧ x ≤ 9223372036854775807)
    (hw64 : -9223372036854775808 ≤ wide ∧ wide ≤ 9223372036854775807) (hc64 : -9223372036854775808 ≤ channels ∧ channels ≤ 9223372036854775807) (hb64 : -9223372036854775808 ≤ size ∧ size ≤ 9223372036854775807) :
    Calls Tryz.prog 3 #[vr, .int .i64 wide, .int .i64 channels, .int .i64 size, vt, .string data] w fun e w' => e = .returned (.bool true) ∧ w.grownBy w' none := by
  have HSO := ksound w vr raw wide channels 7 h hrl hr64 hw64 hc64 (by omega)
  obtain ⟨a, c, rfl, _⟩ := h
  obtain ⟨n, hn⟩ : ∃ n, raw.length = n := ⟨_, rfl⟩
  obtain ⟨sa, sc, rfl, hsat⟩ := hst
  obtain ⟨sn, hsn⟩ : ∃ sn, kinds.length = sn := ⟨_, rfl⟩
  have HSN : Hid (kinds.length = sn) := hsn
  have HSAT : Hid (∀ k, k < kinds.length → ∃ b off, sa = some ⟨b, off, none⟩ ∧ w.cell? ⟨b, off + k, none⟩ = some (.int .i64 (kinds.getD k 0))) := hsat
  have HS64 : Hid (∀ x ∈ kinds, -9223372036854775808 ≤ x ∧ x ≤ 9223372036854775807) := hs64
  rw [hsn]
  rw [hn] at HSO ⊢
  clear hn hr64 hw64 hc64 hrl hsn hsat hs64
  go_enter Tryz.func3, Tryz.ntmps3
  go_wp2_with fail
  refine HSO.mono ?_
  rintro e w1 ⟨rt, bits, lv, vs, chs, rfl, hg1, hsubs, hM⟩
  clear HSO
  have hch1 : 1 ≤ chs.length ∧ chs.length ≤ 2 := by obtain ⟨_, _, _, _, h5, _⟩ := hM; omega
  have hvl := hsubs.len
  obtain ⟨lg, lcap, hlv, _, _, hcells⟩ := hsubs.cell (by omega)
  subst hlv
  obtain ⟨k, hk⟩ : ∃ k, vs.length = k := ⟨_, rfl⟩
  rw [hk] at hsubs ⊢
  have hkc : chs.length = k := by omega
  have hins := hsubs.ins
  clear hk hcells hvl
  obtain ⟨w2, hw2⟩ : ∃ w2, w1.alloc (.cells #[.int .i64 rt, .int .i64 bits, .slice (some ⟨lg, 0, none⟩) k lcap] 25) = w2 := ⟨_, rfl⟩
  have hg2 : w1.grownBy w2 none := by rw [← hw2]; exact grown_alloc (grown_refl _ _) _
  obtain ⟨gT, hgT⟩ : ∃ gT, w1.heap.size = gT := ⟨_, rfl⟩
  have hbT : Box w2 gT #[.int .i64 rt, .int .i64 bits, .slice (some ⟨lg, 0, none⟩) k lcap] 25 := by rw [← hgT, ← hw2]; exact Box.new _ _ _
  have hins2 := (hins.kept hg2).mono (D' := fun q => q < w2.heap.size) (fun b _ hb => hb)
  have HEN := kencoded w2 _ rt bits (min n 600) size chs hins2 hM (by omega) hb64
  have HW2 : Hid (w1.alloc (.cells #[.int .i64 rt, .int .i64 bits, .slice (some ⟨lg, 0, none⟩) k lcap] 25) = w2) := hw2
  have HGT : Hid (w1.heap.size = gT) := hgT
  have y0 : w2.cell? ⟨gT, 0, none⟩ = some (.int .i64 rt) := hbT.cell 0
  have y1 : w2.cell? ⟨gT, 1, none⟩ = some (.int .i64 bits) := hbT.cell 1
  have y2 : w2.cell? ⟨gT, 2, none⟩ = some (.slice (some ⟨lg, 0, none⟩) k lcap) := hbT.cell 2
  have HM : Hid (Made rt bits (min n 600) chs) := hM
  clear hw2 hgT hM hsubs hins
  go_upto_region 2 with fail
  rw [HW2.out, HGT.out]
  clear HW2 HGT
  go_wp2_with fail
  refine HEN.mono ?_
  rintro e w3 ⟨hg3, hh, hRS, hhr, hhb, rfl⟩
  have hgg3 := grown_trans hg1 (grown_trans hg2 hg3)
  have hel := hRS.encode_len
  have hsz := size_of (encode hh chs)
  have hdt := data_of (encode hh chs)
  have hins3 := hins2.kept hg3
  have hbT3 := hbT.kept hg3 (by simp)
  obtain ⟨st, hst⟩ : ∃ st, (⟨(encode hh chs).toArray⟩ : ByteArray) = st := ⟨_, rfl⟩
  rw [hst] at hsz hdt ⊢
  have hst60 : 42 ≤ st.size ∧ st.size ≤ 6000 := by omega
  have HDT : Hid (st.data.toList = encode hh chs) := hdt
  have HRS : Hid (RightS hh chs) := hRS
  have HHR : Hid (hh.rate = rt ∧ hh.bits = bits) := ⟨hhr, hhb⟩
  have HINS : Hid (Ins w3 (fun q => q < w2.heap.size) (.slice (some ⟨lg, 0, none⟩) k lcap) chs) := hins3
  have HBT : Hid (Box w3 gT #[.int .i64 rt, .int .i64 bits, .slice (some ⟨lg, 0, none⟩) k lcap] 25) := hbT3
  have HGG3 : Hid (w.grownBy w3 none) := hgg3
  have HKC : Hid (chs.length = k) := hkc
  clear HEN hst hsz hdt hel hRS hhr hhb hins2 hg3 hg2 hg1 y0 y1 y2 hbT hins3 hbT3 hgg3 hkc
  go_upto_block 0 with fail
  go_cut [16, 17] (fun s16 s17 wx => ∃ (ps : List (Nat × List UInt8)) (ms : ByteArray), s16 = .string ms ∧ ps.length ≤ 3 ∧ ms.data.toList = midBytes ps ∧ (∀ p ∈ ps, OthOk p) ∧ w3.grownBy wx none)
  case first =>
   go_wp2_with fail
   go_loopg [16, 17] 4 (fun gk t16 t17 wr => ∃ (ps : List (Nat × List UInt8)) (ms : ByteArray), gk + ps.length = 4 ∧ ps.length ≤ 3 ∧ t17 = .int .i64 ps.length ∧ t16 = .string ms ∧ ms.data.toList = midBytes ps ∧ (∀ p ∈ ps, OthOk p) ∧ w3.grownBy wr none)
   case atStart => exact ⟨[], ⟨#[]⟩, rfl, by simp, rfl, rfl, rfl, (fun p hp => by cases hp), grown_refl _ _⟩
   case round =>
     obtain ⟨ps, ms, hgk, hps3, rfl, rfl, hms, hok, hgw⟩ := hrel
     obtain ⟨i, hi⟩ : ∃ i, ps.length = i := ⟨_, rfl⟩
     have HI : Hid (ps.length = i) := hi
     rw [hi] at hgk hps3 ⊢
     have hml := mid_len ps hok
     rw [hi] at hml
     have hmsz : ms.size = (midBytes ps).length := by rw [← dlen, hms]
     have hmb : ms.size ≤ 912 := by omega
     have HMS : Hid (ms.data.toList = midBytes ps) := hms
     have HOK : Hid (∀ p ∈ ps, OthOk p) := hok
     have HGW : Hid (w3.grownBy wr none) := hgw
     clear hi hms hok hml hmsz
     by_cases hgo : i < sn ∧ i < 3
     · have tg1 : decide ((i : Int) < (sn : Int)) = true := decide_eq_true (by omega)
       have tg2 : decide ((i : Int) < 3) = true := decide_eq_true (by omega)
       obtain ⟨sb, so, es, hsc⟩ := HSAT.out i (by rw [HSN.out]; exact hgo.1)
       subst es
       have hx64 := HS64.out (kinds.getD i 0) (by have := HSN.out; simp [List.getD, show i < kinds.length by omega])
       obtain ⟨x, hx⟩ : ∃ x, kinds.getD i 0 = x := ⟨_, rfl⟩
       rw [hx] at hsc hx64
       have hscr : wr.cell? ⟨sb, so + i, none⟩ = some (.int .i64 x) := (grown_trans HGG3.out hgw).cell hsc (by simp)
       have HBL := kblock_any wr x data hd hx64
       have hin1 := hgo.1
       have hin2 := hgo.2
       clear hx hsc hgw
       go_wp2_with fail
       refine HBL.mono ?_
       rintro e w4 ⟨p, hp, _, rfl, hg4⟩
       obtain ⟨bs, hbs⟩ : ∃ bs, (⟨(blkOf (1 + p) data.data.toList).toArray⟩ : ByteArray) = bs := ⟨_, rfl⟩
       have hbd : bs.data.toList = blkOf (1 + p) data.data.toList := by rw [← hbs]
       have hok1 := oth_ok (1 + p) data.data.toList (by omega) (by omega)
       have hbz : bs.size ≤ 304 := by
         rw [← dlen, hbd]
         unfold blkOf
         obtain ⟨_, _, h3, _⟩ := hok1
         have h4 : (blkBytes 0 (1 + p) (data.data.toList.take (blkLen (1 + p) data.data.toList.length))).length = 4 + (data.data.toList.take (blkLen (1 + p) data.data.toList.length)).length := by unfold blkBytes; simp; omega
         have h5 : (data.data.toList.take (blkLen (1 + p) data.data.toList.length)).length ≤ 300 := h3
         omega
       rw [hbs]
       have HNX : Hid ((ms ++ bs).data.toList = midBytes (ps ++ [(1 + p, data.data.toList.take (blkLen (1 + p) data.data.toList.length))]) ∧ ∀ q ∈ ps ++ [(1 + p, data.data.toList.take (blkLen (1 + p) data.data.toList.length))], OthOk q) := by
         refine ⟨?_, fun q hq => ?_⟩
         · rw [ByteArray.data_append, Array.toList_append, HMS.out, hbd, mid_snoc]
           rfl
         · rcases List.mem_append.1 hq with hq | hq
           · exact HOK.out q hq
           · rw [List.mem_singleton.1 hq]; exact hok1
       have HG4 : Hid (w3.grownBy w4 none) := grown_trans HGW.out hg4
       clear HBL hbs hbd hok1 hg4 hscr
       go_wp2
       go_roundg (gk - 1)
       case measure => omega
       case rel => exact ⟨_, ms ++ bs, by rw [List.length_append, HI.out]; simp; omega, by rw [List.length_append, HI.out]; simp; omega, by rw [List.length_append, HI.out]; go_num, rfl, HNX.out.1, HNX.out.2, HG4.out⟩
     · by_cases h1 : i < sn
       · have tg1 : decide ((i : Int) < (sn : Int)) = true := decide_eq_true (by omega)
         have tg2 : decide ((i : Int) < 3) = false := decide_eq_false (fun e => hgo ⟨h1, by omega⟩)
         have h20 : ¬ i < 3 := fun e => hgo ⟨h1, e⟩
         clear hgo
         go_wp2
         go_meet
         case rel => exact ⟨ps, ms, rfl, by rw [HI.out]; exact hps3, HMS.out, HOK.out, HGW.out⟩
       · have tg1 : decide ((i : Int) < (sn : Int)) = false := decide_eq_false (by omega)
         clear hgo
         go_wp2
         go_meet
         case rel => exact ⟨ps, ms, rfl, by rw [HI.out]; exact hps3, HMS.out, HOK.out, HGW.out⟩
  case rest =>
  obtain ⟨ps, ms, rfl, hps, hms, hok, hgw⟩ := hcut
  have hml := mid_len ps hok
  have hmsz : ms.size = (midBytes ps).length := by rw [← dlen, hms]
  have hmb : ms.size ≤ 912 := by omega
  have HMS : Hid (ms.data.toList = midBytes ps) := hms
  have HOK : Hid (∀ p ∈ ps, OthOk p) := hok
  have HGW : Hid (w3.grownBy wc none) := hgw
  have HB1 := kblock_two wc data hd
  clear hps hms hok hml hmsz hgw
  go_wp2_with fail
  refine HB1.mono ?_
  rintro e w5 ⟨rfl, hg5⟩
  have HB2 := kblock_two w5 data hd
  obtain ⟨zs, hzs⟩ : ∃ zs, (⟨(blkOf 3 data.data.toList).toArray⟩ : ByteArray) = zs := ⟨_, rfl⟩
  have hzd : zs.data.toList = blkOf 3 data.data.toList := by rw [← hzs]
  have hzok := oth_ok 3 data.data.toList (by omega) (by omega)
  have hzb : 4 ≤ zs.size ∧ zs.size ≤ 304 := by
    rw [← dlen, hzd]
    unfold blkOf
    obtain ⟨_, _, h3, _⟩ := hzok
    have h4 : (blkBytes 0 3 (data.data.toList.take (blkLen 3 data.data.toList.length))).length = 4 + (data.data.toList.take (blkLen 3 data.data.toList.length)).length := by unfold blkBytes; simp; omega
    have h5 : (data.data.toList.take (blkLen 3 data.data.toList.length)).length ≤ 300 := h3
    omega
  unfold BlkPost at HB2
  rw [hzs] at HB2 ⊢
  have HZD : Hid (zs.data.toList = blkOf 3 data.data.toList) := hzd
  have HZOK : Hid (OthOk (3, data.data.toList.take (blkLen 3 data.data.toList.length))) := hzok
  clear HB1 hzs hzd hzok
  go_wp2_with fail
  refine HB2.mono ?_
  rintro e w6 ⟨rfl, hg6⟩
  have HG6 : Hid (w3.grownBy w6 none) := grown_trans HGW.out (grown_trans hg5 hg6)
  clear HB2 hg5 hg6 HGW
  have hcv1 : ∀ x : Int, (convert 30 9 (.slice (some ⟨w6.heap.size, 0, none⟩) 1 1)).run Tryz.prog (w6.alloc (.cells #[.int .u8 x] 5)).drew = .ok (.string (strOfNums [x])) (w6.alloc (.cells #[.int .u8 x] 5)).drew := fun x =>
    run_convert_bytes_arg _ 30 5 Tryz.underlying30 Tryz.underlying5 w6.heap.size 0 1 1 [x] rfl (fun i hi => by
      obtain rfl : i = 0 := by omega
      have hb : Box (w6.alloc (.cells #[.int .u8 x] 5)).drew w6.heap.size #[.int .u8 x] 5 := Box.new w6 _ _
      exact hb.cell 0) 9 Tryz.underlying9
  have hs1 : ∀ x : Int, (strOfNums [x]).size = 1 := fun _ => rfl
  have v1 : 42 ≤ st.size := hst60.1
  have v2 : st.size ≤ 6000 := hst60.2
  have v3 : 4 ≤ zs.size := hzb.1
  have v4 : zs.size ≤ 304 := hzb.2
  have hix := idx_three ms zs _ HZD.out
  have hud := oth_string st ms zs hh chs ps _ HDT.out HMS.out HZD.out
  obtain ⟨us, hus⟩ : ∃ us, ((⟨#[102, 76, 97, 67, 0]⟩ : ByteArray) ++ st.extract 5 42 ++ (ms ++ zs).extract 0 ms.size ++ strOfNums [Go.bits BinOp.xor IntKind.u8 3 128] ++ (ms ++ zs).extract (ms.size + 1) (ms.size + zs.size) ++ st.extract 42 st.size) = us := ⟨_, rfl⟩
  rw [hus] at hud
  have HUD : Hid (us.data.toList = othHead hh ++ (othBytes ps (3, data.data.toList.take (blkLen 3 data.data.toList.length)) ++ (encode hh chs).drop 42)) := hud
  have HUS : Hid (((⟨#[102, 76, 97, 67, 0]⟩ : ByteArray) ++ st.extract 5 42 ++ (ms ++ zs).extract 0 ms.size ++ strOfNums [Go.bits BinOp.xor IntKind.u8 3 128] ++ (ms ++ zs).extract (ms.size + 1) (ms.size + zs.size) ++ st.extract 42 st.size) = us) := hus
  clear hud hus
  go_upto_region 12 with fail
  go_region
  rw [HUS.out]
  obtain ⟨w7, hw7⟩ : ∃ w7, (w6.alloc (.cells #[.int .u8 (Go.bits BinOp.xor IntKind.u8 3 128)] 5)).drew = w7 := ⟨_, rfl⟩
  have hg7 : w6.grownBy w7 none := by rw [← hw7]; exact grown_drew (grown_alloc (grown_refl _ _) _)
  rw [hw7]
  have HG7 : Hid (w3.grownBy w7 none) := grown_trans HG6.out hg7
  clear hw7 hg7 hcv1 hs1 hix v1 v2 v3 v4
  by_cases hlong : 6000 < us.size
  · have tl : decide ((6000 : Int) < (us.size : Int)) = true := decide_eq_true (by omega)
    have HGF : Hid (w.grownBy w7 none) := grown_trans HGG3.out HG7.out
    go_wp2
    exact bodyPost_ret (v := .bool true) (by simp [results, Tryz.results3, go_sem]) rfl ⟨rfl, HGF.out⟩
  · have tl : decide ((6000 : Int) < (us.size : Int)) = false := decide_eq_false (by omega)
    have hul : us.size ≤ 6000 := by omega
    have hdu : decode us.data.toList = .sound rt bits chs := by
      have h1 := right_oth HRS.out ps (3, data.data.toList.take (blkLen 3 data.data.toList.length)) HOK.out HZOK.out (by rw [← HUD.out, dlen]; exact hul)
      rw [HUD.out, h1, HHR.out.1, HHR.out.2]
    have hins7 := HINS.out.kept HG7.out
    have hsnd7 := hins7.snd
    have hbT7 := HBT.out.kept HG7.out (by simp)
    obtain ⟨u0, hu0, hlo0⟩ : ∃ u, w7.cell? ⟨lg, 0, none⟩ = some u ∧ LoC w7 (fun q => q < w2.heap.size) u (chs.getD 0 []) := by
      rcases hins7 with ⟨e, _⟩ | ⟨lg', lcap', e, _, _, hc⟩
      · cases e
      · have e1 : lg = lg' := by injection e with e; injection e with e; injection e
        subst e1
        exact hc 0 (by omega)
    obtain ⟨n0, hn0⟩ : ∃ n0, (chs.getD 0 []).length = n0 := ⟨_, rfl⟩
    obtain ⟨a0, c0, hu0e, hlo0e⟩ : ∃ a0 c0, u0 = .slice a0 n0 c0 ∧ n0 ≤ c0 := by
      rcases hlo0 with ⟨h1, h2⟩ | ⟨b, off, cap, h1, h2, _⟩
      · have e0 : n0 = 0 := by rw [← hn0, h2]; rfl
        exact ⟨none, 0, by rw [h1, e0], by omega⟩
      · rw [hn0] at h1 h2
        exact ⟨_, cap, h1, h2⟩
    subst hu0e
    have HOP := qopen w7 us (by unfold maxLen; omega)
    have HDU : Hid (decode us.data.toList = .sound rt bits chs) := hdu
    have HLO0 : Hid (LoC w7 (fun q => q < w2.heap.size) (.slice a0 n0 c0) (chs.getD 0 [])) := hlo0
    have HN0 : Hid ((chs.getD 0 []).length = n0) := hn0
    have hkz : (0 : Int) < (k : Int) := by have := HKC.out; omega
    have t7 : w7.cell? ⟨gT, 2, none⟩ = some (.slice (some ⟨lg, 0, none⟩) k lcap) := hbT7.cell 2
    have HU0 : Hid (w7.cell? ⟨lg, 0, none⟩ = some (.slice a0 n0 c0)) := hu0
    clear hdu hlo0 hn0 hins7 hlong
    go_wp2_with fail
    refine HOP.mono ?_
    intro e w8 hop
    obtain ⟨gB, rfl, hg8, hnew⟩ := open_of_sound HDU.out hop
    obtain ⟨hd', l, pv, gM, _, _, hf, hgM3, _, hr8⟩ := hnew.rdr
    have hml := hr8.lt
    have htot : hd'.total = n0 := by rw [← HN0.out]; exact (hf.total 0 (by have := hf.ch1; omega)).symm
    have hchk : hd'.channels = k := by rw [← hf.ch]; exact HKC.out
    have HCO := kcomes w8 _ rt bits chs us (by unfold maxLen; omega) HDU.out (hsnd7.kept hg8) (by omega) (fun d hd => by have := (HM.out.2.2.2.2.2 d hd).1; omega)
    have hbT8 := hbT7.kept hg8 (by simp)
    have z0 : w8.cell? ⟨gT, 0, none⟩ = some (.int .i64 rt) := hbT8.cell 0
    have z1 : w8.cell? ⟨gT, 1, none⟩ = some (.int .i64 bits) := hbT8.cell 1
    have z2 : w8.cell? ⟨gT, 2, none⟩ = some (.slice (some ⟨lg, 0, none⟩) k lcap) := hbT8.cell 2
    have hG8 : w3.grownBy w8 none := grown_trans HG7.out hg8
    have HKC2 := HKC.out
    clear hop HOP HDU hnew
    go_wp2_with fail
    refine HCO.mono ?_
    rintro e w9 ⟨rfl, hg9⟩
    have hr9 := hr8.kp (Kp.ofNone (S := fun _ => False) hg9) (fun _ _ e => e)
    have hG9 : w7.grownBy w9 none := grown_trans hg8 hg9
    clear HCO z0 z1 z2 hr8
    have htb : n0 ≤ 1200 := by rw [← htot]; exact (headOk_parts hf.ok).2.2.2.2.2.2.2
    have HPI : Calls _ _ #[_, .int .i64 ((n0 + 1 : Nat) : Int)] _ _ := pick_any size (n0 + 1) w9 hb64.1 hb64.2 (by omega) (by omega)
    go_wp2_with fail
    refine HPI.mono ?_
    rintro e w10 ⟨fr, hfr, rfl, rfl⟩
    clear HPI
    have HSE := rdr_seek w10 gB gM hd' l pv 0 0 _ _ hr9 fr (by rw [htot]; omega)
    go_wp2_with fail
    refine HSE.mono ?_
    rintro e w11 ⟨rfl, hr11, hg11⟩
    have HRD := rdr_read w11 gB gM hd' chs l pv fr 0 _ _ hr11 hf (by rw [htot]; omega) n0 (by omega) (by omega)
    rw [htot, show fr + min n0 (n0 - fr) = n0 by omega] at HRD
    have hG11 : w7.grownBy w11 none := grown_kp hG9 (Kp.of hg11) (fun b hb => by injection hb with hb; omega)
    clear HSE hr9 hr11 hg11
    go_wp2_with fail
    refine HRD.mono ?_
    rintro e w12 ⟨lv, vs6, M6, KB6, rfl, hk12, hr12, _, hsub6, _⟩
    have hG12 : w7.grownBy w12 none := grown_kp hG11 hk12 (fun b hb => by omega)
    have hln6 := hsub6.len
    have hcl6 : (cutAll fr n0 chs).length = k := by unfold cutAll; rw [List.length_map]; exact HKC.out
    obtain ⟨lg6, lcap6, hlv6, _, _, hcl⟩ := hsub6.cell (by omega)
    subst hlv6
    have hv6 : vs6.length = k := by omega
    rw [hv6] at hcl hsub6 ⊢
    obtain ⟨u1, hu1⟩ : ∃ u1, vs6.getD 0 undef = u1 := ⟨_, rfl⟩
    have p1 := hcl 0 (by omega)
    have hlo1 : Lo w12.drew u1 (((chs.getD 0 []).drop fr).take (n0 - fr)) := by
      have h1 := hsub6.own 0 (by omega)
      rw [cutAll_get fr n0 chs 0 (by omega), hu1] at h1
      exact h1.ls.lo
    rw [hu1] at p1
    have p2 : w12.cell? ⟨gT, 2, none⟩ = some (.slice (some ⟨lg, 0, none⟩) k lcap) := hG12.cell t7 (by simp)
    have p3 : w12.cell? ⟨lg, 0, none⟩ = some (.slice a0 n0 c0) := hG12.cell HU0.out (by simp)
    have HGF : Hid (w.grownBy w12 none) := grown_trans HGG3.out (grown_trans HG7.out hG12)
    have tk : ((k : Int) != (k : Int)) = false := by simp
    have hkz2 : (0 : Int) < (k : Int) := by omega
    have Q1 : Hid (w12.cell? ⟨lg6, 0, none⟩ = some u1) := p1
    have Q2 : Hid (w12.cell? ⟨gT, 2, none⟩ = some (.slice (some ⟨lg, 0, none⟩) k lcap)) := p2
    have Q3 : Hid (w12.cell? ⟨lg, 0, none⟩ = some (.slice a0 n0 c0)) := p3
    have f1 : (fr : Int) ≤ (n0 : Int) := by omega
    have f2 : (n0 : Int) ≤ (c0 : Int) := by omega
    have HNL := HN0.out
    have hlo0 := HLO0.out
    clear HRD hcl hsub6 hln6 hcl6 hr12 hk12 hu1 hv6
    rcases hlo0 with ⟨hnil, hch0⟩ | ⟨b2, o2, cap2, hsl, hcap2, _, _, hc2⟩
    · have ea : a0 = none := by injection hnil
      have en : n0 = 0 := by injection hnil
      have ec : c0 = 0 := by injection hnil
      subst ea
      have hv2 : Value.slice none (n0 - fr) (c0 - fr) = .slice none 0 0 := by rw [show n0 - fr = 0 by omega, show c0 - fr = 0 by omega]
      have hlo2 : Lo w12.drew (.slice none (n0 - fr) (c0 - fr)) (((chs.getD 0 []).drop fr).take (n0 - fr)) := by
        rw [hv2, hch0]
        exact .inl ⟨rfl, by simp⟩
      have HSI := ksame_ints w12.drew u1 (.slice none (n0 - fr) (c0 - fr)) _ hlo1 hlo2 (by rw [hch0]; simp)
      clear hnil hch0 en ec hv2 hlo2 hlo1 HNL
      go_upto_region 25 with fail
      go_region_held (fun w' => w'.cell? ⟨lg6, 0, none⟩ = some u1 ∧ w'.cell? ⟨gT, 2, none⟩ = some (.slice (some ⟨lg, 0, none⟩) k lcap) ∧ w'.cell? ⟨lg, 0, none⟩ = some (.slice none n0 c0)) (go_keep) (first
        | (go_at_call 12; refine HSI.mono ?_; rintro e w13 ⟨rfl, d13, hw13⟩; have HG13 : Hid (w12.grownBy w13 none) := (by show w12.grownBy w13 none; rw [hw13]; exact grown_drewN (grown_drew (grown_refl _ _)) _); have q1 := HG13.out.cell Q1.out (by simp); have q2 := HG13.out.cell Q2.out (by simp); have q3 := HG13.out.cell Q3.out (by simp); clear hw13))
      all_goals
        go_wp2
        exact bodyPost_ret (v := .bool true) (by simp [results, Tryz.results3, go_sem]) rfl ⟨rfl, grown_trans HGF.out HG13.out⟩
    · have ea : a0 = some ⟨b2, o2, none⟩ := by injection hsl
      have ec : c0 = cap2 := by injection hsl
      subst ea
      obtain ⟨ad, had⟩ : ∃ ad : Option Addr, (if c0 = fr then some (⟨b2, o2, none⟩ : Addr) else some ⟨b2, o2 + fr, none⟩) = ad := ⟨_, rfl⟩
      have hlo2 : Lo w12.drew (.slice ad (n0 - fr) (c0 - fr)) (((chs.getD 0 []).drop fr).take (n0 - fr)) := by
        have hll : (((chs.getD 0 []).drop fr).take (n0 - fr)).length = n0 - fr := by rw [List.length_take, List.length_drop, HNL]; omega
        by_cases hcp : c0 = fr
        · rw [if_pos hcp] at had
          rw [← had]
          exact .inr ⟨b2, o2, c0 - fr, by rw [hll], fun q hq => by rw [hll] at hq; omega⟩
        · rw [if_neg hcp] at had
          rw [← had]
          refine .inr ⟨b2, o2 + fr, c0 - fr, by rw [hll], fun q hq => ?_⟩
          rw [hll] at hq
          have h1 := (grown_drew hG12).cell (hc2 (fr + q) (by rw [HNL]; omega)) (by simp)
          rw [Nat.add_assoc, h1]
          congr 2
          simp [List.getD, hq, List.getElem?_drop]
      have HSI := ksame_ints w12.drew u1 (.slice ad (n0 - fr) (c0 - fr)) _ hlo1 hlo2 (by rw [List.length_take, List.length_drop, HNL]; omega)
      clear hsl hc2 hcap2 ec hlo2 hlo1 HNL
      go_upto_region 25 with fail
      go_region_held (fun w' => w'.cell? ⟨lg6, 0, none⟩ = some u1 ∧ w'.cell? ⟨gT, 2, none⟩ = some (.slice (some ⟨lg, 0, none⟩) k lcap) ∧ w'.cell? ⟨lg, 0, none⟩ = some (.slice (some ⟨b2, o2, none⟩) n0 c0)) (go_keep) (first
        | (go_at_call 12; refine HSI.mono ?_; rintro e w13 ⟨rfl, d13, hw13⟩; have HG13 : Hid (w12.grownBy w13 none) := (by show w12.grownBy w13 none; rw [hw13]; exact grown_drewN (grown_drew (grown_refl _ _)) _); have q1 := HG13.out.cell Q1.out (by simp); have q2 := HG13.out.cell Q2.out (by simp); have q3 := HG13.out.cell Q3.out (by simp); clear hw13))
      all_goals
        go_wp2
        exact bodyPost_ret (v := .bool true) (by simp [results, Tryz.results3, go_sem]) rfl ⟨rfl, grown_trans HGF.out HG13.out⟩
end Go.Proofs.YtncmgnmcggkhnaaGreat
