import Derived.Test.YtncmgnmcggkhnaaGreatGZ15
import Derived.Deep.AppendLies
import Derived.Deep.DeepCutAuto
import Derived.Deep.CutBlock
import Derived.BigRegion
import Derived.BigQuiet
namespace Go.Proofs.YtncmgnmcggkhnaaGreat
open Go.RowKit

/-! ### bytes -/

def byteOf (l : List Bool) : UInt8 := UInt8.ofNat (val (l ++ List.replicate (8 - l.length) false))

/-- bits as bytes, with bits 0 up to a byte's end -/
def packUpto : Nat → List Bool → List UInt8
  | 0, _ => []
  | _ + 1, [] => []
  | n + 1, a :: t => byteOf ((a :: t).take 8) :: packUpto n ((a :: t).drop 8)

def pack (l : List Bool) : List UInt8 := packUpto l.length l

theorem packUpto_enough : ∀ (n m : Nat) (l : List Bool), l.length ≤ n → l.length ≤ m → packUpto n l = packUpto m l
  | 0, 0, _, _, _ => rfl
  | 0, _ + 1, [], _, _ => rfl
  | 0, _ + 1, _ :: _, h, _ => by simp at h
  | _ + 1, 0, [], _, _ => rfl
  | _ + 1, 0, _ :: _, _, h => by simp at h
  | _ + 1, _ + 1, [], _, _ => rfl
  | n + 1, m + 1, a :: t, h1, h2 => by
    show _ :: packUpto n _ = _ :: packUpto m _
    rw [List.length_cons] at h1 h2
    rw [packUpto_enough n m _ (by rw [List.length_drop, List.length_cons]; omega) (by rw [List.length_drop, List.length_cons]; omega)]

/-- how many bits up to a byte's end -/
def padLen (n : Nat) : Nat := 8 * ((n + 7) / 8) - n

def bits8 (n : Nat) : List Bool := [n.testBit 7, n.testBit 6, n.testBit 5, n.testBit 4, n.testBit 3, n.testBit 2, n.testBit 1, n.testBit 0]

set_option maxRecDepth 100000 in
theorem val_bits8 : ∀ n, n < 256 → val (bits8 n) = n := by decide

theorem val_inj : ∀ (l m : List Bool), l.length = m.length → val l = val m → l = m
  | [], [], _, _ => rfl
  | [], _ :: _, h, _ => by simp at h
  | _ :: _, [], h, _ => by simp at h
  | a :: l, b :: m, h, e => by
    have hl : l.length = m.length := by simpa using h
    rw [val_cons2, val_cons2, hl] at e
    have h1 := val_lt l
    have h2 := val_lt m
    rw [hl] at h1
    have hab : a = b := by
      cases a <;> cases b <;> simp at e ⊢ <;> omega
    subst hab
    rw [val_inj l m hl (by omega)]

theorem byteBits_ofNat (n : Nat) (h : n < 256) : byteBits (UInt8.ofNat n) = bits8 n := by
  unfold byteBits bits8
  have : (UInt8.ofNat n).toNat = n := by simp [UInt8.toNat_ofNat']; omega
  rw [this]

theorem byteBits_byteOf (l : List Bool) (h : l.length ≤ 8) : byteBits (byteOf l) = l ++ List.replicate (8 - l.length) false := by
  have hl : (l ++ List.replicate (8 - l.length) false).length = 8 := by simp; omega
  have hlt := val_lt (l ++ List.replicate (8 - l.length) false)
  rw [hl] at hlt
  unfold byteOf
  rw [byteBits_ofNat _ hlt]
  exact val_inj _ _ (by rw [hl]; rfl) (val_bits8 _ hlt)

theorem pack_nil : pack [] = [] := rfl
theorem pack_cons (l : List Bool) (h : l ≠ []) : pack l = byteOf (l.take 8) :: pack (l.drop 8) := by
  cases l with
  | nil => exact absurd rfl h
  | cons a t =>
    show _ :: packUpto t.length _ = _ :: packUpto _ _
    rw [packUpto_enough t.length _ _ (by rw [List.length_drop, List.length_cons]; omega) (Nat.le_refl _)]

theorem bitsOf_pack : ∀ (n : Nat) (l : List Bool), l.length = n → bitsOf (pack l) = l ++ List.replicate (padLen l.length) false := by
  intro n
  induction n using Nat.strongRecOn with
  | ind n ih =>
    intro l hl
    by_cases hn : l = []
    · subst hn
      rw [pack_nil]
      rfl
    · have hpos : 0 < l.length := List.length_pos_iff.mpr hn
      rw [pack_cons l hn, bitsOf_cons, ih (l.drop 8).length (by rw [List.length_drop]; omega) _ rfl, byteBits_byteOf _ (by rw [List.length_take]; omega)]
      rcases Nat.lt_or_ge l.length 8 with h8 | h8
      · have e1 : l.take 8 = l := List.take_of_length_le (by omega)
        have e2 : l.drop 8 = [] := List.drop_of_length_le (by omega)
        rw [e1, e2]
        have e3 : padLen l.length = 8 - l.length := by unfold padLen; omega
        rw [e3]
        have e4 : padLen ([] : List Bool).length = 0 := rfl
        rw [e4]
        simp
      · have e1 : (l.take 8).length = 8 := by rw [List.length_take]; omega
        rw [e1]
        have e3 : padLen (l.drop 8).length = padLen l.length := by rw [List.length_drop]; unfold padLen; omega
        rw [e3]
        simp only [Nat.sub_self, List.replicate_zero, List.append_nil]
        rw [← List.append_assoc, List.take_append_drop]

theorem bitsOf_pack' (l : List Bool) : bitsOf (pack l) = l ++ List.replicate (padLen l.length) false := bitsOf_pack _ l rfl

theorem pack_length (l : List Bool) : (pack l).length = (l.length + 7) / 8 := by
  have h := congrArg List.length (bitsOf_pack' l)
  rw [bitsOf_length, List.length_append, List.length_replicate] at h
  unfold padLen at h
  omega

theorem byteBits_inj {a b : UInt8} (h : byteBits a = byteBits b) : a = b := by
  have ha := val_bits8 a.toNat a.toNat_lt
  have hb := val_bits8 b.toNat b.toNat_lt
  apply UInt8.toNat_inj.mp
  rw [← ha, ← hb]
  exact congrArg val h

theorem bitsOf_inj : ∀ (l m : List UInt8), bitsOf l = bitsOf m → l = m
  | [], [], _ => rfl
  | [], b :: m, h => by have := congrArg List.length h; rw [bitsOf_length, bitsOf_length] at this; simp at this
  | a :: l, [], h => by have := congrArg List.length h; rw [bitsOf_length, bitsOf_length] at this; simp at this
  | a :: l, b :: m, h => by
    rw [bitsOf_cons, bitsOf_cons] at h
    have h1 := List.append_inj h (by rw [byteBits_length, byteBits_length])
    rw [byteBits_inj h1.1, bitsOf_inj l m h1.2]

theorem bitsOf_take (l : List UInt8) (k : Nat) : bitsOf (l.take k) = (bitsOf l).take (8 * k) := by
  have h := bitsOf_append (l.take k) (l.drop k)
  rw [List.take_append_drop] at h
  rcases Nat.lt_or_ge k l.length with hk | hk
  · rw [h, List.take_left' (by rw [bitsOf_length, List.length_take]; omega)]
  · rw [List.take_of_length_le hk, List.take_of_length_le (by rw [bitsOf_length]; omega)]

/-- whole bytes -/
theorem pack_append (l m : List Bool) (h : l.length % 8 = 0) : pack (l ++ m) = pack l ++ pack m := by
  apply bitsOf_inj
  rw [bitsOf_append, bitsOf_pack', bitsOf_pack', bitsOf_pack', List.length_append]
  have e1 : padLen l.length = 0 := by unfold padLen; omega
  have e2 : padLen (l.length + m.length) = padLen m.length := by unfold padLen; omega
  rw [e1, e2]
  simp

theorem pack_bitsOf (l : List UInt8) : pack (bitsOf l) = l := by
  apply bitsOf_inj
  rw [bitsOf_pack', bitsOf_length]
  have : padLen (8 * l.length) = 0 := by unfold padLen; omega
  rw [this]
  simp

theorem pack_pad (l : List Bool) : pack (l ++ List.replicate (padLen l.length) false) = pack l := by
  rw [← bitsOf_pack', pack_bitsOf]

/-! ### a frame -/

def headBits (mode number count : Nat) : List Bool := numBits (16775280 : Nat) 24 ++ (numBits mode 4 ++ (numBits (0 : Nat) 4 ++ (numBits number 8 ++ numBits ((count - 1 : Nat) : Int) 16)))

theorem headBits_length (mode number count : Nat) : (headBits mode number count).length = 56 := by
  unfold headBits; simp [numBits_length]

/-- all of a frame but the bits up to a byte's end, and the last sum -/
def preBits (mode number count wide : Nat) (subs : List ESub) : List Bool :=
  headBits mode number count ++ (numBits (crc 8 7 (pack (headBits mode number count)) : Nat) 8 ++ subs.flatMap (subBits wide))

def frameBytes (mode number count wide : Nat) (subs : List ESub) : List UInt8 :=
  pack (preBits mode number count wide subs) ++ pack (numBits (crc 16 32773 (pack (preBits mode number count wide subs)) : Nat) 16)

theorem frameBytes_length (mode number count wide : Nat) (subs : List ESub) : (frameBytes mode number count wide subs).length = 10 + ((subs.flatMap (subBits wide)).length + 7) / 8 := by
  unfold frameBytes
  rw [List.length_append, pack_length, pack_length, numBits_length]
  unfold preBits
  rw [List.length_append, List.length_append, headBits_length, numBits_length]
  omega

theorem frameBytes_bits (mode number count wide : Nat) (subs : List ESub) : bitsOf (frameBytes mode number count wide subs) =
    preBits mode number count wide subs ++ (List.replicate (padLen (preBits mode number count wide subs).length) false ++ numBits (crc 16 32773 (pack (preBits mode number count wide subs)) : Nat) 16) := by
  unfold frameBytes
  rw [bitsOf_append, bitsOf_pack', bitsOf_pack' (numBits _ 16), numBits_length, List.append_assoc]
  have : padLen 16 = 0 := rfl
  rw [this]
  simp

/-- the subframes hold the channels -/
def HoldAll (wide n : Nat) : List (List Int) → List ESub → Prop
  | [], [] => True
  | c :: cs, s :: ss => c.length = n ∧ (∀ x ∈ c, fitsB wide x = true) ∧ Holds wide c s ∧ HoldAll wide n cs ss
  | _, _ => False

theorem pChannels_bits (n wide mode : Nat) (hw : 1 ≤ wide) (hm : mode < 8) : ∀ (chs : List (List Int)) (subs : List ESub) (i : Nat) (r : List Bool), HoldAll wide n chs subs →
    pChannels n wide mode chs.length i (subs.flatMap (subBits wide) ++ r) = some (chs, r)
  | [], [], i, r, _ => rfl
  | [], _ :: _, _, _, h => h.elim
  | _ :: _, [], _, _, h => h.elim
  | c :: cs, s :: ss, i, r, h => by
    obtain ⟨hl, hf, hs, hr⟩ := h
    have he : extra mode i = 0 := by
      unfold extra
      rw [if_neg (by omega)]
    show (pSubframe n (wide + extra mode i) _).bind _ = _
    rw [he, Nat.add_zero, List.flatMap_cons, List.append_assoc, ← hl, pSubframe_bits wide c s _ hw hf hs]
    simp only [Option.bind_some]
    rw [hl, pChannels_bits n wide mode hw hm cs ss (i + 1) r hr]
    rfl

theorem holdAll_fits (wide n : Nat) : ∀ (chs : List (List Int)) (subs : List ESub), HoldAll wide n chs subs → ∀ c ∈ chs, c.length = n ∧ ∀ x ∈ c, fitsB wide x = true
  | [], _, _, c, hc => by simp at hc
  | _ :: _, [], h, _, _ => h.elim
  | c :: cs, s :: ss, h, d, hd => by
    rcases List.mem_cons.1 hd with rfl | hd
    · exact ⟨h.1, h.2.1⟩
    · exact holdAll_fits wide n cs ss h.2.2.2 d hd

theorem apart_low2 (mode : Nat) (hm : mode < 8) (chs : List (List Int)) (n : Nat) (h : ∀ c ∈ chs, c.length = n) : apart mode chs = chs := by
  match chs, h with
  | [], _ => rfl
  | [a], _ => rfl
  | a :: b :: c :: r, _ => rfl
  | [a, b], h =>
    have ha := h a (by simp)
    have hb := h b (by simp)
    have hp : ∀ x y : Int, pair mode x y = (x, y) := fun x y => by
      unfold pair
      rw [if_neg (by omega), if_neg (by omega), if_neg (by omega)]
    have key : ∀ (a b : List Int), a.length = b.length → (List.zipWith (pair mode) a b).map (·.1) = a ∧ (List.zipWith (pair mode) a b).map (·.2) = b := by
      intro a
      induction a with
      | nil => intro b hb; cases b with
        | nil => exact ⟨rfl, rfl⟩
        | cons _ _ => simp at hb
      | cons x a ih => intro b hb; cases b with
        | nil => simp at hb
        | cons y b =>
          have := ih b (by simpa using hb)
          rw [List.zipWith_cons_cons, List.map_cons, List.map_cons, hp, this.1, this.2]
          exact ⟨rfl, rfl⟩
    have := key a b (by omega)
    show [_, _] = _
    rw [this.1, this.2]

theorem crc_lt8 (l : List UInt8) : crc 8 7 l < 256 := crc_lt 8 7 (by decide) (by decide) l
theorem crc_lt16 (l : List UInt8) : crc 16 32773 l < 65536 := crc_lt 16 32773 (by decide) (by decide) l

theorem pFrame_bytes (h : Head) (mode number count : Nat) (chs : List (List Int)) (subs : List ESub) (rest : List UInt8) (hm : modeOk h.channels mode = true) (hm8 : mode < 8) (hw : 1 ≤ h.bits) (hn : number < 256) (hc : chs.length = h.channels) (hc1 : 1 ≤ count) (hc2 : count ≤ h.block) (hb : h.block ≤ 65536)
    (hh : HoldAll h.bits count chs subs) : pFrame h number (frameBytes mode number count h.bits subs ++ rest) = some (chs, rest) := by
  obtain ⟨fb, hfb⟩ : ∃ fb, frameBytes mode number count h.bits subs = fb := ⟨_, rfl⟩
  have hbits := frameBytes_bits mode number count h.bits subs
  obtain ⟨pb, hpb⟩ : ∃ pb, preBits mode number count h.bits subs = pb := ⟨_, rfl⟩
  have hfl : fb.length = (pack pb).length + 2 := by
    rw [← hfb, ← hpb]
    unfold frameBytes
    rw [List.length_append, pack_length (numBits _ 16), numBits_length]
  rw [hfb, hpb] at hbits
  rw [hfb]
  have hall : bitsOf (fb ++ rest) = pb ++ (List.replicate (padLen pb.length) false ++ (numBits (crc 16 32773 (pack pb) : Nat) 16 ++ bitsOf rest)) := by
    rw [bitsOf_append, hbits]; simp [List.append_assoc]
  obtain ⟨tail, htail⟩ : ∃ tail, List.replicate (padLen pb.length) false ++ (numBits (crc 16 32773 (pack pb) : Nat) 16 ++ bitsOf rest) = tail := ⟨_, rfl⟩
  have h7 : (fb ++ rest).take 7 = pack (headBits mode number count) := by
    apply bitsOf_inj
    rw [bitsOf_take, hall, bitsOf_pack', headBits_length, ← hpb]
    unfold preBits
    rw [List.append_assoc, List.take_left' (by rw [headBits_length])]
    have : padLen 56 = 0 := rfl
    rw [this]
    simp
  have hfbr : (fb ++ rest).take ((fb ++ rest).length - (2 + rest.length)) = pack pb := by
    apply bitsOf_inj
    rw [bitsOf_take, hall, bitsOf_pack', ← List.append_assoc, List.take_left']
    rw [List.length_append, List.length_append, List.length_replicate, hfl, pack_length]
    unfold padLen
    omega
  unfold pFrame
  have hhead : pHead h number (fb ++ rest) (bitsOf (fb ++ rest)) = some ((mode, count), subs.flatMap (subBits h.bits) ++ tail) := by
    unfold pHead
    rw [hall, htail, ← hpb, h7]
    unfold preBits
    obtain ⟨c8, hc8⟩ : ∃ c8, crc 8 7 (pack (headBits mode number count)) = c8 := ⟨_, rfl⟩
    have hc8l := crc_lt8 (pack (headBits mode number count))
    rw [hc8] at hc8l ⊢
    unfold headBits
    have e24 : numBits ((16775280 : Nat) : Int) 24 = numBits ((65528 : Nat) : Int) 16 ++ numBits ((112 : Nat) : Int) 8 := by decide
    rw [e24]
    simp only [List.append_assoc]
    have hmode : mode < 16 := by omega
    rw [pMust_bits 65528 16 _ (by decide)]
    simp only [Option.bind_some]
    rw [pMust_bits 112 8 _ (by decide)]
    simp only [Option.bind_some]
    rw [pNum_bits_nat mode 4 _ hmode]
    simp only [Option.bind_some]
    rw [pMust_bits 0 4 _ (by decide)]
    simp only [Option.bind_some]
    rw [pMust_bits number 8 _ hn]
    simp only [Option.bind_some]
    rw [pNum_bits_nat (count - 1) 16 _ (by show count - 1 < 65536; omega)]
    simp only [Option.bind_some]
    rw [pMust_bits c8 8 _ hc8l]
    simp only [Option.bind_some]
    rw [show count - 1 + 1 = count by omega, if_pos ⟨hc2, hm⟩]
  rw [hhead]
  simp only [Option.bind_some]
  rw [← hc, pChannels_bits count h.bits mode hw hm8 chs subs 0 tail hh]
  simp only [Option.bind_some]
  have htl : tail.length % 8 = padLen pb.length := by
    rw [← htail, List.length_append, List.length_append, List.length_replicate, numBits_length, bitsOf_length]
    unfold padLen
    omega
  rw [htl, ← htail, pMust_false]
  simp only [Option.bind_some]
  have hr2 : (numBits ((crc 16 32773 (pack pb) : Nat) : Int) 16 ++ bitsOf rest).length / 8 = 2 + rest.length := by
    rw [List.length_append, numBits_length, bitsOf_length]; omega
  rw [hr2, hfbr, pMust_bits _ 16 _ (crc_lt16 _)]
  simp only [Option.bind_some]
  have hfit := holdAll_fits h.bits count chs subs hh
  have hr3 : (bitsOf rest).length / 8 = rest.length := by rw [bitsOf_length]; omega
  rw [apart_low2 mode hm8 chs count (fun c hc => (hfit c hc).1), hr3, if_pos ?_, List.length_append, Nat.add_sub_cancel, List.drop_left]
  rw [List.all_eq_true]
  intro c hc
  rw [List.all_eq_true]
  exact (hfit c hc).2
end Go.Proofs.YtncmgnmcggkhnaaGreat

namespace Go.Proofs.YtncmgnmcggkhnaaGreat
open Go.RowKit

/-! ### one bit more -/

/-- the whole bytes, and the bits behind them -/
def wholeB (L : List Bool) : List Bool := L.take (8 * (L.length / 8))
def restB (L : List Bool) : List Bool := L.drop (8 * (L.length / 8))

theorem whole_rest (L : List Bool) : wholeB L ++ restB L = L := List.take_append_drop _ _
theorem wholeB_length (L : List Bool) : (wholeB L).length = 8 * (L.length / 8) := by unfold wholeB; rw [List.length_take]; omega
theorem restB_length (L : List Bool) : (restB L).length = L.length % 8 := by unfold restB; rw [List.length_drop]; omega

theorem pack_short (l : List Bool) (h : l.length ≤ 8) (hne : l ≠ []) : pack l = [byteOf l] := by
  rw [pack_cons l hne, List.take_of_length_le h, List.drop_of_length_le h, pack_nil]

theorem pack_split (L : List Bool) : pack L = pack (wholeB L) ++ pack (restB L) := by
  conv => lhs; rw [← whole_rest L]
  exact pack_append _ _ (by rw [wholeB_length]; omega)

theorem pack_snoc (L : List Bool) (c : Bool) : pack (L ++ [c]) = pack (wholeB L) ++ [byteOf (restB L ++ [c])] := by
  conv => lhs; rw [← whole_rest L, List.append_assoc]
  rw [pack_append _ _ (by rw [wholeB_length]; omega), pack_short (restB L ++ [c]) (by rw [List.length_append, restB_length, List.length_singleton]; omega) (by simp)]

theorem packWhole_length (L : List Bool) : (pack (wholeB L)).length = L.length / 8 := by rw [pack_length, wholeB_length]; omega

theorem byteOf_nil : byteOf [] = 0 := by decide

theorem byteOf_toNat (l : List Bool) (h : l.length ≤ 8) : (byteOf l).toNat = val l * 2 ^ (8 - l.length) := by
  have hl : (l ++ List.replicate (8 - l.length) false).length = 8 := by simp; omega
  have hlt := val_lt (l ++ List.replicate (8 - l.length) false)
  rw [hl] at hlt
  unfold byteOf
  have : (UInt8.ofNat (val (l ++ List.replicate (8 - l.length) false))).toNat = val (l ++ List.replicate (8 - l.length) false) := by
    rw [UInt8.toNat_ofNat']; exact Nat.mod_eq_of_lt hlt
  rw [this, val_append, val_false, List.length_replicate, Nat.add_zero]

/-- the byte that is begun, with one bit more -/
theorem byteOf_snoc (l : List Bool) (c : Bool) (h : l.length < 8) : (byteOf (l ++ [c])).toNat = (byteOf l).toNat ||| (c.toNat <<< (7 - l.length)) := by
  rw [byteOf_toNat _ (by rw [List.length_append, List.length_singleton]; omega), byteOf_toNat _ (by omega), val_snoc, List.length_append, List.length_singleton, show 8 - (l.length + 1) = 7 - l.length by omega,
    show 8 - l.length = (7 - l.length) + 1 by omega, Nat.pow_succ, Nat.shiftLeft_eq]
  generalize 7 - l.length = s
  have hc : c.toNat * 2 ^ s < 2 ^ (s + 1) := by
    have : c.toNat ≤ 1 := Bool.toNat_le c
    have h2 := Nat.mul_le_mul_right (2 ^ s) this
    have := Nat.two_pow_pos s
    rw [Nat.pow_succ]
    omega
  rw [← Nat.pow_succ, Nat.mul_comm (val l), ← Nat.two_pow_add_eq_or_of_lt hc, Nat.pow_succ, Nat.add_mul, Nat.mul_comm (2 * val l), Nat.mul_assoc]

theorem or_byte (l : List Bool) (c : Bool) (h : l.length < 8) : c.toNat <<< (7 - l.length) < 256 := by
  have : c.toNat ≤ 1 := Bool.toNat_le c
  have h2 : 2 ^ (7 - l.length) ≤ 2 ^ 7 := Nat.pow_le_pow_right (by decide) (by omega)
  rw [Nat.shiftLeft_eq]
  have h3 := Nat.mul_le_mul this h2
  omega

def byteV (b : UInt8) : Value := .int .u8 b.toNat
end Go.Proofs.YtncmgnmcggkhnaaGreat

namespace Go.Proofs.YtncmgnmcggkhnaaGreat
open Go.RowKit

theorem infoU8 : (Tryz.prog.info? 5).map (fun i => (i.zero, i.size, i.bytes)) = some (some (.int .u8 0), 1, 1) := by kernel_rfl

/-- a writer in memory: `L` was written; its bytes lie in a block of their own, from `base` on -/
structure WrS (w : World) (gw base : Nat) (v : Value) (L : List Bool) : Prop where
  box : Box w gw #[v, .int .i64 L.length] 85
  row : w.ownsRow base 5 1 v ((L.length + 7) / 8) ((pack L).map byteV)
  lt : gw < base

/-- what writing changes -/
structure Wrote (w w' : World) (gw : Nat) (v v' : Value) : Prop where
  kp : Kp w w' (fun b => b = gw ∨ v.ownBlock = some b)
  own : ∀ q, v'.ownBlock = some q → v.ownBlock = some q ∨ w.heap.size ≤ q

theorem Wrote.refl (w : World) (gw : Nat) (v : Value) : Wrote w w gw v v := ⟨Kp.refl _ _, fun _ h => .inl h⟩
theorem Wrote.trans {w w1 w2 : World} {gw : Nat} {v v1 v2 : Value} (h : Wrote w w1 gw v v1) (h1 : Wrote w1 w2 gw v1 v2) : Wrote w w2 gw v v2 := by
  refine ⟨h.kp.trans h1.kp (fun b hb => ?_), fun q hq => ?_⟩
  · rcases hb with hb | hb
    · exact .inl (.inl hb)
    · rcases h.own b hb with h2 | h2
      · exact .inl (.inr h2)
      · exact .inr h2
  · rcases h1.own q hq with h2 | h2
    · exact h.own q h2
    · exact .inr (Nat.le_trans h.kp.size h2)

def WPost (w : World) (gw base : Nat) (v : Value) (L B : List Bool) (e : Ending) (w' : World) : Prop :=
  e = .returned (.tuple #[]) ∧ ∃ v', WrS w' gw base v' (L ++ B) ∧ Wrote w w' gw v v'

theorem row_slice {w : World} {base t k n : Nat} {v : Value} {xs : List Value} (h : w.ownsRow base t k v n xs) : ∃ a c, v = .slice a n c := by
  rcases h.2 with ⟨rfl, rfl⟩ | ⟨g, cap, cur, rfl, _⟩
  · exact ⟨none, 0, rfl⟩
  · exact ⟨_, cap, rfl⟩

theorem bits_or_u8 (a b : Nat) (ha : a < 256) (hb : b < 256) : bits .or .u8 (a : Int) (b : Int) = ((a ||| b : Nat) : Int) := by
  have hx : a ||| b < 2 ^ 8 := Nat.or_lt_two_pow (by omega) (by omega)
  have e : (BitVec.ofInt 8 (a : Int) ||| BitVec.ofInt 8 (b : Int)).toNat = a ||| b := by
    rw [BitVec.toNat_or, BitVec.toNat_ofInt, BitVec.toNat_ofInt]
    congr 1 <;> omega
  show IntKind.wrap .u8 ((BitVec.ofInt 8 (a : Int) ||| BitVec.ofInt 8 (b : Int)).toNat : Int) = _
  rw [e, IntKind.wrap_u8]
  omega

theorem or_written (L : List Bool) (c : Bool) (x s : Nat) (hs : (restB L).length = s) (hs8 : s < 8) (hx : (byteOf (restB L)).toNat = x) :
    bits .or .u8 (x : Int) (wrap64 ((c.toNat : Int) * 2 ^ (7 - s)) % 256) = ((byteOf (restB L ++ [c])).toNat : Int) := by
  have h1 := byteOf_snoc (restB L) c (by omega)
  have h2 := or_byte (restB L) c (by omega)
  rw [hs] at h1 h2
  rw [hx] at h1
  have h3 : x < 256 := by rw [← hx]; exact UInt8.toNat_lt _
  have e : (c.toNat : Int) * 2 ^ (7 - s) = ((c.toNat <<< (7 - s) : Nat) : Int) := by rw [Nat.shiftLeft_eq, Int.natCast_mul]; simp
  have e2 : wrap64 ((c.toNat <<< (7 - s) : Nat) : Int) % 256 = ((c.toNat <<< (7 - s) : Nat) : Int) := by
    generalize c.toNat <<< (7 - s) = y at *
    unfold wrap64
    omega
  rw [e, e2, bits_or_u8 _ _ h3 h2, h1]

/-- the bit is in, and counted -/
theorem wr_done {w wx : World} {gw base g cap : Nat} {v : Value} {L : List Bool} (c : Bool) (hlt : gw < base) (hbox : Box wx gw #[.slice (some ⟨g, 0, none⟩) (L.length / 8 + 1) cap, .int .i64 L.length] 85)
    (hrow : wx.ownsRow base 5 1 (.slice (some ⟨g, 0, none⟩) (L.length / 8 + 1) cap) (L.length / 8 + 1) ((pack (wholeB L) ++ [byteOf (restB L)]).map byteV)) (hwr : Wrote w wx gw v (.slice (some ⟨g, 0, none⟩) (L.length / 8 + 1) cap)) :
    WPost w gw base v L [c] (.returned (.tuple #[])) ((wx.setCell ⟨g, L.length / 8, none⟩ (.int .u8 ((byteOf (restB L ++ [c])).toNat : Int))).setCell ⟨gw, 1, none⟩ (.int .i64 ((L.length + 1 : Nat) : Int))) := by
  have hg := World.ownsRow.lt hrow g rfl
  have h1 := (World.ownsRow.stored hrow (L.length / 8) (.int .u8 ((byteOf (restB L ++ [c])).toNat : Int))).1
  have hs1 := grown_set wx g (L.length / 8) (.int .u8 ((byteOf (restB L ++ [c])).toNat : Int))
  have hb1 := hbox.kept hs1 (fun e => by injection e with e; omega)
  have hb2 := hb1.set 1 (.int .i64 ((L.length + 1 : Nat) : Int))
  have hs2 := grown_set (wx.setCell ⟨g, L.length / 8, none⟩ (.int .u8 ((byteOf (restB L ++ [c])).toNat : Int))) gw 1 (.int .i64 ((L.length + 1 : Nat) : Int))
  have h2 := World.ownsRow.kept h1 hs2 (.inr (fun e => by have e' : g = gw := by simpa [Value.ownBlock] using e
                                                          omega))
  have hxs : ((pack (wholeB L) ++ [byteOf (restB L)]).map byteV).set (L.length / 8) (.int .u8 ((byteOf (restB L ++ [c])).toNat : Int)) = (pack (L ++ [c])).map byteV := by
    rw [pack_snoc, List.map_append, List.map_append, List.set_append_right _ _ (by rw [List.length_map, packWhole_length]; exact Nat.le_refl _), List.length_map, packWhole_length, Nat.sub_self]
    rfl
  rw [hxs] at h2
  have hlen : ((L ++ [c]).length + 7) / 8 = L.length / 8 + 1 := by rw [List.length_append, List.length_singleton]; omega
  refine ⟨rfl, .slice (some ⟨g, 0, none⟩) (L.length / 8 + 1) cap, ⟨?_, by rw [hlen]; exact h2, hlt⟩, hwr.trans ⟨?_, fun q hq => .inl hq⟩⟩
  · rw [List.length_append, List.length_singleton]
    exact hb2
  · exact Kp.trans (Kp.mono (Kp.of hs1) (fun b hb => .inl (.inr (by injection hb with hb; subst hb; rfl)))) (Kp.of hs2) (fun b hb => .inl (.inl (by injection hb)))

set_option maxHeartbeats 4000000 in
set_option maxRecDepth 20000 in
theorem qwbit (w : World) (gw base : Nat) (v : Value) (L : List Bool) (c : Bool) (h : WrS w gw base v L) (hb : base ≤ w.heap.size) (hL : L.length ≤ 1099511627776) :
    Calls Tryz.prog 56 #[.pointer (some ⟨gw, 0, none⟩), .int .i64 c.toNat] w (WPost w gw base v L [c]) := by
  obtain ⟨i0, hi, hz0, hz1, hz2⟩ := info_parts infoU8
  have HI : Hid _ := hi
  have HZ0 : Hid _ := hz0
  have HZ1 : Hid _ := hz1
  have HZ2 : Hid _ := hz2
  clear hi hz0 hz1 hz2
  obtain ⟨a, cp, rfl⟩ := row_slice h.row
  obtain ⟨n, hn⟩ : ∃ n, (L.length + 7) / 8 = n := ⟨_, rfl⟩
  obtain ⟨m, hm⟩ : ∃ m, L.length = m := ⟨_, rfl⟩
  have hbox := h.box
  have hrow := h.row
  have hlt := h.lt
  rw [hn, hm] at hbox
  rw [hn] at hrow
  rw [hn]
  rw [hm] at hn hL
  have HM : Hid (L.length = m) := hm
  have k0 : w.cell? ⟨gw, 0, none⟩ = some (.slice a n cp) := hbox.cell 0
  have k1 : w.cell? ⟨gw, 1, none⟩ = some (.int .i64 m) := hbox.cell 1
  have y0 := hbox.fz 0
  have y1 := hbox.fz 1
  obtain ⟨q, hq⟩ : ∃ q, m / 8 = q := ⟨_, rfl⟩
  obtain ⟨s, hs⟩ : ∃ s, m % 8 = s := ⟨_, rfl⟩
  have hqz : (m : Int) / 8 = (q : Int) := by omega
  have hsz : (m : Int) % 8 = (s : Int) := by omega
  have hs8 : s < 8 := by omega
  have hn9 : n ≤ 1099511627776 := by omega
  have hq9 : q ≤ 1099511627776 := by omega
  have HQ : Hid (m / 8 = q) := hq
  have HS : Hid (m % 8 = s) := hs
  obtain ⟨x, hx⟩ : ∃ x, (byteOf (restB L)).toNat = x := ⟨_, rfl⟩
  have HX : Hid ((byteOf (restB L)).toNat = x) := hx
  have hzz : m % 8 = 0 ∨ m % 8 ≠ 0 := by omega
  rcases hzz with hz | hz
  · have tz : ((m : Int) == 8 * (n : Int)) = true := by simp; omega
    have hnq : n = q := by omega
    have hrest : restB L = [] := List.eq_nil_of_length_eq_zero (by rw [restB_length, hm]; exact hz)
    have hpk : pack L = pack (wholeB L) := by rw [pack_split, hrest, pack_nil, List.append_nil]
    have hx0 : x = 0 := by rw [← hx, hrest]; decide
    have HNQ : Hid (n = q) := hnq
    have HPK : Hid (pack L = pack (wholeB L)) := hpk
    have HX0 : Hid (x = 0) := hx0
    have HBOX : Hid (Box w gw #[.slice a n cp, .int .i64 m] 85) := hbox
    have hgw : gw < w.heap.size := hbox.lt
    have HROWD : Hid (∀ k, (w.drewN k).ownsRow base 5 1 (.slice a n cp) n ((pack L).map byteV)) := fun k => hrow
    have HNOWN : Hid (some gw ≠ (Value.slice a n cp).ownBlock) := fun e => by have := (World.ownsRow.lt hrow gw e.symm).1; omega
    have HV : Hid (bits .or .u8 (x : Int) (wrap64 ((c.toNat : Int) * 2 ^ (7 - s)) % 256) = ((byteOf (restB L ++ [c])).toNat : Int)) := or_written L c x s (by rw [restB_length, hm]; exact hs) hs8 hx
    clear hnq hpk hx0 hq hs hx hn hm hrest h hbox hrow
    go_enter Tryz.func56, Tryz.ntmps56
    go_upto_region 0 with fail
    go_quiet (fail)
    go_wp2_with (first
      | (at_builtin; refine wpList_append_lies _ rfl _ _ 30 rfl base 5 i0 (.int .u8 0) 1 1 Tryz.underlying30 HI.out HZ0.out HZ1.out HZ2.out rfl (by decide) (.slice a n cp) n ((pack L).map byteV) rfl ?c0 ⟨w.heap.size, 0, none⟩ 1 1 [.int .u8 0] rfl rfl ?c1 ?c2 ?c6 ?c3 ?c4 ?c5 _ rfl ?_))
    case c0 => exact World.ownsRow.alloc (HROWD.out nq) _
    case c1 =>
      intro j u hj
      cases j with
      | zero =>
        have e : (⟨w.heap.size, 0, none⟩ : Addr).add 0 = ⟨w.heap.size, 0, none⟩ := rfl
        rw [e]
        exact ((Box.new (w.drewN nq) #[.int .u8 0] 5).cell 0).trans (by simpa using hj)
      | succ j => simp at hj
    case c2 => intro u hu; rw [List.mem_singleton.1 hu]; rfl
    case c6 => omega
    case c3 => unfold maxLen; omega
    case c4 => omega
    case c5 => simp; omega
    intro g cap w' hrow' hgrow hat hglt
    have hgl : base ≤ g := (World.ownsRow.lt hrow' g rfl).1
    have hga : w.grownBy ((w.drewN nq).alloc (.cells #[.int .u8 0] 5)) none := grown_alloc (grown_drewN (grown_refl _ _) nq) _
    have hbox1 := (HBOX.out.kept hga (by simp)).kept hgrow HNOWN.out
    have k0' : w'.cell? ⟨gw, 0, none⟩ = some (.slice a n cp) := hbox1.cell 0
    have y0' : w'.frozen? ⟨gw, 0, none⟩ = false := hbox1.fz 0
    obtain ⟨wx, hwx⟩ : ∃ wx, w'.setCell ⟨gw, 0, none⟩ (.slice (some ⟨g, 0, none⟩) (n + 1) cap) = wx := ⟨_, rfl⟩
    have hset := grown_set w' gw 0 (.slice (some ⟨g, 0, none⟩) (n + 1) cap)
    have hbx : Box wx gw #[.slice (some ⟨g, 0, none⟩) (n + 1) cap, .int .i64 m] 85 := by rw [← hwx]; exact hbox1.set 0 _
    rw [hwx] at hset
    have hrx := World.ownsRow.kept hrow' hset (.inr (fun e => by
      have e' : g = gw := by simpa [Value.ownBlock] using e
      omega))
    have hwrote : Wrote w wx gw (.slice a n cp) (.slice (some ⟨g, 0, none⟩) (n + 1) cap) := by
      refine ⟨((Kp.ofNone hga).trans (Kp.of hgrow) (fun b hb => .inl (.inr hb.symm))).trans (Kp.of hset) (fun b hb => .inl (.inl (by injection hb))), fun q hq => ?_⟩
      have e' : g = q := by simpa [Value.ownBlock] using hq
      subst e'
      rcases hat with h1 | h1
      · exact .inl h1
      · exact .inr (by rw [h1]; exact Nat.le_succ _)
    have hxs : (pack L).map byteV ++ [.int .u8 0] = (pack (wholeB L) ++ [byteOf (restB L)]).map byteV := by
      rw [List.map_append, HPK.out]
      congr 1
      show [Value.int .u8 0] = [byteV (byteOf (restB L))]
      unfold byteV
      rw [HX.out, HX0.out]
      rfl
    rw [hxs] at hrx
    have cx : wx.cell? ⟨g, q, none⟩ = some (.int .u8 x) := by
      have h1 := World.ownsRow.cellAt hrx q (by have := HNQ.out; omega)
      rw [h1, List.map_append, List.getElem?_append_right (by rw [List.length_map, packWhole_length, HM.out, HQ.out]; exact Nat.le_refl _), List.length_map, packWhole_length, HM.out, HQ.out, Nat.sub_self]
      show some (byteV (byteOf (restB L))) = _
      unfold byteV
      rw [HX.out]
    have fx : wx.frozen? ⟨g, q, none⟩ = false := World.ownsRow.frozenAt hrx q
    have hlt1 : (q : Int) < (n : Int) + 1 := by have := HNQ.out; omega
    have kx0 : wx.cell? ⟨gw, 0, none⟩ = some (.slice (some ⟨g, 0, none⟩) (n + 1) cap) := hbx.cell 0
    have kx1 : wx.cell? ⟨gw, 1, none⟩ = some (.int .i64 m) := hbx.cell 1
    have yx1 : wx.frozen? ⟨gw, 1, none⟩ = false := hbx.fz 1
    have HDONE : Hid (∀ k, WPost w gw base (.slice a n cp) L [c] (.returned (.tuple #[])) (((wx.drewN k).setCell ⟨g, q, none⟩ (.int .u8 ((byteOf (restB L ++ [c])).toNat : Int))).setCell ⟨gw, 1, none⟩ (.int .i64 ((m : Int) + 1)))) := by
      intro k
      have hnq1 : n + 1 = q + 1 := by rw [HNQ.out]
      have hd := wr_done (w := w) (wx := wx.drewN k) (gw := gw) (base := base) (g := g) (cap := cap) (v := .slice a n cp) (L := L) c hlt (by rw [HM.out, HQ.out, ← hnq1]; exact hbx) (by rw [HM.out, HQ.out, ← hnq1]; exact hrx)
        (by rw [HM.out, HQ.out, ← hnq1]; exact hwrote.trans ⟨Kp.ofNone (grown_drewN (grown_refl _ _) k), fun _ hq => .inl hq⟩)
      rw [HM.out, HQ.out] at hd
      exact hd
    have HWX : Hid (w'.setCell ⟨gw, 0, none⟩ (.slice (some ⟨g, 0, none⟩) (n + 1) cap) = wx) := hwx
    clear k0 k1 y0 y1 hwx hset hbx hrx hwrote hxs hrow' hgrow hbox1 hga
    go_upto_region 2 with fail
    rw [HWX.out]
    clear HWX k0' y0'
    go_region
    go_wp2
    have hd := HDONE.out 1
    rw [HV.out]
    exact bodyPost_end (v := .tuple #[]) (by simp [results, Tryz.results56, go_sem]) rfl hd
  · have tz : ((m : Int) == 8 * (n : Int)) = false := by simp; omega
    have hne : restB L ≠ [] := fun e => by have := congrArg List.length e; rw [restB_length, hm] at this; simp at this; omega
    have hpk : pack L = pack (wholeB L) ++ [byteOf (restB L)] := by rw [pack_split, pack_short _ (by rw [restB_length]; omega) hne]
    obtain ⟨g, cap, hv, hbg, hgl⟩ := World.ownsRow.form hrow (by omega)
    injection hv with e1 e2 e3
    subst e1 e3
    have hn1 : n = q + 1 := by omega
    have cx : w.cell? ⟨g, q, none⟩ = some (.int .u8 x) := by
      have h1 := World.ownsRow.cellAt hrow q (by omega)
      rw [h1, hpk, List.map_append, List.getElem?_append_right (by rw [List.length_map, packWhole_length, hm, hq]; omega), List.length_map, packWhole_length, hm, hq, Nat.sub_self]
      show some (byteV (byteOf (restB L))) = _
      unfold byteV
      rw [hx]
    have fx : w.frozen? ⟨g, q, none⟩ = false := World.ownsRow.frozenAt hrow q
    have hlt1 : (q : Int) < (n : Int) := by omega
    have HV : Hid (bits .or .u8 (x : Int) (wrap64 ((c.toNat : Int) * 2 ^ (7 - s)) % 256) = ((byteOf (restB L ++ [c])).toNat : Int)) := or_written L c x s (by rw [restB_length, hm]; exact hs) hs8 hx
    have HDONE : Hid (∀ k, WPost w gw base (.slice (some ⟨g, 0, none⟩) n cp) L [c] (.returned (.tuple #[])) (((w.drewN k).setCell ⟨g, q, none⟩ (.int .u8 ((byteOf (restB L ++ [c])).toNat : Int))).setCell ⟨gw, 1, none⟩ (.int .i64 ((m : Int) + 1)))) := by
      intro k
      have hd := wr_done (w := w) (wx := w.drewN k) (gw := gw) (base := base) (g := g) (cap := cp) (v := .slice (some ⟨g, 0, none⟩) n cp) (L := L) c hlt (by rw [hm, hq, ← hn1]; exact hbox) (by rw [hm, hq, ← hn1, ← hpk]; exact hrow) (by rw [hm, hq, ← hn1]; exact ⟨Kp.ofNone (grown_drewN (grown_refl _ _) k), fun _ hq => .inl hq⟩)
      rw [hm, hq] at hd
      exact hd
    clear hq hs hx hn hn1 hm hpk hne h
    go_enter Tryz.func56, Tryz.ntmps56
    go_upto_region 0 with fail
    go_quiet (fail)
    go_upto_region 2 with fail
    go_region
    go_wp2
    have hd := HDONE.out (nq + 1)
    rw [HV.out]
    exact bodyPost_end (v := .tuple #[]) (by simp [results, Tryz.results56, go_sem]) rfl hd
end Go.Proofs.YtncmgnmcggkhnaaGreat
