import Derived.Test.YtncmgnmcggkhnaaG23
import Derived.Test.YtncmgnmcggkhnaaG20
import Derived.Deep.AppendLies
import Derived.Deep.DeepCutAuto
import Derived.Deep.CutBlock
import Derived.BigRegion
import Derived.BigQuiet
import Derived.Deep.LoopGhost
namespace Go.Proofs.Ytncmgnmcggkhnaa
open Go.RowKit

/-! ### one bit more -/

/-- the whole bytes, and the bits behind them -/
def wholeB (L : List Bool) : List Bool := L.take (8 * (L.length / 8))
def restB (L : List Bool) : List Bool := L.drop (8 * (L.length / 8))

theorem whole_rest (L : List Bool) : wholeB L ++ restB L = L := List.take_append_drop _ _
theorem wholeB_length (L : List Bool) : (wholeB L).length = 8 * (L.length / 8) := by unfold wholeB; rw [List.length_take]; omega
theorem restB_length (L : List Bool) : (restB L).length = L.length % 8 := by unfold restB; rw [List.length_drop]; omega

theorem pack_short (l : List Bool) (h : l.length ≤ 8) (hne : l ≠ []) : pack l = [byteOf l] := by
  rw [pack_cons l hne, List.take_of_length_le h, List.drop_of_length_le h, pack_nil]

theorem pack_split (L : List Bool) : pack L = pack (wholeB L) ++ pack (restB L) := by
  conv => lhs; rw [← whole_rest L]
  exact pack_append _ _ (by rw [wholeB_length]; omega)

theorem pack_snoc (L : List Bool) (c : Bool) : pack (L ++ [c]) = pack (wholeB L) ++ [byteOf (restB L ++ [c])] := by
  conv => lhs; rw [← whole_rest L, List.append_assoc]
  rw [pack_append _ _ (by rw [wholeB_length]; omega), pack_short (restB L ++ [c]) (by rw [List.length_append, restB_length, List.length_singleton]; omega) (by simp)]

theorem packWhole_length (L : List Bool) : (pack (wholeB L)).length = L.length / 8 := by rw [pack_length, wholeB_length]; omega

theorem byteOf_nil : byteOf [] = 0 := by decide

theorem byteOf_toNat (l : List Bool) (h : l.length ≤ 8) : (byteOf l).toNat = val l * 2 ^ (8 - l.length) := by
  have hl : (l ++ List.replicate (8 - l.length) false).length = 8 := by simp; omega
  have hlt := val_lt (l ++ List.replicate (8 - l.length) false)
  rw [hl] at hlt
  unfold byteOf
  have : (UInt8.ofNat (val (l ++ List.replicate (8 - l.length) false))).toNat = val (l ++ List.replicate (8 - l.length) false) := by
    rw [UInt8.toNat_ofNat']; exact Nat.mod_eq_of_lt hlt
  rw [this, val_append, val_false, List.length_replicate, Nat.add_zero]

/-- the byte that is begun, with one bit more -/
theorem byteOf_snoc (l : List Bool) (c : Bool) (h : l.length < 8) : (byteOf (l ++ [c])).toNat = (byteOf l).toNat ||| (c.toNat <<< (7 - l.length)) := by
  rw [byteOf_toNat _ (by rw [List.length_append, List.length_singleton]; omega), byteOf_toNat _ (by omega), val_snoc, List.length_append, List.length_singleton, show 8 - (l.length + 1) = 7 - l.length by omega,
    show 8 - l.length = (7 - l.length) + 1 by omega, Nat.pow_succ, Nat.shiftLeft_eq]
  generalize 7 - l.length = s
  have hc : c.toNat * 2 ^ s < 2 ^ (s + 1) := by
    have : c.toNat ≤ 1 := Bool.toNat_le c
    have h2 := Nat.mul_le_mul_right (2 ^ s) this
    have := Nat.two_pow_pos s
    rw [Nat.pow_succ]
    omega
  rw [← Nat.pow_succ, Nat.mul_comm (val l), ← Nat.two_pow_add_eq_or_of_lt hc, Nat.pow_succ, Nat.add_mul, Nat.mul_comm (2 * val l), Nat.mul_assoc]

theorem or_byte (l : List Bool) (c : Bool) (h : l.length < 8) : c.toNat <<< (7 - l.length) < 256 := by
  have : c.toNat ≤ 1 := Bool.toNat_le c
  have h2 : 2 ^ (7 - l.length) ≤ 2 ^ 7 := Nat.pow_le_pow_right (by decide) (by omega)
  rw [Nat.shiftLeft_eq]
  have h3 := Nat.mul_le_mul this h2
  omega

def byteV (b : UInt8) : Value := .int .u8 b.toNat
end Go.Proofs.Ytncmgnmcggkhnaa

namespace Go.Proofs.Ytncmgnmcggkhnaa
open Go.RowKit

theorem infoU8 : (Try.prog.info? 5).map (fun i => (i.zero, i.size, i.bytes)) = some (some (.int .u8 0), 1, 1) := by kernel_rfl

/-- a writer in memory: `L` was written; its bytes lie in a block of their own, from `base` on -/
structure WrS (w : World) (gw base : Nat) (v : Value) (L : List Bool) : Prop where
  box : Box w gw #[v, .int .i64 L.length] 125
  row : w.ownsRow base 5 1 v ((L.length + 7) / 8) ((pack L).map byteV)
  lt : gw < base

/-- what writing changes -/
structure Wrote (w w' : World) (gw : Nat) (v v' : Value) : Prop where
  kp : Kp w w' (fun b => b = gw ∨ v.ownBlock = some b)
  own : ∀ q, v'.ownBlock = some q → v.ownBlock = some q ∨ w.heap.size ≤ q

theorem Wrote.refl (w : World) (gw : Nat) (v : Value) : Wrote w w gw v v := ⟨Kp.refl _ _, fun _ h => .inl h⟩
theorem Wrote.trans {w w1 w2 : World} {gw : Nat} {v v1 v2 : Value} (h : Wrote w w1 gw v v1) (h1 : Wrote w1 w2 gw v1 v2) : Wrote w w2 gw v v2 := by
  refine ⟨h.kp.trans h1.kp (fun b hb => ?_), fun q hq => ?_⟩
  · rcases hb with hb | hb
    · exact .inl (.inl hb)
    · rcases h.own b hb with h2 | h2
      · exact .inl (.inr h2)
      · exact .inr h2
  · rcases h1.own q hq with h2 | h2
    · exact h.own q h2
    · exact .inr (Nat.le_trans h.kp.size h2)

def WPost (w : World) (gw base : Nat) (v : Value) (L B : List Bool) (e : Ending) (w' : World) : Prop :=
  e = .returned (.tuple #[]) ∧ ∃ v', WrS w' gw base v' (L ++ B) ∧ Wrote w w' gw v v'

theorem row_slice {w : World} {base t k n : Nat} {v : Value} {xs : List Value} (h : w.ownsRow base t k v n xs) : ∃ a c, v = .slice a n c := by
  rcases h.2 with ⟨rfl, rfl⟩ | ⟨g, cap, cur, rfl, _⟩
  · exact ⟨none, 0, rfl⟩
  · exact ⟨_, cap, rfl⟩

theorem bits_or_u8 (a b : Nat) (ha : a < 256) (hb : b < 256) : bits .or .u8 (a : Int) (b : Int) = ((a ||| b : Nat) : Int) := by
  have hx : a ||| b < 2 ^ 8 := Nat.or_lt_two_pow (by omega) (by omega)
  have e : (BitVec.ofInt 8 (a : Int) ||| BitVec.ofInt 8 (b : Int)).toNat = a ||| b := by
    rw [BitVec.toNat_or, BitVec.toNat_ofInt, BitVec.toNat_ofInt]
    congr 1 <;> omega
  show IntKind.wrap .u8 ((BitVec.ofInt 8 (a : Int) ||| BitVec.ofInt 8 (b : Int)).toNat : Int) = _
  rw [e, IntKind.wrap_u8]
  omega

theorem or_written (L : List Bool) (c : Bool) (x s : Nat) (hs : (restB L).length = s) (hs8 : s < 8) (hx : (byteOf (restB L)).toNat = x) :
    bits .or .u8 (x : Int) (wrap64 ((c.toNat : Int) * 2 ^ (7 - s)) % 256) = ((byteOf (restB L ++ [c])).toNat : Int) := by
  have h1 := byteOf_snoc (restB L) c (by omega)
  have h2 := or_byte (restB L) c (by omega)
  rw [hs] at h1 h2
  rw [hx] at h1
  have h3 : x < 256 := by rw [← hx]; exact UInt8.toNat_lt _
  have e : (c.toNat : Int) * 2 ^ (7 - s) = ((c.toNat <<< (7 - s) : Nat) : Int) := by rw [Nat.shiftLeft_eq, Int.natCast_mul]; simp
  have e2 : wrap64 ((c.toNat <<< (7 - s) : Nat) : Int) % 256 = ((c.toNat <<< (7 - s) : Nat) : Int) := by
    generalize c.toNat <<< (7 - s) = y at *
    unfold wrap64
    omega
  rw [e, e2, bits_or_u8 _ _ h3 h2, h1]

/-- the bit is in, and counted -/
theorem wr_done {w wx : World} {gw base g cap : Nat} {v : Value} {L : List Bool} (c : Bool) (hlt : gw < base) (hbox : Box wx gw #[.slice (some ⟨g, 0, none⟩) (L.length / 8 + 1) cap, .int .i64 L.length] 125)
    (hrow : wx.ownsRow base 5 1 (.slice (some ⟨g, 0, none⟩) (L.length / 8 + 1) cap) (L.length / 8 + 1) ((pack (wholeB L) ++ [byteOf (restB L)]).map byteV)) (hwr : Wrote w wx gw v (.slice (some ⟨g, 0, none⟩) (L.length / 8 + 1) cap)) :
    WPost w gw base v L [c] (.returned (.tuple #[])) ((wx.setCell ⟨g, L.length / 8, none⟩ (.int .u8 ((byteOf (restB L ++ [c])).toNat : Int))).setCell ⟨gw, 1, none⟩ (.int .i64 ((L.length + 1 : Nat) : Int))) := by
  have hg := World.ownsRow.lt hrow g rfl
  have h1 := (World.ownsRow.stored hrow (L.length / 8) (.int .u8 ((byteOf (restB L ++ [c])).toNat : Int))).1
  have hs1 := grown_set wx g (L.length / 8) (.int .u8 ((byteOf (restB L ++ [c])).toNat : Int))
  have hb1 := hbox.kept hs1 (fun e => by injection e with e; omega)
  have hb2 := hb1.set 1 (.int .i64 ((L.length + 1 : Nat) : Int))
  have hs2 := grown_set (wx.setCell ⟨g, L.length / 8, none⟩ (.int .u8 ((byteOf (restB L ++ [c])).toNat : Int))) gw 1 (.int .i64 ((L.length + 1 : Nat) : Int))
  have h2 := World.ownsRow.kept h1 hs2 (.inr (fun e => by have e' : g = gw := by simpa [Value.ownBlock] using e
                                                          omega))
  have hxs : ((pack (wholeB L) ++ [byteOf (restB L)]).map byteV).set (L.length / 8) (.int .u8 ((byteOf (restB L ++ [c])).toNat : Int)) = (pack (L ++ [c])).map byteV := by
    rw [pack_snoc, List.map_append, List.map_append, List.set_append_right _ _ (by rw [List.length_map, packWhole_length]; exact Nat.le_refl _), List.length_map, packWhole_length, Nat.sub_self]
    rfl
  rw [hxs] at h2
  have hlen : ((L ++ [c]).length + 7) / 8 = L.length / 8 + 1 := by rw [List.length_append, List.length_singleton]; omega
  refine ⟨rfl, .slice (some ⟨g, 0, none⟩) (L.length / 8 + 1) cap, ⟨?_, by rw [hlen]; exact h2, hlt⟩, hwr.trans ⟨?_, fun q hq => .inl hq⟩⟩
  · rw [List.length_append, List.length_singleton]
    exact hb2
  · exact Kp.trans (Kp.mono (Kp.of hs1) (fun b hb => .inl (.inr (by injection hb with hb; subst hb; rfl)))) (Kp.of hs2) (fun b hb => .inl (.inl (by injection hb)))

set_option maxHeartbeats 4000000 in
set_option maxRecDepth 20000 in
theorem qwbit (w : World) (gw base : Nat) (v : Value) (L : List Bool) (c : Bool) (h : WrS w gw base v L) (hb : base ≤ w.heap.size) (hL : L.length ≤ 1099511627776) :
    Calls Try.prog 100 #[.pointer (some ⟨gw, 0, none⟩), .int .i64 c.toNat] w (WPost w gw base v L [c]) := by
  obtain ⟨i0, hi, hz0, hz1, hz2⟩ := info_parts infoU8
  have HI : Hid _ := hi
  have HZ0 : Hid _ := hz0
  have HZ1 : Hid _ := hz1
  have HZ2 : Hid _ := hz2
  clear hi hz0 hz1 hz2
  obtain ⟨a, cp, rfl⟩ := row_slice h.row
  obtain ⟨n, hn⟩ : ∃ n, (L.length + 7) / 8 = n := ⟨_, rfl⟩
  obtain ⟨m, hm⟩ : ∃ m, L.length = m := ⟨_, rfl⟩
  have hbox := h.box
  have hrow := h.row
  have hlt := h.lt
  rw [hn, hm] at hbox
  rw [hn] at hrow
  rw [hn]
  rw [hm] at hn hL
  have HM : Hid (L.length = m) := hm
  have k0 : w.cell? ⟨gw, 0, none⟩ = some (.slice a n cp) := hbox.cell 0
  have k1 : w.cell? ⟨gw, 1, none⟩ = some (.int .i64 m) := hbox.cell 1
  have y0 := hbox.fz 0
  have y1 := hbox.fz 1
  obtain ⟨q, hq⟩ : ∃ q, m / 8 = q := ⟨_, rfl⟩
  obtain ⟨s, hs⟩ : ∃ s, m % 8 = s := ⟨_, rfl⟩
  have hqz : (m : Int) / 8 = (q : Int) := by omega
  have hsz : (m : Int) % 8 = (s : Int) := by omega
  have hs8 : s < 8 := by omega
  have hn9 : n ≤ 1099511627776 := by omega
  have hq9 : q ≤ 1099511627776 := by omega
  have HQ : Hid (m / 8 = q) := hq
  have HS : Hid (m % 8 = s) := hs
  obtain ⟨x, hx⟩ : ∃ x, (byteOf (restB L)).toNat = x := ⟨_, rfl⟩
  have HX : Hid ((byteOf (restB L)).toNat = x) := hx
  have hzz : m % 8 = 0 ∨ m % 8 ≠ 0 := by omega
  rcases hzz with hz | hz
  · have tz : ((m : Int) == 8 * (n : Int)) = true := by simp; omega
    have hnq : n = q := by omega
    have hrest : restB L = [] := List.eq_nil_of_length_eq_zero (by rw [restB_length, hm]; exact hz)
    have hpk : pack L = pack (wholeB L) := by rw [pack_split, hrest, pack_nil, List.append_nil]
    have hx0 : x = 0 := by rw [← hx, hrest]; decide
    have HNQ : Hid (n = q) := hnq
    have HPK : Hid (pack L = pack (wholeB L)) := hpk
    have HX0 : Hid (x = 0) := hx0
    have HBOX : Hid (Box w gw #[.slice a n cp, .int .i64 m] 125) := hbox
    have hgw : gw < w.heap.size := hbox.lt
    have HROWD : Hid (∀ k, (w.drewN k).ownsRow base 5 1 (.slice a n cp) n ((pack L).map byteV)) := fun k => hrow
    have HNOWN : Hid (some gw ≠ (Value.slice a n cp).ownBlock) := fun e => by have := (World.ownsRow.lt hrow gw e.symm).1; omega
    have HV : Hid (bits .or .u8 (x : Int) (wrap64 ((c.toNat : Int) * 2 ^ (7 - s)) % 256) = ((byteOf (restB L ++ [c])).toNat : Int)) := or_written L c x s (by rw [restB_length, hm]; exact hs) hs8 hx
    clear hnq hpk hx0 hq hs hx hn hm hrest h hbox hrow
    go_enter Try.func100, Try.ntmps100
    go_upto_region 0 with fail
    go_quiet (fail)
    go_wp2_with (first
      | (at_builtin; refine wpList_append_lies _ rfl _ _ 59 rfl base 5 i0 (.int .u8 0) 1 1 Try.underlying59 HI.out HZ0.out HZ1.out HZ2.out rfl (by decide) (.slice a n cp) n ((pack L).map byteV) rfl ?c0 ⟨w.heap.size, 0, none⟩ 1 1 [.int .u8 0] rfl rfl ?c1 ?c2 ?c6 ?c3 ?c4 ?c5 _ rfl ?_))
    case c0 => exact World.ownsRow.alloc (HROWD.out nq) _
    case c1 =>
      intro j u hj
      cases j with
      | zero =>
        have e : (⟨w.heap.size, 0, none⟩ : Addr).add 0 = ⟨w.heap.size, 0, none⟩ := rfl
        rw [e]
        exact ((Box.new (w.drewN nq) #[.int .u8 0] 5).cell 0).trans (by simpa using hj)
      | succ j => simp at hj
    case c2 => intro u hu; rw [List.mem_singleton.1 hu]; rfl
    case c6 => omega
    case c3 => unfold maxLen; omega
    case c4 => omega
    case c5 => simp; omega
    intro g cap w' hrow' hgrow hat hglt
    have hgl : base ≤ g := (World.ownsRow.lt hrow' g rfl).1
    have hga : w.grownBy ((w.drewN nq).alloc (.cells #[.int .u8 0] 5)) none := grown_alloc (grown_drewN (grown_refl _ _) nq) _
    have hbox1 := (HBOX.out.kept hga (by simp)).kept hgrow HNOWN.out
    have k0' : w'.cell? ⟨gw, 0, none⟩ = some (.slice a n cp) := hbox1.cell 0
    have y0' : w'.frozen? ⟨gw, 0, none⟩ = false := hbox1.fz 0
    obtain ⟨wx, hwx⟩ : ∃ wx, w'.setCell ⟨gw, 0, none⟩ (.slice (some ⟨g, 0, none⟩) (n + 1) cap) = wx := ⟨_, rfl⟩
    have hset := grown_set w' gw 0 (.slice (some ⟨g, 0, none⟩) (n + 1) cap)
    have hbx : Box wx gw #[.slice (some ⟨g, 0, none⟩) (n + 1) cap, .int .i64 m] 125 := by rw [← hwx]; exact hbox1.set 0 _
    rw [hwx] at hset
    have hrx := World.ownsRow.kept hrow' hset (.inr (fun e => by
      have e' : g = gw := by simpa [Value.ownBlock] using e
      omega))
    have hwrote : Wrote w wx gw (.slice a n cp) (.slice (some ⟨g, 0, none⟩) (n + 1) cap) := by
      refine ⟨((Kp.ofNone hga).trans (Kp.of hgrow) (fun b hb => .inl (.inr hb.symm))).trans (Kp.of hset) (fun b hb => .inl (.inl (by injection hb))), fun q hq => ?_⟩
      have e' : g = q := by simpa [Value.ownBlock] using hq
      subst e'
      rcases hat with h1 | h1
      · exact .inl h1
      · exact .inr (by rw [h1]; exact Nat.le_succ _)
    have hxs : (pack L).map byteV ++ [.int .u8 0] = (pack (wholeB L) ++ [byteOf (restB L)]).map byteV := by
      rw [List.map_append, HPK.out]
      congr 1
      show [Value.int .u8 0] = [byteV (byteOf (restB L))]
      unfold byteV
      rw [HX.out, HX0.out]
      rfl
    rw [hxs] at hrx
    have cx : wx.cell? ⟨g, q, none⟩ = some (.int .u8 x) := by
      have h1 := World.ownsRow.cellAt hrx q (by have := HNQ.out; omega)
      rw [h1, List.map_append, List.getElem?_append_right (by rw [List.length_map, packWhole_length, HM.out, HQ.out]; exact Nat.le_refl _), List.length_map, packWhole_length, HM.out, HQ.out, Nat.sub_self]
      show some (byteV (byteOf (restB L))) = _
      unfold byteV
      rw [HX.out]
    have fx : wx.frozen? ⟨g, q, none⟩ = false := World.ownsRow.frozenAt hrx q
    have hlt1 : (q : Int) < (n : Int) + 1 := by have := HNQ.out; omega
    have kx0 : wx.cell? ⟨gw, 0, none⟩ = some (.slice (some ⟨g, 0, none⟩) (n + 1) cap) := hbx.cell 0
    have kx1 : wx.cell? ⟨gw, 1, none⟩ = some (.int .i64 m) := hbx.cell 1
    have yx1 : wx.frozen? ⟨gw, 1, none⟩ = false := hbx.fz 1
    have HDONE : Hid (∀ k, WPost w gw base (.slice a n cp) L [c] (.returned (.tuple #[])) (((wx.drewN k).setCell ⟨g, q, none⟩ (.int .u8 ((byteOf (restB L ++ [c])).toNat : Int))).setCell ⟨gw, 1, none⟩ (.int .i64 ((m : Int) + 1)))) := by
      intro k
      have hnq1 : n + 1 = q + 1 := by rw [HNQ.out]
      have hd := wr_done (w := w) (wx := wx.drewN k) (gw := gw) (base := base) (g := g) (cap := cap) (v := .slice a n cp) (L := L) c hlt (by rw [HM.out, HQ.out, ← hnq1]; exact hbx) (by rw [HM.out, HQ.out, ← hnq1]; exact hrx)
        (by rw [HM.out, HQ.out, ← hnq1]; exact hwrote.trans ⟨Kp.ofNone (grown_drewN (grown_refl _ _) k), fun _ hq => .inl hq⟩)
      rw [HM.out, HQ.out] at hd
      exact hd
    have HWX : Hid (w'.setCell ⟨gw, 0, none⟩ (.slice (some ⟨g, 0, none⟩) (n + 1) cap) = wx) := hwx
    clear k0 k1 y0 y1 hwx hset hbx hrx hwrote hxs hrow' hgrow hbox1 hga
    go_upto_region 2 with fail
    rw [HWX.out]
    clear HWX k0' y0'
    go_region
    go_wp2
    have hd := HDONE.out 1
    rw [HV.out]
    exact bodyPost_end (v := .tuple #[]) (by simp [results, Try.results100, go_sem]) rfl hd
  · have tz : ((m : Int) == 8 * (n : Int)) = false := by simp; omega
    have hne : restB L ≠ [] := fun e => by have := congrArg List.length e; rw [restB_length, hm] at this; simp at this; omega
    have hpk : pack L = pack (wholeB L) ++ [byteOf (restB L)] := by rw [pack_split, pack_short _ (by rw [restB_length]; omega) hne]
    obtain ⟨g, cap, hv, hbg, hgl⟩ := World.ownsRow.form hrow (by omega)
    injection hv with e1 e2 e3
    subst e1 e3
    have hn1 : n = q + 1 := by omega
    have cx : w.cell? ⟨g, q, none⟩ = some (.int .u8 x) := by
      have h1 := World.ownsRow.cellAt hrow q (by omega)
      rw [h1, hpk, List.map_append, List.getElem?_append_right (by rw [List.length_map, packWhole_length, hm, hq]; omega), List.length_map, packWhole_length, hm, hq, Nat.sub_self]
      show some (byteV (byteOf (restB L))) = _
      unfold byteV
      rw [hx]
    have fx : w.frozen? ⟨g, q, none⟩ = false := World.ownsRow.frozenAt hrow q
    have hlt1 : (q : Int) < (n : Int) := by omega
    have HV : Hid (bits .or .u8 (x : Int) (wrap64 ((c.toNat : Int) * 2 ^ (7 - s)) % 256) = ((byteOf (restB L ++ [c])).toNat : Int)) := or_written L c x s (by rw [restB_length, hm]; exact hs) hs8 hx
    have HDONE : Hid (∀ k, WPost w gw base (.slice (some ⟨g, 0, none⟩) n cp) L [c] (.returned (.tuple #[])) (((w.drewN k).setCell ⟨g, q, none⟩ (.int .u8 ((byteOf (restB L ++ [c])).toNat : Int))).setCell ⟨gw, 1, none⟩ (.int .i64 ((m : Int) + 1)))) := by
      intro k
      have hd := wr_done (w := w) (wx := w.drewN k) (gw := gw) (base := base) (g := g) (cap := cp) (v := .slice (some ⟨g, 0, none⟩) n cp) (L := L) c hlt (by rw [hm, hq, ← hn1]; exact hbox) (by rw [hm, hq, ← hn1, ← hpk]; exact hrow) (by rw [hm, hq, ← hn1]; exact ⟨Kp.ofNone (grown_drewN (grown_refl _ _) k), fun _ hq => .inl hq⟩)
      rw [hm, hq] at hd
      exact hd
    clear hq hs hx hn hn1 hm hpk hne h
    go_enter Try.func100, Try.ntmps100
    go_upto_region 0 with fail
    go_quiet (fail)
    go_upto_region 2 with fail
    go_region
    go_wp2
    have hd := HDONE.out (nq + 1)
    rw [HV.out]
    exact bodyPost_end (v := .tuple #[]) (by simp [results, Try.results100, go_sem]) rfl hd
end Go.Proofs.Ytncmgnmcggkhnaa

namespace Go.Proofs.Ytncmgnmcggkhnaa
open Go.RowKit

theorem bits_and_one (x : Int) : bits .and .i64 x 1 = x % 2 := by
  have h2 : (BitVec.ofInt 64 (1 : Int)).toNat = 1 := by decide
  show IntKind.i64.wrap ((BitVec.ofInt 64 x &&& BitVec.ofInt 64 (1 : Int)).toNat : Int) = _
  rw [BitVec.toNat_and, h2, Nat.and_one_is_mod, BitVec.toNat_ofInt]
  have e : (((x % 2 ^ 64).toNat % 2 : Nat) : Int) = x % 2 := by omega
  have e2 : IntKind.i64.wrap (((x % 2 ^ 64).toNat % 2 : Nat) : Int) = (((x % 2 ^ 64).toNat % 2 : Nat) : Int) := by
    rw [IntKind.wrap_i64]
    omega
  exact e2.trans e

theorem shift_far (v : Int) (j : Nat) (hv : -9223372036854775808 ≤ v ∧ v ≤ 9223372036854775807) : v / 2 ^ min j 64 = v / 2 ^ j := by
  rcases Nat.lt_or_ge 64 j with h | h
  · rw [Nat.min_eq_right (by omega)]
    obtain ⟨k, rfl⟩ : ∃ k, j = 64 + k := ⟨j - 64, by omega⟩
    have hk : (1 : Int) ≤ 2 ^ k := by
      have := Nat.two_pow_pos k
      have e : (2 : Int) ^ k = ((2 ^ k : Nat) : Int) := by simp
      omega
    rw [Int.pow_add, ← Int.ediv_ediv_of_nonneg (by decide)]
    by_cases h0 : 0 ≤ v
    · rw [Int.ediv_eq_zero_of_lt h0 (by omega), Int.zero_ediv]
    · have e1 : v / 2 ^ 64 = -1 := by omega
      rw [e1]
      exact (Int.ediv_eq_neg_one_of_neg_of_le (by omega) (by omega)).symm
  · rw [Nat.min_eq_left h]

theorem bit_of (v : Int) (j : Nat) (hv : -9223372036854775808 ≤ v ∧ v ≤ 9223372036854775807) : bits .and .i64 (v / 2 ^ min j 64) 1 = ((decide (v / 2 ^ j % 2 = 1)).toNat : Int) := by
  rw [bits_and_one, shift_far v j hv]
  rcases Int.emod_two_eq (v / 2 ^ j) with h | h <;> simp [h]

set_option maxHeartbeats 1000000 in
set_option maxRecDepth 20000 in
theorem qwnum (w : World) (gw base : Nat) (va : Value) (L : List Bool) (v : Int) (n : Nat) (h : WrS w gw base va L) (hb : base ≤ w.heap.size) (hL : L.length + n ≤ 1099511627776) (hn : n ≤ 128) (hv : -9223372036854775808 ≤ v ∧ v ≤ 9223372036854775807) :
    Calls Try.prog 72 #[.pointer (some ⟨gw, 0, none⟩), .int .i64 v, .int .i64 n] w (WPost w gw base va L (numBits v n)) := by
  go_enter Try.func72, Try.ntmps72
  go_wp2_with fail
  go_loopg [6] n (fun gk t6 wr => t6 = .int .i64 ((gk : Int) - 1) ∧ gk ≤ n ∧ ∃ D v', numBits v n = D ++ numBits v gk ∧ WrS wr gw base v' (L ++ D) ∧ Wrote w wr gw va v')
  case atStart => exact ⟨rfl, Nat.le_refl _, [], va, rfl, by rw [List.append_nil]; exact h, Wrote.refl _ _ _⟩
  case round =>
    obtain ⟨rfl, hgk, D, v', hD, hW, hwr⟩ := hrel
    have hDl : D.length + gk = n := by have := congrArg List.length hD; rw [List.length_append, numBits_length, numBits_length] at this; omega
    by_cases hg : 1 ≤ gk
    · obtain ⟨j, rfl⟩ : ∃ j, gk = j + 1 := ⟨gk - 1, by omega⟩
      have hbw := Nat.le_trans hb hwr.kp.size
      have HB := qwbit wr gw base v' (L ++ D) (decide (v / 2 ^ j % 2 = 1)) hW hbw (by rw [List.length_append]; omega)
      have HD : Hid (numBits v n = D ++ numBits v (j + 1)) := hD
      clear hD h
      have hbit := bit_of v j hv
      go_wp2_with (go_at_call 100; refine HB.mono ?_; rintro e w2 ⟨rfl, v2, hW2, hwr2⟩)
      go_roundg j
      case measure => omega
      case rel =>
        refine ⟨by go_num, by omega, D ++ [decide (v / 2 ^ j % 2 = 1)], v2, ?_, by rw [← List.append_assoc]; exact hW2, hwr.trans hwr2⟩
        rw [HD.out, List.append_assoc]
        rfl
    · have hg0 : gk = 0 := by omega
      subst hg0
      have hD0 : numBits v n = D := by rw [hD]; exact List.append_nil _
      have hpost : WPost w gw base va L (numBits v n) (.returned (.tuple #[])) wr := ⟨rfl, v', by rw [hD0]; exact hW, hwr⟩
      clear hD hD0 hW hwr h
      go_wp2
      exact bodyPost_end (v := .tuple #[]) (by simp [results, Try.results72, go_sem]) rfl hpost

set_option maxHeartbeats 1000000 in
set_option maxRecDepth 20000 in
theorem qwzeros (w : World) (gw base : Nat) (va : Value) (L : List Bool) (n : Nat) (h : WrS w gw base va L) (hb : base ≤ w.heap.size) (hL : L.length + n + 1 ≤ 1099511627776) :
    Calls Try.prog 118 #[.pointer (some ⟨gw, 0, none⟩), .int .i64 n] w (WPost w gw base va L (zerosBits n)) := by
  go_enter Try.func118, Try.ntmps118
  go_wp2_with fail
  go_loopg [5] n (fun gk t5 wr => ∃ k : Nat, gk + k = n ∧ t5 = .int .i64 k ∧ ∃ v', WrS wr gw base v' (L ++ List.replicate k false) ∧ Wrote w wr gw va v')
  case atStart => exact ⟨0, rfl, rfl, va, by simpa using h, Wrote.refl _ _ _⟩
  case round =>
    obtain ⟨k, hgk, rfl, v', hW, hwr⟩ := hrel
    have hbw := Nat.le_trans hb hwr.kp.size
    by_cases hg : k < n
    · have HB : Calls _ _ #[_, .int .i64 0] _ _ := qwbit wr gw base v' (L ++ List.replicate k false) false hW hbw (by rw [List.length_append, List.length_replicate]; omega)
      have tk : decide ((k : Int) < (n : Int)) = true := decide_eq_true (by omega)
      go_wp2_with (go_at_call 100; refine HB.mono ?_; rintro e w2 ⟨rfl, v2, hW2, hwr2⟩)
      go_roundg (gk - 1)
      case measure => omega
      case rel =>
        refine ⟨k + 1, by omega, by go_num, v2, ?_, hwr.trans hwr2⟩
        rw [List.replicate_succ', ← List.append_assoc]
        exact hW2
    · have hkn : k = n := by omega
      subst hkn
      have HB : Calls _ _ #[_, .int .i64 1] _ _ := qwbit wr gw base v' (L ++ List.replicate k false) true hW hbw (by rw [List.length_append, List.length_replicate]; omega)
      clear h hgk
      go_wp2_with (go_at_call 100; refine HB.mono ?_; rintro e w2 ⟨rfl, v2, hW2, hwr2⟩)
      exact bodyPost_end (v := .tuple #[]) (by simp [results, Try.results118, go_sem]) rfl ⟨rfl, v2, by unfold zerosBits; rw [← List.append_assoc]; exact hW2, hwr.trans hwr2⟩

theorem qwalign (w : World) (gw base : Nat) (va : Value) (L : List Bool) (h : WrS w gw base va L) (hL : L.length ≤ 1099511627776) :
    Calls Try.prog 77 #[.pointer (some ⟨gw, 0, none⟩)] w (WPost w gw base va L (List.replicate (padLen L.length) false)) := by
  obtain ⟨a, cp, rfl⟩ := row_slice h.row
  obtain ⟨n, hn⟩ : ∃ n, (L.length + 7) / 8 = n := ⟨_, rfl⟩
  have hbox := h.box
  have hrow := h.row
  rw [hn] at hbox hrow ⊢
  have k0 : w.cell? ⟨gw, 0, none⟩ = some (.slice a n cp) := hbox.cell 0
  have k1 : w.cell? ⟨gw, 1, none⟩ = some (.int .i64 L.length) := hbox.cell 1
  have y1 := hbox.fz 1
  have hn9 : n ≤ 1099511627776 := by omega
  have hs := grown_set w gw 1 (.int .i64 (8 * (n : Int)))
  have hb1 := hbox.set 1 (.int .i64 (8 * (n : Int)))
  have hlen : (L ++ List.replicate (padLen L.length) false).length = 8 * n := by rw [List.length_append, List.length_replicate]; unfold padLen; omega
  have hpost : WPost w gw base (.slice a n cp) L (List.replicate (padLen L.length) false) (.returned (.tuple #[])) (w.setCell ⟨gw, 1, none⟩ (.int .i64 (8 * (n : Int)))) := by
    refine ⟨rfl, .slice a n cp, ⟨?_, ?_, h.lt⟩, ⟨Kp.mono (Kp.of hs) (fun b hb => .inl (.inl (by injection hb))), fun _ hq => .inl hq⟩⟩
    · rw [hlen]
      exact hb1
    · rw [hlen, show (8 * n + 7) / 8 = n by omega, pack_pad]
      refine World.ownsRow.kept hrow hs ?_
      cases hq : (Value.slice a n cp).ownBlock with
      | none => exact .inl rfl
      | some q => exact .inr (fun e => by injection e with e; have := (World.ownsRow.lt hrow q hq).1; have := h.lt; omega)
  clear hb1 hs hlen hn h hbox hrow
  go_enter Try.func77, Try.ntmps77
  go_wp2
  exact bodyPost_end (v := .tuple #[]) (by simp [results, Try.results77, go_sem]) rfl hpost

theorem qwbits (w : World) (gw base : Nat) (va : Value) (L : List Bool) (h : WrS w gw base va L) :
    Calls Try.prog 105 #[.pointer (some ⟨gw, 0, none⟩)] w fun e w' => e = .returned (.int .i64 L.length) ∧ w' = w := by
  have k1 : w.cell? ⟨gw, 1, none⟩ = some (.int .i64 L.length) := h.box.cell 1
  clear h
  go_enter Try.func105, Try.ntmps105
  go_wp2
  exact bodyPost_ret (v := .int .i64 L.length) (by simp [results, Try.results105, go_sem]) rfl ⟨rfl, rfl⟩

theorem str_pack (l : List UInt8) : strOfNums (l.map fun x => (x.toNat : Int)) = ⟨l.toArray⟩ := by
  unfold strOfNums
  congr 1
  congr 1
  rw [List.map_map]
  conv => rhs; rw [← List.map_id l]
  refine List.map_congr_left (fun x _ => ?_)
  show UInt8.ofNat ((x.toNat : Int)).toNat = x
  rw [Int.toNat_natCast]
  simp

/-- the bytes that were written -/
theorem qwstring (w : World) (gw base : Nat) (va : Value) (L : List Bool) (h : WrS w gw base va L) (hL : 1 ≤ L.length) :
    Calls Try.prog 73 #[.pointer (some ⟨gw, 0, none⟩)] w fun e w' => e = .returned (.string ⟨(pack L).toArray⟩) ∧ w' = w := by
  obtain ⟨g, cap, rfl, hbg, hgl⟩ := World.ownsRow.form h.row (by omega)
  obtain ⟨n, hn⟩ : ∃ n, (L.length + 7) / 8 = n := ⟨_, rfl⟩
  have hbox := h.box
  have hrow := h.row
  rw [hn] at hbox hrow
  have hpl : (pack L).length = n := by rw [pack_length]; exact hn
  have hconv : (convert 59 9 (.slice (some ⟨g, 0, none⟩) n cap)).run Try.prog w = .ok (.string ⟨(pack L).toArray⟩) w := by
    have h1 := run_convert_bytes_arg w 59 5 Try.underlying59 Try.underlying5 g 0 n cap ((pack L).map fun x => (x.toNat : Int)) (by rw [List.length_map]; exact hpl) (fun i hi => by
      rw [Nat.zero_add, World.ownsRow.cellAt hrow i (by omega), List.getElem?_map, List.getElem?_eq_getElem (by omega)]
      simp [List.getD, hpl, hi, byteV]) 9 Try.underlying9
    rw [str_pack] at h1
    exact h1
  have k0 : w.cell? ⟨gw, 0, none⟩ = some (.slice (some ⟨g, 0, none⟩) n cap) := hbox.cell 0
  clear h hbox hn hpl hrow
  go_enter Try.func73, Try.ntmps73
  go_wp2
  exact bodyPost_ret (v := .string ⟨(pack L).toArray⟩) (by simp [results, Try.results73, go_sem]) rfl ⟨rfl, rfl⟩
end Go.Proofs.Ytncmgnmcggkhnaa
