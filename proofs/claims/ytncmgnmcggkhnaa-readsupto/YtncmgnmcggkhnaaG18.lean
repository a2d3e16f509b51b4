import Derived.Test.YtncmgnmcggkhnaaG17
import Derived.Deep.DeepCutAuto
import Derived.Deep.CutBlock
import Derived.Deep.LoopGhost
namespace Go.Proofs.Ytncmgnmcggkhnaa
open Go.RowKit

theorem list_ext4 (l : List UInt8) (h : ¬ 4 ≤ l.length) : l.take 4 ≠ [102, 76, 97, 67] := fun e => by
  have := congrArg List.length e
  simp at this
  omega

theorem prefix_eq (d : ByteArray) : ((d.extract 0 4).toList == [102, 76, 97, 67]) = true ↔ d.data.toList.take 4 = [102, 76, 97, 67] := by
  rw [ByteArray.toList_eq, extract_list]
  simp

def PrePost (w : World) (d : ByteArray) (e : Ending) (w' : World) : Prop := ∃ ok : Bool, e = .returned (.bool ok) ∧ (ok = true ↔ d.data.toList.take 4 = [102, 76, 97, 67]) ∧ w' = w

set_option maxHeartbeats 1000000 in
theorem qprefix0 (w : World) (d : ByteArray) (hd : d.size ≤ 6000) :
    Calls Try.prog 106 #[.string d, .string ⟨#[102, 76, 97, 67]⟩] w (PrePost w d) := by
  by_cases h : 4 ≤ d.size
  · go_enter Try.func106, Try.ntmps106
    go_wp2
    go_ret
    exact ⟨_, rfl, prefix_eq d, rfl⟩
  · have hno := list_ext4 d.data.toList (by rw [dlen]; exact h)
    have HNO : Hid (d.data.toList.take 4 ≠ [102, 76, 97, 67]) := hno
    clear hno
    go_enter Try.func106, Try.ntmps106
    go_wp2
    go_ret
    exact ⟨false, rfl, by simpa using HNO.out, rfl⟩

set_option maxHeartbeats 1000000 in
theorem qprefix (w : World) (d : ByteArray) (hd : d.size ≤ 6000) :
    Calls Try.prog 80 #[.string d, .string ⟨#[102, 76, 97, 67]⟩] w (PrePost w d) := by
  go_enter Try.func80, Try.ntmps80
  go_wp2_with fail
  refine (qprefix0 w d hd).mono ?_
  rintro e w' ⟨ok, rfl, hok, rfl⟩
  have HOK : Hid (ok = true ↔ d.data.toList.take 4 = [102, 76, 97, 67]) := hok
  clear hok
  go_wp2
  go_ret
  exact ⟨ok, rfl, HOK.out, rfl⟩

theorem val_byte (b : UInt8) : val (byteBits b) = b.toNat := by
  have h : ∀ n, n < 256 → val [n.testBit 7, n.testBit 6, n.testBit 5, n.testBit 4, n.testBit 3, n.testBit 2, n.testBit 1, n.testBit 0] = n := by decide +kernel
  exact h b.toNat b.toNat_lt

theorem must_byte (b : UInt8) (v : Nat) (l : List Bool) : pMust 8 v (byteBits b ++ l) = if b.toNat = v then some ((), l) else none := by
  unfold pMust pNum
  have h1 : (byteBits b).length = 8 := byteBits_length b
  rw [if_pos (by rw [List.length_append]; omega)]
  have e1 : (byteBits b ++ l).take 8 = byteBits b := by rw [← h1, List.take_left]
  have e2 : (byteBits b ++ l).drop 8 = l := by rw [← h1, List.drop_left]
  rw [e1, e2, val_byte]
  rfl

theorem must_nil (v : Nat) : pMust 8 v [] = none := rfl

/-- what stands behind the four signs -/
def afterMark (n : Nat) (l : List Bool) : Option (Head × List Bool) :=
  (pBlock l).bind fun ((last, kind, size), r4) =>
    if kind = 0 ∧ size = 34 then (pInfo r4).bind fun (h, r5) => if last = 1 then some (h, r5) else (pMore n r5).map fun (_, r6) => (h, r6) else none

theorem blocks_bytes (L : List UInt8) : pBlocks (bitsOf L) = if L.take 4 = [102, 76, 97, 67] then afterMark (8 * L.length) (bitsOf (L.drop 4)) else none := by
  have hn : ∀ (b : UInt8) (v : Nat), (b.toNat = v) → b = UInt8.ofNat v := fun b v e => by rw [← e]; simp
  match L with
  | [] => rfl
  | [a] =>
    rw [if_neg (by simp)]
    unfold pBlocks
    rw [bitsOf_cons, must_byte]
    split <;> rfl
  | [a, b] =>
    rw [if_neg (by simp)]
    unfold pBlocks
    rw [bitsOf_cons, must_byte]
    split
    · show (pMust 8 76 (bitsOf [b])).bind _ = _
      rw [bitsOf_cons, must_byte]
      split <;> rfl
    · rfl
  | [a, b, c] =>
    rw [if_neg (by simp)]
    unfold pBlocks
    rw [bitsOf_cons, must_byte]
    split
    · show (pMust 8 76 (bitsOf [b, c])).bind _ = _
      rw [bitsOf_cons, must_byte]
      split
      · show (pMust 8 97 (bitsOf [c])).bind _ = _
        rw [bitsOf_cons, must_byte]
        split <;> rfl
      · rfl
    · rfl
  | a :: b :: c :: e :: M =>
    have hlen : (bitsOf (a :: b :: c :: e :: M)).length = 8 * (a :: b :: c :: e :: M).length := bitsOf_length _
    unfold pBlocks
    rw [hlen]
    rw [bitsOf_cons, must_byte]
    by_cases h1 : a.toNat = 102
    · rw [if_pos h1]
      show (pMust 8 76 (bitsOf (b :: c :: e :: M))).bind _ = _
      rw [bitsOf_cons, must_byte]
      by_cases h2 : b.toNat = 76
      · rw [if_pos h2]
        show (pMust 8 97 (bitsOf (c :: e :: M))).bind _ = _
        rw [bitsOf_cons, must_byte]
        by_cases h3 : c.toNat = 97
        · rw [if_pos h3]
          show (pMust 8 67 (bitsOf (e :: M))).bind _ = _
          rw [bitsOf_cons, must_byte]
          by_cases h4 : e.toNat = 67
          · rw [if_pos h4]
            rw [if_pos (by rw [hn a _ h1, hn b _ h2, hn c _ h3, hn e _ h4]; rfl)]
            rfl
          · rw [if_neg h4, if_neg (by simp; intro _ _ _ e4; rw [e4] at h4; exact h4 rfl)]
            rfl
        · rw [if_neg h3, if_neg (by simp; intro _ _ e3; rw [e3] at h3; exact absurd rfl h3)]
          rfl
      · rw [if_neg h2, if_neg (by simp; intro _ e2; rw [e2] at h2; exact absurd rfl h2)]
        rfl
    · rw [if_neg h1, if_neg (by simp; intro e1; rw [e1] at h1; exact absurd rfl h1)]
      rfl
end Go.Proofs.Ytncmgnmcggkhnaa

namespace Go.Proofs.Ytncmgnmcggkhnaa
open Go.RowKit

def ReadPost (w : World) (d : ByteArray) (e : Ending) (w' : World) : Prop :=
  w.grownBy w' none ∧ ∃ (h : Head) (at' : Nat) (ok : Bool), e = .returned (.tuple #[headV h, .int .i64 at', .bool ok]) ∧
    ((ok = true ∧ at' ≤ d.size ∧ pBlocks (bitsOf d.data.toList) = some (h, bitsOf (d.data.toList.drop at'))) ∨ (ok = false ∧ pBlocks (bitsOf d.data.toList) = none))

/-- where the loop over the blocks stands -/
def RInv (L : List UInt8) (res : Option (Head × List Bool)) (ok last : Bool) (h : Head) (at' gk : Nat) : Prop :=
  (ok = false ∧ res = none) ∨ (ok = true ∧ at' ≤ L.length ∧
    ((last = true ∧ res = some (h, bitsOf (L.drop at'))) ∨ (last = false ∧ 8 * (L.length - at') < gk ∧ res = (pMore gk (bitsOf (L.drop at'))).map fun (_, r) => (h, r))))

/-- nothing is answered -/
theorem read_err {w X : World} {d : ByteArray} (hg : w.grownBy X none) (hb : Box X w.heap.size #[Value.int .i64 0, .int .i64 0, .int .i64 0, .int .i64 0, .int .i64 0] 77) (hd : pBlocks (bitsOf d.data.toList) = none) :
    Box (((((X.setCell ⟨w.heap.size, 0, none⟩ (.int .i64 0)).setCell ⟨w.heap.size, 1, none⟩ (.int .i64 0)).setCell ⟨w.heap.size, 2, none⟩ (.int .i64 0)).setCell ⟨w.heap.size, 3, none⟩ (.int .i64 0)).setCell ⟨w.heap.size, 4, none⟩ (.int .i64 0)) w.heap.size #[Value.int .i64 0, .int .i64 0, .int .i64 0, .int .i64 0, .int .i64 0] 77 ∧
    ReadPost w d (.returned (.tuple #[headV ⟨0, 0, 0, 0, 0⟩, .int .i64 0, .bool false])) (((((X.setCell ⟨w.heap.size, 0, none⟩ (.int .i64 0)).setCell ⟨w.heap.size, 1, none⟩ (.int .i64 0)).setCell ⟨w.heap.size, 2, none⟩ (.int .i64 0)).setCell ⟨w.heap.size, 3, none⟩ (.int .i64 0)).setCell ⟨w.heap.size, 4, none⟩ (.int .i64 0)) := by
  have h5 := five_stores X w.heap.size _ _ _ _ _ _ (.int .i64 0) (.int .i64 0) (.int .i64 0) (.int .i64 0) (.int .i64 0) hb
  exact ⟨h5.1, grown_new hg h5.2 (fun g e => by injection e with e; omega), ⟨0, 0, 0, 0, 0⟩, 0, false, rfl, .inr ⟨rfl, hd⟩⟩

theorem after_none {n : Nat} {l : List Bool} (h : ∀ x r, pBlock l = some (x, r) → r.length < 8 * x.2.2) : afterMark n l = none := by
  unfold afterMark
  cases e : pBlock l with
  | none => rfl
  | some x =>
    obtain ⟨⟨last, kind, size⟩, r⟩ := x
    have := h _ _ e
    show (if kind = 0 ∧ size = 34 then _ else _) = _
    split
    · rename_i hk
      obtain ⟨_, rfl⟩ := hk
      rw [info_short r (by simpa using this)]
      rfl
    · rfl

theorem after_kind {n last kind size : Nat} {l r : List Bool} (h : pBlock l = some ((last, kind, size), r)) (hk : kind ≠ 0) : afterMark n l = none := by
  unfold afterMark
  rw [h]
  show (if kind = 0 ∧ size = 34 then _ else _) = _
  rw [if_neg (fun hh => hk hh.1)]

theorem num_app (n : Nat) (l m : List Bool) (h : n ≤ l.length) : pNum n (l ++ m) = some (val (l.take n), l.drop n ++ m) ∧ pNum n l = some (val (l.take n), l.drop n) := by
  unfold pNum
  refine ⟨?_, by rw [if_pos h]⟩
  rw [if_pos (by rw [List.length_append]; omega), List.take_append_of_le_length h, List.drop_append_of_le_length h]

theorem info_app (l m : List Bool) (hl : l.length = 272) : pInfo (l ++ m) = (pInfo l).map fun (h, r) => (h, r ++ m) := by
  unfold pInfo pMust
  have k1 := num_app 16 l m (by omega)
  rw [k1.1, k1.2]
  simp only [Option.bind_some]
  have l1 : (l.drop 16).length = 256 := by rw [List.length_drop]; omega
  have k2 := num_app 16 (l.drop 16) m (by omega)
  rw [k2.1, k2.2]
  simp only [Option.bind_some]
  have l2 : ((l.drop 16).drop 16).length = 240 := by rw [List.length_drop]; omega
  generalize (l.drop 16).drop 16 = a at l2 ⊢
  split
  · simp only [Option.bind_some]
    have k3 := num_app 48 a m (by omega)
    rw [k3.1, k3.2]
    simp only [Option.bind_some]
    have l3 : (a.drop 48).length = 192 := by rw [List.length_drop]; omega
    generalize a.drop 48 = b at l3 ⊢
    have k4 := num_app 20 b m (by omega)
    rw [k4.1, k4.2]
    simp only [Option.bind_some]
    have l4 : (b.drop 20).length = 172 := by rw [List.length_drop]; omega
    have k5 := num_app 3 (b.drop 20) m (by omega)
    rw [k5.1, k5.2]
    simp only [Option.bind_some]
    have l5 : ((b.drop 20).drop 3).length = 169 := by rw [List.length_drop]; omega
    have k6 := num_app 5 ((b.drop 20).drop 3) m (by omega)
    rw [k6.1, k6.2]
    simp only [Option.bind_some]
    have l6 : (((b.drop 20).drop 3).drop 5).length = 164 := by rw [List.length_drop]; omega
    have k7 := num_app 36 (((b.drop 20).drop 3).drop 5) m (by omega)
    rw [k7.1, k7.2]
    simp only [Option.bind_some]
    have l7 : ((((b.drop 20).drop 3).drop 5).drop 36).length = 128 := by rw [List.length_drop]; omega
    have k8 := num_app 128 ((((b.drop 20).drop 3).drop 5).drop 36) m (by omega)
    rw [k8.1, k8.2]
    simp only [Option.bind_some]
    split
    · rfl
    · rfl
  · rfl

theorem bits_take_drop (L : List UInt8) (k : Nat) : bitsOf L = bitsOf (L.take k) ++ bitsOf (L.drop k) := by
  rw [← bitsOf_append, List.take_append_drop]

/-- the first block has been read -/
theorem rinv_first {L : List UInt8} {h : Head} {ln size : Nat} (hpb : pBlock (bitsOf (L.drop 4)) = some ((ln, 0, size), bitsOf ((L.drop 4).drop 4))) (hroom : 8 + size ≤ L.length) (ok : Bool)
    (hinfo : (ok = true ∧ size = 34 ∧ pInfo (bitsOf (((L.drop 4).drop 4).take size)) = some (h, [])) ∨ (ok = false ∧ (size = 34 → pInfo (bitsOf (((L.drop 4).drop 4).take size)) = none))) :
    RInv L (afterMark (8 * L.length) (bitsOf (L.drop 4))) ok (ln == 1) h (4 + (4 + size)) (8 * L.length) := by
  have hlen : ((L.drop 4).drop 4).length = L.length - 8 := by rw [List.length_drop, List.length_drop]; omega
  have hsplit := bits_take_drop ((L.drop 4).drop 4) size
  have hdrop : ((L.drop 4).drop 4).drop size = L.drop (4 + (4 + size)) := by rw [List.drop_drop, List.drop_drop]
  have happ : size = 34 → pInfo (bitsOf ((L.drop 4).drop 4)) = (pInfo (bitsOf (((L.drop 4).drop 4).take size))).map fun (h, r) => (h, r ++ bitsOf (L.drop (4 + (4 + size)))) := by
    intro e
    rw [hsplit, info_app _ _ (by rw [bitsOf_length, List.length_take, hlen, e]; omega), hdrop]
  have ham : afterMark (8 * L.length) (bitsOf (L.drop 4)) = if size = 34 then (pInfo (bitsOf ((L.drop 4).drop 4))).bind fun (h, r5) => if ln = 1 then some (h, r5) else (pMore (8 * L.length) r5).map fun (_, r6) => (h, r6) else none := by
    unfold afterMark
    rw [hpb]
    simp
  rw [ham]
  rcases hinfo with ⟨rfl, h34, hi⟩ | ⟨rfl, hi⟩
  · rw [if_pos h34, happ h34, hi]
    refine .inr ⟨rfl, by omega, ?_⟩
    simp only [Option.map_some, Option.bind_some, List.nil_append]
    by_cases h1 : ln = 1
    · exact .inl ⟨by simp [h1], by rw [if_pos h1]⟩
    · exact .inr ⟨by simp [h1], by omega, by rw [if_neg h1]⟩
  · refine .inl ⟨rfl, ?_⟩
    by_cases h34 : size = 34
    · rw [if_pos h34, happ h34, hi h34]
      rfl
    · rw [if_neg h34]

theorem rinv_next {L : List UInt8} {res : Option (Head × List Bool)} {h : Head} {a gk ln kind size : Nat} (hi : RInv L res true false h a gk) (hpb : pBlock (bitsOf (L.drop a)) = some ((ln, kind, size), bitsOf ((L.drop a).drop 4))) (hroom : 4 + size ≤ L.length - a) :
    RInv L res (follows kind size) (ln == 1) h (a + (4 + size)) (gk - 1) := by
  rcases hi with ⟨e, _⟩ | ⟨_, hle, ⟨e, _⟩ | ⟨_, hlt, hr⟩⟩
  · cases e
  · cases e
  · obtain ⟨g, rfl⟩ : ∃ g, gk = g + 1 := ⟨gk - 1, by omega⟩
    have hlen : (bitsOf ((L.drop a).drop 4)).length = 8 * (L.length - a - 4) := by rw [bitsOf_length, List.length_drop, List.length_drop]
    have hdrop : (bitsOf ((L.drop a).drop 4)).drop (8 * size) = bitsOf (L.drop (a + (4 + size))) := by
      rw [bitsOf_drop, List.drop_drop, List.drop_drop]
    have hm : pMore (g + 1) (bitsOf (L.drop a)) = if follows kind size = true then (if ln = 1 then some ((), bitsOf (L.drop (a + (4 + size)))) else pMore g (bitsOf (L.drop (a + (4 + size))))) else none := by
      show (pBlock _).bind _ = _
      rw [hpb]
      show (if kind = 0 ∨ kind = 127 ∨ (kind = 3 ∧ size % 18 ≠ 0) ∨ (bitsOf ((L.drop a).drop 4)).length < 8 * size then _ else _) = _
      rw [hdrop]
      by_cases hf : follows kind size = true
      · rw [if_pos hf, if_neg]
        rw [hlen]
        unfold follows at hf
        simp at hf
        omega
      · rw [if_neg hf, if_pos]
        unfold follows at hf
        simp at hf
        by_cases k0 : kind = 0
        · exact .inl k0
        · by_cases k1 : kind = 127
          · exact .inr (.inl k1)
          · exact .inr (.inr (.inl (hf k0 k1)))
    rw [hm] at hr
    cases hf : follows kind size with
    | false =>
      rw [hf] at hr
      exact .inl ⟨rfl, by rw [hr]; rfl⟩
    | true =>
      rw [hf] at hr
      refine .inr ⟨rfl, by omega, ?_⟩
      by_cases h1 : ln = 1
      · rw [if_pos rfl, if_pos h1] at hr
        exact .inl ⟨by simp [h1], hr⟩
      · rw [if_pos rfl, if_neg h1] at hr
        exact .inr ⟨by simp [h1], by show _ < g + 1 - 1; omega, hr⟩

theorem rinv_fail {L : List UInt8} {res : Option (Head × List Bool)} {h h' : Head} {a gk a' gk' : Nat} {last : Bool} (hi : RInv L res true false h a gk) (hno : ∀ x r, pBlock (bitsOf (L.drop a)) = some (x, r) → r.length < 8 * x.2.2) : RInv L res false last h' a' gk' := by
  refine .inl ⟨rfl, ?_⟩
  rcases hi with ⟨e, _⟩ | ⟨_, hle, ⟨e, _⟩ | ⟨_, hlt, hr⟩⟩
  · cases e
  · cases e
  · obtain ⟨g, rfl⟩ : ∃ g, gk = g + 1 := ⟨gk - 1, by omega⟩
    rw [hr]
    have : pMore (g + 1) (bitsOf (L.drop a)) = none := by
      show (pBlock _).bind _ = _
      cases e : pBlock (bitsOf (L.drop a)) with
      | none => rfl
      | some x =>
        obtain ⟨⟨last, kind, size⟩, r⟩ := x
        have := hno _ _ e
        show (if kind = 0 ∨ kind = 127 ∨ (kind = 3 ∧ size % 18 ≠ 0) ∨ r.length < 8 * size then _ else _) = _
        rw [if_pos (.inr (.inr (.inr this)))]
    rw [this]
    rfl

set_option maxHeartbeats 4000000 in
set_option maxRecDepth 20000 in
theorem qread (w : World) (d : ByteArray) (hd : d.size ≤ 6000) :
    Calls Try.prog 61 #[.string d] w (ReadPost w d) := by
  have hbytes := blocks_bytes d.data.toList
  obtain ⟨L, hL⟩ : ∃ L, d.data.toList = L := ⟨_, rfl⟩
  have hLl : L.length = d.size := by rw [← hL]; simp
  obtain ⟨res, hres⟩ : ∃ res, pBlocks (bitsOf L) = res := ⟨_, rfl⟩
  have HRES : Hid (pBlocks (bitsOf L) = res) := hres
  have HL : Hid (d.data.toList = L) := hL
  rw [hL, hres] at hbytes
  have HB : Hid (res = if L.take 4 = [102, 76, 97, 67] then afterMark (8 * L.length) (bitsOf (L.drop 4)) else none) := hbytes
  clear hbytes hres hL
  have hg0 : w.grownBy (w.alloc (.cells #[Value.int .i64 0, .int .i64 0, .int .i64 0, .int .i64 0, .int .i64 0] 77)) none := grown_alloc (grown_refl _ _) _
  have hbr0 := Box.new w #[Value.int .i64 0, .int .i64 0, .int .i64 0, .int .i64 0, .int .i64 0] 77
  go_enter Try.func61, Try.ntmps61
  go_wp2_with fail
  refine (qprefix _ d hd).mono ?_
  rintro e w1 ⟨ok1, rfl, hok1, rfl⟩
  rw [HL.out] at hok1
  have HOK1 : Hid (ok1 = true ↔ L.take 4 = [102, 76, 97, 67]) := hok1
  clear hok1
  cases ok1
  · have hnone : res = none := by rw [HB.out, if_neg (fun e => by have := HOK1.out.2 e; cases this)]
    go_wp2
    refine bodyPost_ret (v := .tuple #[headV ⟨0, 0, 0, 0, 0⟩, .int .i64 0, .bool false]) (by simp [results, Try.results61, go_sem, headV]) rfl ⟨hg0, ⟨0, 0, 0, 0, 0⟩, 0, false, rfl, .inr ⟨rfl, ?_⟩⟩
    rw [HL.out, HRES.out, hnone]
  have htake : L.take 4 = [102, 76, 97, 67] := HOK1.out.1 rfl
  have h4 : 4 ≤ L.length := by have := congrArg List.length htake; simp at this; omega
  have hres2 : res = afterMark (8 * L.length) (bitsOf (L.drop 4)) := by rw [HB.out, if_pos htake]
  have HR2 : Hid (res = afterMark (8 * L.length) (bitsOf (L.drop 4))) := hres2
  clear hres2 htake HOK1 HB
  have h4d : 4 ≤ d.size := by omega
  have hd4 : (d.extract 4 d.size).data.toList = L.drop 4 := by rw [extract_list, HL.out, List.take_of_length_le (by rw [List.length_drop]; omega)]
  have hs4 : (d.extract 4 d.size).size = d.size - 4 := by rw [← dlen, hd4, List.length_drop]; omega
  have HD4 : Hid ((d.extract 4 d.size).data.toList = L.drop 4) := hd4
  clear hd4
  go_wp2_with fail
  refine (qreadblock _ (d.extract 4 d.size) (by omega)).mono ?_
  rintro e w2 ⟨hg2, last, kind, body, ok, rfl, hcase⟩
  rw [HD4.out, hs4] at hcase
  have hgg2 := grown_trans hg0 hg2
  have hbr2 := hbr0.kept hg2 (by simp)
  clear hg0 hbr0 hg2
  obtain ⟨w3, hw3⟩ : ∃ w3, w2.alloc (.cells #[Value.bool last, .int .i64 kind, .string body] 137) = w3 := ⟨_, rfl⟩
  have hg3 : w2.grownBy w3 none := by rw [← hw3]; exact grown_alloc (grown_refl _ _) _
  have hgg3 := grown_trans hgg2 hg3
  have hbr3 := hbr2.kept hg3 (by simp)
  obtain ⟨gF, hgF⟩ : ∃ gF, w2.heap.size = gF := ⟨_, rfl⟩
  have hbF : Box w3 gF #[Value.bool last, .int .i64 kind, .string body] 137 := by rw [← hgF, ← hw3]; exact Box.new _ _ _
  have HW3 : Hid (w2.alloc (.cells #[Value.bool last, .int .i64 kind, .string body] 137) = w3) := hw3
  have HGF : Hid (w2.heap.size = gF) := hgF
  clear hw3 hgF hgg2 hbr2 hg3
  go_upto_region 5 with fail
  rw [HW3.out, HGF.out]
  clear HW3 HGF
  have k0 : w3.cell? ⟨gF, 0, none⟩ = some (.bool last) := hbF.cell 0
  have k1 : w3.cell? ⟨gF, 1, none⟩ = some (.int .i64 kind) := hbF.cell 1
  have k2 : w3.cell? ⟨gF, 2, none⟩ = some (.string body) := hbF.cell 2
  have z0 : w3.cell? ⟨w.heap.size, 0, none⟩ = some (.int .i64 0) := hbr3.cell 0
  have z1 : w3.cell? ⟨w.heap.size, 1, none⟩ = some (.int .i64 0) := hbr3.cell 1
  have z2 : w3.cell? ⟨w.heap.size, 2, none⟩ = some (.int .i64 0) := hbr3.cell 2
  have z3 : w3.cell? ⟨w.heap.size, 3, none⟩ = some (.int .i64 0) := hbr3.cell 3
  have z4 : w3.cell? ⟨w.heap.size, 4, none⟩ = some (.int .i64 0) := hbr3.cell 4
  have y0 := hbr3.fz 0
  have y1 := hbr3.fz 1
  have y2 := hbr3.fz 2
  have y3 := hbr3.fz 3
  have y4 := hbr3.fz 4
  rcases hcase with ⟨rfl, ln, size, hpb, hlast, hln, hkind, hbody, hroom⟩ | ⟨rfl, rfl, rfl, rfl, hno⟩
  rotate_left
  · have hnone : pBlocks (bitsOf d.data.toList) = none := by rw [HL.out, HRES.out, HR2.out]; exact after_none hno
    have hf := read_err hgg3 hbr3 hnone
    clear hno hnone
    go_wp2
    generalize (World.setCell _ ⟨w.heap.size, 4, none⟩ (Value.int .i64 0)) = wf at hf ⊢
    have x0 := hf.1.cell 0
    have x1 := hf.1.cell 1
    have x2 := hf.1.cell 2
    have x3 := hf.1.cell 3
    have x4 := hf.1.cell 4
    exact bodyPost_ret (v := .tuple #[headV ⟨0, 0, 0, 0, 0⟩, .int .i64 0, .bool false]) (by simp [results, Try.results61, go_sem, x0, x1, x2, x3, x4, headV]) rfl hf.2
  by_cases hk0 : kind = 0
  rotate_left
  · have hnone : pBlocks (bitsOf d.data.toList) = none := by rw [HL.out, HRES.out, HR2.out]; exact after_kind hpb hk0
    have hf := read_err hgg3 hbr3 hnone
    have tk : ((kind : Int) != 0) = true := by simp; omega
    clear hpb hnone hk0
    go_wp2
    generalize (World.setCell _ ⟨w.heap.size, 4, none⟩ (Value.int .i64 0)) = wf at hf ⊢
    have x0 := hf.1.cell 0
    have x1 := hf.1.cell 1
    have x2 := hf.1.cell 2
    have x3 := hf.1.cell 3
    have x4 := hf.1.cell 4
    exact bodyPost_ret (v := .tuple #[headV ⟨0, 0, 0, 0, 0⟩, .int .i64 0, .bool false]) (by simp [results, Try.results61, go_sem, x0, x1, x2, x3, x4, headV]) rfl hf.2
  have tk : ((kind : Int) != 0) = false := by simp; omega
  have hbs : body.size = size := by rw [hbody, ← dlen, extract_list, List.length_take, List.length_drop, HD4.out, List.length_drop]; omega
  have hbl : body.data.toList = ((L.drop 4).drop 4).take size := by rw [hbody, extract_list, HD4.out]; congr 1; omega
  have HBL : Hid (body.data.toList = ((L.drop 4).drop 4).take size) := hbl
  have HPB : Hid (pBlock (bitsOf (L.drop 4)) = some ((ln, 0, size), bitsOf ((L.drop 4).drop 4))) := by rw [hk0] at hpb; exact hpb
  have HLAST : Hid (last = (ln == 1)) := hlast
  have hbs2 : body.size ≤ 6000 := by omega
  have HBS : Hid (body.size = size) := hbs
  clear hbody hbl hpb hlast hk0 hbs
  go_wp2_with fail
  refine (qreadinfo _ body hbs2).mono ?_
  rintro e w4 ⟨hg4, h, ok2, rfl, hcase⟩
  rw [HBL.out, HBS.out] at hcase
  have hrinv : RInv L res ok2 last h (4 + (4 + size)) (8 * L.length) := by
    rw [HLAST.out, HR2.out]
    exact rinv_first HPB.out (by omega) ok2 hcase
  have hgg4 := grown_trans hgg3 hg4
  have hbr4 := hbr3.kept hg4 (by simp)
  have hbF4 := hbF.kept hg4 (by simp)
  obtain ⟨w5, hw5⟩ : ∃ w5, w4.alloc (.cells (headC h) 77) = w5 := ⟨_, rfl⟩
  have hg5 : w4.grownBy w5 none := by rw [← hw5]; exact grown_alloc (grown_refl _ _) _
  have hgg5 := grown_trans hgg4 hg5
  have hbr5 := hbr4.kept hg5 (by simp)
  have hbF5 := hbF4.kept hg5 (by simp)
  obtain ⟨gI, hgI⟩ : ∃ gI, w4.heap.size = gI := ⟨_, rfl⟩
  have hbI : Box w5 gI (headC h) 77 := by rw [← hgI, ← hw5]; exact Box.new _ _ _
  have HW5 : Hid (w4.alloc (.cells #[Value.int .i64 h.block, .int .i64 h.rate, .int .i64 h.channels, .int .i64 h.bits, .int .i64 h.total] 77) = w5) := hw5
  have HGI : Hid (w4.heap.size = gI) := hgI
  have hwI : w.heap.size ≠ gI := by have := hbr4.lt; omega
  clear hw5 hgI hgg4 hbr4 hbF4 hg5 hg4 hgg3 hbr3 hbF k0 k1 k2 z0 z1 z2 z3 z4 y0 y1 y2 y3 y4 hcase
  unfold headV
  go_upto_region 8 with fail
  rw [HW5.out, HGI.out]
  clear HW5 HGI
  have k0 : w5.cell? ⟨gF, 0, none⟩ = some (.bool last) := hbF5.cell 0
  have k1 : w5.cell? ⟨gF, 1, none⟩ = some (.int .i64 kind) := hbF5.cell 1
  have k2 : w5.cell? ⟨gF, 2, none⟩ = some (.string body) := hbF5.cell 2
  have hg6 : w5.grownBy (w5.alloc (.cells #[Value.bool last, .int .i64 kind, .string body] 137)) none := grown_alloc (grown_refl _ _) _
  have hgg6 := grown_trans hgg5 hg6
  have hbr6 := hbr5.kept hg6 (by simp)
  have hbI6 := hbI.kept hg6 (by simp)
  have hbB6 := Box.new w5 #[Value.bool last, .int .i64 kind, .string body] 137
  have hlt5 := hbr5.lt
  have hltI := hbI.lt
  clear hg6 hgg5 hbr5 hbI
  go_wp2_with fail
  go_loopg [5, 7, 9] (8 * L.length) (fun gk t5 t7 t9 wr => ∃ (a : Nat) (ok last : Bool) (kind : Nat) (body : ByteArray) (gB : Nat), t5 = .int .i64 a ∧ t7 = .bool ok ∧ t9 = .pointer (some ⟨gB, 0, none⟩) ∧ w.grownBy wr none ∧
      Box wr w.heap.size #[Value.int .i64 0, .int .i64 0, .int .i64 0, .int .i64 0, .int .i64 0] 77 ∧ Box wr gI (headC h) 77 ∧ Box wr gB #[Value.bool last, .int .i64 kind, .string body] 137 ∧ w.heap.size < gB ∧ w.heap.size ≠ gI ∧ gI ≠ gB ∧ a ≤ 20000 ∧ body.size ≤ 6000 ∧ RInv L res ok last h a gk)
  case atStart => exact ⟨4 + (4 + size), ok2, last, kind, body, w5.heap.size, by rw [HBS.out]; go_num, rfl, rfl, hgg6, hbr6, hbI6, hbB6, hlt5, hwI, by omega, by omega, hbs2, hrinv⟩
  case round =>
    clear hgg6 hbr6 hbI6 hbB6 k0 k1 k2 hrinv hbF5 HLAST HPB HBS HBL tk hkind hln hbs2 hroom hlt5 hltI hwI
    obtain ⟨a, ok, last, kind, body, gB, rfl, rfl, rfl, hgr, hbr, hbI, hbB, hwB, hwI, hIB, ha, hbsz, hinv⟩ := hrel
    have z0 : wr.cell? ⟨w.heap.size, 0, none⟩ = some (.int .i64 0) := hbr.cell 0
    have z1 : wr.cell? ⟨w.heap.size, 1, none⟩ = some (.int .i64 0) := hbr.cell 1
    have z2 : wr.cell? ⟨w.heap.size, 2, none⟩ = some (.int .i64 0) := hbr.cell 2
    have z3 : wr.cell? ⟨w.heap.size, 3, none⟩ = some (.int .i64 0) := hbr.cell 3
    have z4 : wr.cell? ⟨w.heap.size, 4, none⟩ = some (.int .i64 0) := hbr.cell 4
    have y0 := hbr.fz 0
    have y1 := hbr.fz 1
    have y2 := hbr.fz 2
    have y3 := hbr.fz 3
    have y4 := hbr.fz 4
    have k0 : wr.cell? ⟨gB, 0, none⟩ = some (.bool last) := hbB.cell 0
    cases ok with
    | false =>
      have hnone : pBlocks (bitsOf d.data.toList) = none := by
        rw [HL.out, HRES.out]
        rcases hinv with ⟨_, e⟩ | ⟨e, _⟩
        · exact e
        · cases e
      have hf := read_err hgr hbr hnone
      clear hnone hinv
      go_wp2
      generalize (World.setCell _ ⟨w.heap.size, 4, none⟩ (Value.int .i64 0)) = wf at hf ⊢
      have x0 := hf.1.cell 0
      have x1 := hf.1.cell 1
      have x2 := hf.1.cell 2
      have x3 := hf.1.cell 3
      have x4 := hf.1.cell 4
      exact bodyPost_ret (v := .tuple #[headV ⟨0, 0, 0, 0, 0⟩, .int .i64 0, .bool false]) (by simp [results, Try.results61, go_sem, x0, x1, x2, x3, x4, headV]) rfl hf.2
    | true =>
      cases last with
      | true =>
        have hfact : a ≤ d.size ∧ pBlocks (bitsOf d.data.toList) = some (h, bitsOf (d.data.toList.drop a)) := by
          rw [HL.out, HRES.out]
          rcases hinv with ⟨e, _⟩ | ⟨_, hle, ⟨_, hr⟩ | ⟨e, _⟩⟩
          · cases e
          · exact ⟨by omega, hr⟩
          · cases e
        have h5 := five_stores wr w.heap.size _ _ _ _ _ _ (.int .i64 h.block) (.int .i64 h.rate) (.int .i64 h.channels) (.int .i64 h.bits) (.int .i64 h.total) hbr
        have hpost : ∀ wf, wr.grownBy wf (some w.heap.size) → ReadPost w d (.returned (.tuple #[headV h, .int .i64 a, .bool true])) wf := fun wf hgf =>
          ⟨grown_new hgr hgf (fun q e => by injection e with e; omega), h, a, true, rfl, .inl ⟨rfl, hfact.1, hfact.2⟩⟩
        have e0 : wr.cell? ⟨gI, 0, none⟩ = some (.int .i64 h.block) := hbI.cell 0
        have e1 : wr.cell? ⟨gI, 1, none⟩ = some (.int .i64 h.rate) := hbI.cell 1
        have e2 : wr.cell? ⟨gI, 2, none⟩ = some (.int .i64 h.channels) := hbI.cell 2
        have e3 : wr.cell? ⟨gI, 3, none⟩ = some (.int .i64 h.bits) := hbI.cell 3
        have e4 : wr.cell? ⟨gI, 4, none⟩ = some (.int .i64 h.total) := hbI.cell 4
        clear hfact hinv
        go_wp2
        generalize (World.setCell _ _ (Value.int .i64 h.total)) = wf at h5 ⊢
        have x0 := h5.1.cell 0
        have x1 := h5.1.cell 1
        have x2 := h5.1.cell 2
        have x3 := h5.1.cell 3
        have x4 := h5.1.cell 4
        exact bodyPost_ret (v := .tuple #[headV h, .int .i64 a, .bool true]) (by simp [results, Try.results61, go_sem, x0, x1, x2, x3, x4, headV]) rfl (hpost wf h5.2)
      | false =>
        have hle : a ≤ d.size := by
          rcases hinv with ⟨e, _⟩ | ⟨_, hle, _⟩
          · cases e
          · omega
        have hgk : 0 < gk := by
          rcases hinv with ⟨e, _⟩ | ⟨_, hle, ⟨e, _⟩ | ⟨_, hlt, _⟩⟩
          · cases e
          · cases e
          · omega
        have hda : (d.extract a d.size).data.toList = L.drop a := by rw [extract_list, HL.out, List.take_of_length_le (by rw [List.length_drop]; omega)]
        have hsa : (d.extract a d.size).size = d.size - a := by rw [← dlen, hda, List.length_drop]; omega
        have HDA : Hid ((d.extract a d.size).data.toList = L.drop a) := hda
        clear hda z0 z1 z2 z3 z4 y0 y1 y2 y3 y4
        go_wp2_with fail
        refine (qreadblock _ (d.extract a d.size) (by omega)).mono ?_
        rintro e w7 ⟨hg7, last7, kind7, body7, ok7, rfl, hcase⟩
        rw [HDA.out, hsa] at hcase
        have hgg7 := grown_trans hgr hg7
        have hbr7 := hbr.kept hg7 (by simp)
        have hbI7 := hbI.kept hg7 (by simp)
        have hbB7 := hbB.kept hg7 (by simp)
        have h3 := three_cells w7 gB _ _ _ _ (.bool last7) (.int .i64 kind7) (.string body7) hbB7
        have j0 : w7.cell? ⟨gB, 0, none⟩ = some (.bool false) := hbB7.cell 0
        have j1 : w7.cell? ⟨gB, 1, none⟩ = some (.int .i64 kind) := hbB7.cell 1
        have j2 : w7.cell? ⟨gB, 2, none⟩ = some (.string body) := hbB7.cell 2
        have i0 := hbB7.fz 0
        have i1 := hbB7.fz 1
        have i2 := hbB7.fz 2
        clear k0 hbr hbI hbB hgr hg7
        go_upto_region 13 with fail
        obtain ⟨w8, hw8⟩ : ∃ w8, ((w7.setCell ⟨gB, 0, none⟩ (.bool last7)).setCell ⟨gB, 1, none⟩ (.int .i64 kind7)).setCell ⟨gB, 2, none⟩ (.string body7) = w8 := ⟨_, rfl⟩
        rw [hw8] at h3 ⊢
        have hgg8 := grown_new hgg7 h3.2 (fun q e => by injection e with e; omega)
        have hbr8 := hbr7.kept h3.2 (fun e => by injection e with e; omega)
        have hbI8 := hbI7.kept h3.2 (fun e => by injection e with e; omega)
        have hbB8 := h3.1
        clear hw8 h3 hgg7 hbr7 hbI7 hbB7 j0 j1 j2 i0 i1 i2
        have k0 : w8.cell? ⟨gB, 0, none⟩ = some (.bool last7) := hbB8.cell 0
        have k1 : w8.cell? ⟨gB, 1, none⟩ = some (.int .i64 kind7) := hbB8.cell 1
        have k2 : w8.cell? ⟨gB, 2, none⟩ = some (.string body7) := hbB8.cell 2
        rcases hcase with ⟨rfl, ln, size, hpb, hlast, hln, hkind, hbody, hroom⟩ | ⟨rfl, rfl, rfl, rfl, hno⟩
        · have hbs : body7.size = size := by rw [hbody, ← dlen, extract_list, List.length_take, List.length_drop, HDA.out, List.length_drop]; omega
          have hnext : RInv L res (follows kind7 body7.size) last7 h (a + (4 + body7.size)) (gk - 1) := by
            rw [hbs, hlast]
            exact rinv_next hinv hpb (by omega)
          have hbs2 : body7.size ≤ 6000 := by omega
          clear hbody hpb hlast hinv hbs hroom
          go_wp2_with fail
          refine (qfollow w8 last7 kind7 body7 hbs2 hkind).mono ?_
          rintro e w9 ⟨rfl, hg9⟩
          generalize follows kind7 body7.size = fo at hnext ⊢
          have hgg9 := grown_trans hgg8 hg9
          have hbr9 := hbr8.kept hg9 (by simp)
          have hbI9 := hbI8.kept hg9 (by simp)
          have hbB9 := hbB8.kept hg9 (by simp)
          have j0 : w9.cell? ⟨gB, 0, none⟩ = some (.bool last7) := hbB9.cell 0
          have j1 : w9.cell? ⟨gB, 1, none⟩ = some (.int .i64 kind7) := hbB9.cell 1
          have j2 : w9.cell? ⟨gB, 2, none⟩ = some (.string body7) := hbB9.cell 2
          have hga : w9.grownBy (w9.alloc (.cells #[Value.bool last7, .int .i64 kind7, .string body7] 137)) none := grown_alloc (grown_refl _ _) _
          have hggA := grown_trans hgg9 hga
          have hbrA := hbr9.kept hga (by simp)
          have hbIA := hbI9.kept hga (by simp)
          have hbBA := Box.new w9 #[Value.bool last7, .int .i64 kind7, .string body7] 137
          have hl1 := hbr9.lt
          have hl2 := hbI9.lt
          clear k0 k1 k2 hgg8 hbr8 hbI8 hbB8 hgg9 hbr9 hbI9 hbB9 hg9 hga
          go_wp2
          go_roundg (gk - 1)
          case measure => omega
          case rel => exact ⟨a + (4 + body7.size), fo, last7, kind7, body7, w9.heap.size, by go_num, rfl, rfl, hggA, hbrA, hbIA, hbBA, hl1, hwI, by omega, by omega, hbs2, hnext⟩
        · have hnext : RInv L res false false h (a + (4 + 0)) (gk - 1) := rinv_fail hinv hno
          have hga : w8.grownBy (w8.alloc (.cells #[Value.bool false, .int .i64 0, .string ⟨#[]⟩] 137)) none := grown_alloc (grown_refl _ _) _
          have hggA := grown_trans hgg8 hga
          have hbrA := hbr8.kept hga (by simp)
          have hbIA := hbI8.kept hga (by simp)
          have hbBA := Box.new w8 #[Value.bool false, .int .i64 0, .string ⟨#[]⟩] 137
          have hl1 := hbr8.lt
          have hl2 := hbI8.lt
          clear hgg8 hbr8 hbI8 hbB8 hga hno hinv
          go_wp2
          go_roundg (gk - 1)
          case measure => omega
          case rel => exact ⟨a + (4 + 0), false, false, 0, ⟨#[]⟩, w8.heap.size, by go_num, rfl, rfl, hggA, hbrA, hbIA, hbBA, hl1, hwI, by omega, by omega, by decide, hnext⟩
end Go.Proofs.Ytncmgnmcggkhnaa
