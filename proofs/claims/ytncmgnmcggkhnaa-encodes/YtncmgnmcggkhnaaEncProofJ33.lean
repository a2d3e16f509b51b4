import Derived.Test.YtncmgnmcggkhnaaEncProofJ24
import Derived.Test.YtncmgnmcggkhnaaEncProofJ23
import Derived.Test.YtncmgnmcggkhnaaEncProofJ4
import Derived.BigQuiet
import Derived.Test.YtncmgnmcggkhnaaEncProofJ28
import Derived.Test.YtncmgnmcggkhnaaEncProofJ8
import Derived.Test.YtncmgnmcggkhnaaEncProofJ11
import Derived.Test.YtncmgnmcggkhnaaEncProofJ17
import Derived.Lib.Builder
import Derived.Lib.AppendStr
import Derived.Lib.UnsafeStr
import Derived.Laws.Externs
namespace Go.Proofs.Ytncmgnmcggkhnaa
open Go.RowKit

theorem head_start (h : Head) (hb : h.block < 65536) : ∃ (x y : UInt8) (rest : List UInt8), headBytes h = 102 :: 76 :: 97 :: 67 :: 128 :: 0 :: 0 :: 34 :: x :: y :: rest ∧ x.toNat * 256 + y.toNat = h.block := by
  obtain ⟨R, hR⟩ : ∃ R, numBits h.block 16 ++ (numBits (0 : Nat) 24 ++ (numBits (0 : Nat) 24 ++ (numBits h.rate 20 ++ (numBits ((h.channels - 1 : Nat) : Int) 3 ++ (numBits ((h.bits - 1 : Nat) : Int) 5 ++ (numBits h.total 36 ++ numBits (0 : Nat) 128)))))) = R := ⟨_, rfl⟩
  have e1 : infoBits h = ([true, false, false, false, false, false, false, false] ++ numBits (34 : Nat) 24) ++ (numBits h.block 16 ++ R) := by
    unfold infoBits
    rw [hR, List.append_assoc]
    rfl
  obtain ⟨V, hV⟩ : ∃ V, numBits h.block 16 = V := ⟨_, rfl⟩
  have hl : V.length = 16 := by rw [← hV, numBits_length]
  have hv : val V = h.block := by
    have := val_numBits h.block 16
    rw [hV] at this
    omega
  have e2 : pack (V ++ R) = byteOf (V.take 8) :: byteOf (V.drop 8) :: pack R := by
    rw [pack_append V R (by rw [hl]), pack_cons V (by intro e; rw [e] at hl; simp at hl), pack_cons (V.drop 8) (by intro e; have := congrArg List.length e; rw [List.length_drop, hl] at this; simp at this)]
    have e3 : (V.drop 8).take 8 = V.drop 8 := List.take_of_length_le (by rw [List.length_drop, hl]; decide)
    have e4 : (V.drop 8).drop 8 = [] := List.drop_eq_nil_of_le (by rw [List.length_drop, hl]; decide)
    rw [e3, e4, pack_nil]
    rfl
  have e5 : pack ([true, false, false, false, false, false, false, false] ++ numBits (34 : Nat) 24) = [128, 0, 0, 34] := by
    rw [show numBits ((34 : Nat) : Int) 24 = bitsOf [0, 0, 34] by decide, show [true, false, false, false, false, false, false, false] ++ bitsOf [0, 0, 34] = bitsOf [128, 0, 0, 34] by decide, pack_bitsOf]
  refine ⟨byteOf (V.take 8), byteOf (V.drop 8), pack R, ?_, ?_⟩
  · unfold headBytes
    rw [e1, hV, pack_append _ _ (by simp [numBits_length]), e5, e2]
    rfl
  · rw [byteOf_toNat _ (by rw [List.length_take, hl]; decide), byteOf_toNat _ (by rw [List.length_drop, hl]; decide)]
    have h1 : (V.take 8).length = 8 := by rw [List.length_take, hl]; decide
    have h2 : (V.drop 8).length = 8 := by rw [List.length_drop, hl]
    have h3 := val_append (V.take 8) (V.drop 8)
    rw [List.take_append_drop, hv, h2] at h3
    rw [h1, h2]
    omega

set_option maxHeartbeats 4000000 in
set_option maxRecDepth 20000 in
theorem lblocks (w : World) (t : ByteArray) (B : Nat) (h42 : 42 ≤ t.size) (hs : t.size ≤ 6000) (h4 : t[4].toNat = 128) (h89 : t[8].toNat * 256 + t[9].toNat = B) :
    Calls Try.prog 26 #[.string t, .int .i64 B] w fun e w' => e = .returned (.bool true) ∧ ∃ d, w' = w.drewN d := by
  have k8 : t[8].toNat < 256 := t[8].toNat_lt
  have k9 : t[9].toNat < 256 := t[9].toNat_lt
  have g4 : (4 : Int) < (t.size : Int) := by omega
  have g8 : (8 : Int) < (t.size : Int) := by omega
  have g9 : (9 : Int) < (t.size : Int) := by omega
  have t42 : decide ((42 : Int) ≤ (t.size : Int)) = true := decide_eq_true (by omega)
  have t4 : ((t[4].toNat : Int) == 128) = true := by rw [h4]; rfl
  have HB : Hid (t[8].toNat * 256 + t[9].toNat = B) := h89
  have w1 : IntKind.i64.wrap ((t[8].toNat : Int) * 256) = (t[8].toNat : Int) * 256 := by rw [IntKind.wrap_i64]; omega
  have w2 : IntKind.i64.wrap ((t[8].toNat : Int) * 256 + (t[9].toNat : Int)) = (B : Int) := by rw [IntKind.wrap_i64]; omega
  clear h4 h89
  go_enter Try.func26, Try.ntmps26
  go_wp2_with fail
  go_quiet (fail)
  go_wp2
  go_ret
  refine ⟨?_, _, rfl⟩
  congr 1
  show Value.bool _ = Value.bool true
  congr 1
  have := HB.out
  rw [beq_iff_eq]
  omega

/-- the law's 'blocks' on what Encode gives -/
theorem lblocks_encode (w : World) (h : Head) (chs : List (List Int)) (hr : RightS h chs) :
    Calls Try.prog 26 #[.string ⟨(encode h chs).toArray⟩, .int .i64 h.block] w fun e w' => e = .returned (.bool true) ∧ ∃ d, w' = w.drewN d := by
  obtain ⟨b1, b2, b3, b4, b5, b6, b7, b8⟩ := headOk_parts hr.ok
  obtain ⟨x, y, rest, e1, e2⟩ := head_start h (by omega)
  have hl := hr.encode_len
  have hsz : (⟨(encode h chs).toArray⟩ : ByteArray).size = (encode h chs).length := by show (encode h chs).toArray.size = _; rw [List.size_toArray]
  have e3 : ∃ rest', encode h chs = 102 :: 76 :: 97 :: 67 :: 128 :: 0 :: 0 :: 34 :: x :: y :: rest' := ⟨_, by unfold encode; rw [e1]; rfl⟩
  obtain ⟨rest', e3⟩ := e3
  rw [e3] at hl hsz ⊢
  exact lblocks w _ h.block (by omega) (by omega) rfl e2
end Go.Proofs.Ytncmgnmcggkhnaa

namespace Go.Proofs.Ytncmgnmcggkhnaa
open Go.RowKit

/-- a list that can be read, wherever it lies -/
def RdL (w : World) (v : Value) (l : List Int) : Prop :=
  ∃ a c, v = .slice a l.length c ∧ ∀ k, k < l.length → ∃ b off, a = some ⟨b, off, none⟩ ∧ w.cell? ⟨b, off + k, none⟩ = some (.int .i64 (l.getD k 0))

theorem RinC.rdl {w : World} {v : Value} {l : List Int} (h : RinC w v l) : RdL w v l := by
  obtain ⟨a, c, h1, _, h3⟩ := h
  exact ⟨a, c, h1, h3⟩

theorem Lo.rdl {w : World} {v : Value} {l : List Int} (h : Lo w v l) : RdL w v l := by
  rcases h with ⟨h1, rfl⟩ | ⟨b, off, cap, h1, h2⟩
  · exact ⟨none, 0, h1, fun k hk => by simp at hk⟩
  · exact ⟨_, cap, h1, fun k hk => ⟨b, off, rfl, h2 k hk⟩⟩

theorem RdL.slice {w : World} {v : Value} {l : List Int} (h : RdL w v l) : ∃ a c, v = .slice a l.length c := by
  obtain ⟨a, c, h1, _⟩ := h
  exact ⟨a, c, h1⟩

theorem RdL.at {w : World} {a : Option Addr} {n c : Nat} {l : List Int} (h : RdL w (.slice a n c) l) (k : Nat) (hk : k < l.length) : ∃ b off, a = some ⟨b, off, none⟩ ∧ w.cell? ⟨b, off + k, none⟩ = some (.int .i64 (l.getD k 0)) := by
  obtain ⟨a', c', e, h3⟩ := h
  injection e with e1 _ _
  subst e1
  exact h3 k hk

theorem RdL.drewN {w : World} {v : Value} {l : List Int} (h : RdL w v l) (d : Nat) : RdL (w.drewN d) v l := by
  obtain ⟨a, c, h1, h3⟩ := h
  exact ⟨a, c, h1, fun k hk => by obtain ⟨b, off, h4, h5⟩ := h3 k hk; exact ⟨b, off, h4, by rw [World.cell?_drewN]; exact h5⟩⟩

theorem RdL.kept {w w' : World} {v : Value} {l : List Int} (h : RdL w v l) (hg : w.grownBy w' none) : RdL w' v l := by
  obtain ⟨a, c, h1, h3⟩ := h
  exact ⟨a, c, h1, fun k hk => by obtain ⟨b, off, h4, h5⟩ := h3 k hk; exact ⟨b, off, h4, hg.cell h5 (by simp)⟩⟩

/-- a list of lists that can be read -/
def RdS (w : World) (v : Value) (chs : List (List Int)) : Prop :=
  ∃ a c, v = .slice a chs.length c ∧ ∀ k, k < chs.length → ∃ b off vi, a = some ⟨b, off, none⟩ ∧ w.cell? ⟨b, off + k, none⟩ = some vi ∧ RdL w vi (chs.getD k [])

theorem RSnd.rds {w : World} {v : Value} {chs : List (List Int)} (h : RSnd w v chs) : RdS w v chs := by
  obtain ⟨a, c, h1, h3⟩ := h
  exact ⟨a, c, h1, fun k hk => by obtain ⟨b, off, vi, h4, h5, h6⟩ := h3 k hk; exact ⟨b, off, vi, h4, h5, h6.rdl⟩⟩

theorem SndIn.rds {w : World} {v : Value} {chs : List (List Int)} (h : SndIn w v chs) : RdS w v chs := by
  rcases h with ⟨h1, rfl⟩ | ⟨lg, lcap, h1, h2⟩
  · exact ⟨none, 0, h1, fun k hk => by simp at hk⟩
  · exact ⟨_, lcap, h1, fun k hk => by obtain ⟨vi, h5, h6⟩ := h2 k hk; exact ⟨lg, 0, vi, rfl, by rw [Nat.zero_add]; exact h5, h6.rdl⟩⟩

theorem RdS.slice {w : World} {v : Value} {chs : List (List Int)} (h : RdS w v chs) : ∃ a c, v = .slice a chs.length c := by
  obtain ⟨a, c, h1, _⟩ := h
  exact ⟨a, c, h1⟩

theorem RdS.at {w : World} {a : Option Addr} {n c : Nat} {chs : List (List Int)} (h : RdS w (.slice a n c) chs) (k : Nat) (hk : k < chs.length) : ∃ b off vi, a = some ⟨b, off, none⟩ ∧ w.cell? ⟨b, off + k, none⟩ = some vi ∧ RdL w vi (chs.getD k []) := by
  obtain ⟨a', c', e, h3⟩ := h
  injection e with e1 _ _
  subst e1
  exact h3 k hk

theorem RdS.kept {w w' : World} {v : Value} {chs : List (List Int)} (h : RdS w v chs) (hg : w.grownBy w' none) : RdS w' v chs := by
  obtain ⟨a, c, h1, h3⟩ := h
  exact ⟨a, c, h1, fun k hk => by obtain ⟨b, off, vi, h4, h5, h6⟩ := h3 k hk; exact ⟨b, off, vi, h4, hg.cell h5 (by simp), h6.kept hg⟩⟩

set_option maxHeartbeats 1000000 in
set_option maxRecDepth 20000 in
/-- two lists that are the same -/
theorem lsame_ints (w : World) (v1 v2 : Value) (xs : List Int) (h1 : RdL w v1 xs) (h2 : RdL w v2 xs) (hx : xs.length ≤ 17592186044416) :
    Calls Try.prog 68 #[v1, v2] w fun e w' => e = .returned (.bool true) ∧ ∃ d, w' = w.drewN d := by
  obtain ⟨a1, c1, rfl⟩ := h1.slice
  obtain ⟨a2, c2, rfl⟩ := h2.slice
  obtain ⟨n, hn⟩ : ∃ n, xs.length = n := ⟨_, rfl⟩
  rw [hn] at h1 h2 hx ⊢
  have HN : Hid (xs.length = n) := hn
  clear hn
  go_enter Try.func68, Try.ntmps68
  go_wp2_with fail
  go_loopg [5] n (fun gk t5 wr => ∃ k : Nat, gk + k = n ∧ t5 = .int .i64 k ∧ ∃ d, wr = w.drewN d)
  case atStart => exact ⟨0, rfl, rfl, 0, rfl⟩
  case round =>
    obtain ⟨k, hgk, rfl, d, rfl⟩ := hrel
    by_cases hlt : k < n
    · obtain ⟨b1, o1, rfl, hc1⟩ := h1.at k (by rw [HN.out]; exact hlt)
      obtain ⟨b2, o2, rfl, hc2⟩ := h2.at k (by rw [HN.out]; exact hlt)
      obtain ⟨x, hx'⟩ : ∃ x, xs.getD k 0 = x := ⟨_, rfl⟩
      rw [hx'] at hc1 hc2
      have hkn : (k : Int) < (n : Int) := by omega
      have txx : (x != x) = false := by simp
      clear hx' h1 h2
      go_upto_region 6 with fail
      go_quiet (fail)
      go_wp2
      go_roundg (gk - 1)
      case measure => omega
      case rel => exact ⟨k + 1, by omega, by go_num, _, rfl⟩
    · have hkn : k = n := by omega
      subst hkn
      clear hgk
      go_wp2
      go_ret
      exact ⟨rfl, d, rfl⟩

set_option maxHeartbeats 1000000 in
set_option maxRecDepth 20000 in
/-- two lists of lists that are the same -/
theorem lsame_lists (w : World) (v1 v2 : Value) (chs : List (List Int)) (h1 : RdS w v1 chs) (h2 : RdS w v2 chs) (hcl : chs.length ≤ 17592186044416) (hlen : ∀ c ∈ chs, c.length ≤ 17592186044416) :
    Calls Try.prog 46 #[v1, v2] w fun e w' => e = .returned (.bool true) ∧ ∃ d, w' = w.drewN d := by
  obtain ⟨a1, c1, rfl⟩ := h1.slice
  obtain ⟨a2, c2, rfl⟩ := h2.slice
  obtain ⟨n, hn⟩ : ∃ n, chs.length = n := ⟨_, rfl⟩
  rw [hn] at h1 h2 hcl ⊢
  have HN : Hid (chs.length = n) := hn
  have HLEN : Hid (∀ c ∈ chs, c.length ≤ 17592186044416) := hlen
  clear hn hlen
  go_enter Try.func46, Try.ntmps46
  go_wp2_with fail
  go_loopg [5] n (fun gk t5 wr => ∃ k : Nat, gk + k = n ∧ t5 = .int .i64 k ∧ ∃ d, wr = w.drewN d)
  case atStart => exact ⟨0, rfl, rfl, 0, rfl⟩
  case round =>
    obtain ⟨k, hgk, rfl, d, hwr⟩ := hrel
    by_cases hlt : k < n
    · obtain ⟨lg1, og1, u1, rfl, hc1, hl1⟩ := h1.at k (by rw [HN.out]; exact hlt)
      obtain ⟨lg2, og2, u2, rfl, hc2, hl2⟩ := h2.at k (by rw [HN.out]; exact hlt)
      obtain ⟨b1, p1, rfl⟩ := hl1.slice
      obtain ⟨b2, p2, rfl⟩ := hl2.slice
      have hkl : (chs.getD k []).length ≤ 17592186044416 := HLEN.out _ (by have := HN.out; simp [List.getD, show k < chs.length by omega])
      have HS := fun d => lsame_ints (w.drewN d) _ _ _ (hl1.drewN d) (hl2.drewN d) hkl
      obtain ⟨m, hm⟩ : ∃ m, (chs.getD k []).length = m := ⟨_, rfl⟩
      rw [hm] at hc1 hc2 HS
      have hkn : (k : Int) < (n : Int) := by omega
      have C1 : wr.cell? ⟨lg1, og1 + k, none⟩ = some (.slice b1 m p1) := by rw [hwr, World.cell?_drewN]; exact hc1
      have C2 : wr.cell? ⟨lg2, og2 + k, none⟩ = some (.slice b2 m p2) := by rw [hwr, World.cell?_drewN]; exact hc2
      have HSr : ∀ d', Calls Try.prog 68 #[.slice b1 m p1, .slice b2 m p2] (wr.drewN d') fun e w' => e = .returned (.bool true) ∧ ∃ d'', w' = (wr.drewN d').drewN d'' := by
        intro d'
        have := HS (d + d')
        rw [hwr, World.drewN_drewN]
        exact this
      have HWR : Hid (wr = w.drewN d) := hwr
      clear hc1 hc2 hm hkl HS hl1 hl2 h1 h2 hwr
      go_upto_region 6 with fail
      go_quiet ((go_at_call 68; exact Calls.quiet_of (HSr _)))
      go_wp2
      go_roundg (gk - 1)
      case measure => omega
      case rel => exact ⟨k + 1, by omega, by go_num, _, by rw [HWR.out, World.drewN_drewN]⟩
    · have hkn : k = n := by omega
      subst hkn
      have HWR : Hid (wr = w.drewN d) := hwr
      clear hgk hwr h1 h2
      go_wp2
      go_ret
      exact ⟨rfl, d, HWR.out⟩

set_option maxHeartbeats 1000000 in
set_option maxRecDepth 20000 in
/-- two sounds that are the same -/
theorem lsame (w : World) (v1 v2 : Value) (rate bits : Int) (chs : List (List Int)) (h1 : RdS w v1 chs) (h2 : RdS w v2 chs) (hcl : chs.length ≤ 17592186044416) (hlen : ∀ c ∈ chs, c.length ≤ 17592186044416) :
    Calls Try.prog 18 #[.agg #[.int .i64 rate, .int .i64 bits, v1], .agg #[.int .i64 rate, .int .i64 bits, v2]] w fun e w' => e = .returned (.bool true) ∧ w.grownBy w' none := by
  have hg : w.grownBy ((w.alloc (Obj.cells #[Value.int .i64 rate, Value.int .i64 bits, v1] 26)).alloc (Obj.cells #[Value.int .i64 rate, Value.int .i64 bits, v2] 26)) none := grown_alloc (grown_alloc (grown_refl w none) _) _
  have HS := lsame_lists _ v1 v2 chs (h1.kept hg) (h2.kept hg) hcl hlen
  have HX1 := Box.new w #[Value.int .i64 rate, Value.int .i64 bits, v1] 26
  have HX2 := Box.new (w.alloc (Obj.cells #[Value.int .i64 rate, Value.int .i64 bits, v1] 26)) #[Value.int .i64 rate, Value.int .i64 bits, v2] 26
  replace HX1 := HX1.kept (grown_alloc (grown_refl _ none) (Obj.cells #[Value.int .i64 rate, Value.int .i64 bits, v2] 26)) (by simp)
  have hsz : (w.alloc (Obj.cells #[Value.int .i64 rate, Value.int .i64 bits, v1] 26)).heap.size = w.heap.size + 1 := by simp
  rw [hsz] at HX2
  clear h1 h2 hcl hlen hsz
  go_enter Try.func18, Try.ntmps18
  go_wp2_with fail
  refine HS.mono ?_
  rintro e w1 ⟨rfl, d, rfl⟩
  clear HS
  revert HX1 HX2 hg
  generalize (w.alloc (Obj.cells #[Value.int .i64 rate, Value.int .i64 bits, v1] 26)).alloc (Obj.cells #[Value.int .i64 rate, Value.int .i64 bits, v2] 26) = w0
  intro hg HX2 HX1
  have hc10 : w0.cell? ⟨w.heap.size, 0, none⟩ = some (.int .i64 rate) := HX1.cell 0
  have hc11 : w0.cell? ⟨w.heap.size, 1, none⟩ = some (.int .i64 bits) := HX1.cell 1
  have hc20 : w0.cell? ⟨w.heap.size + 1, 0, none⟩ = some (.int .i64 rate) := HX2.cell 0
  have hc21 : w0.cell? ⟨w.heap.size + 1, 1, none⟩ = some (.int .i64 bits) := HX2.cell 1
  have HG : Hid (w.grownBy w0 none) := hg
  have tr : (rate == rate) = true := by simp
  have tb : (bits == bits) = true := by simp
  clear HX1 HX2 hg
  go_wp2
  go_ret
  exact ⟨rfl, grown_drewN HG.out _⟩
end Go.Proofs.Ytncmgnmcggkhnaa

namespace Go.Proofs.Ytncmgnmcggkhnaa
open Go.RowKit

theorem Ls2.rds {w : World} {v : Value} {chs : List (List Int)} (h : Ls2 w v chs) : RdS w v chs := by
  rcases h with ⟨h1, rfl⟩ | ⟨g, cap, h1, h2⟩
  · exact ⟨none, 0, h1, fun k hk => by simp at hk⟩
  · exact ⟨_, cap, h1, fun k hk => by obtain ⟨u, h5, h6⟩ := h2 k hk; exact ⟨g, 0, u, rfl, by rw [Nat.zero_add]; exact h5, h6.lo.rdl⟩⟩
end Go.Proofs.Ytncmgnmcggkhnaa

namespace Go.Proofs.Ytncmgnmcggkhnaa
open Go.RowKit

theorem bytes_data (l : List UInt8) : (⟨l.toArray⟩ : ByteArray).data.toList = l := rfl
theorem bytes_size (l : List UInt8) : (⟨l.toArray⟩ : ByteArray).size = l.length := by show l.toArray.size = _; rw [List.size_toArray]

/-- where a stream's answer is a sound -/
theorem sound_ans {w w' : World} {s : ByteArray} {e : Ending} {r b : Nat} {chs : List (List Int)} (hA : decode s.data.toList = .sound r b chs) (h : DecPost w s e w') :
    w.grownBy w' none ∧ ∃ lv vs, e = .returned (.tuple #[.agg #[.int .i64 r, .int .i64 b, lv], .int .i64 0, .int .i64 0]) ∧ Subs w' w.heap.size lv vs chs := by
  obtain ⟨hg, h⟩ := h
  rw [hA] at h
  exact ⟨hg, h⟩

theorem Subs.lsTwo {w : World} {base : Nat} {lv : Value} {vs : List Value} {xss : List (List Int)} (h : Subs w base lv vs xss) : Ls2 w lv xss := by
  have hl := h.len
  rcases Nat.eq_zero_or_pos vs.length with h0 | hpos
  · have hx : xss = [] := List.eq_nil_of_length_eq_zero (by omega)
    subst hx
    rcases h.row.2 with ⟨hv, _⟩ | ⟨g, cap, cur, hv, _⟩
    · exact .inl ⟨hv, rfl⟩
    · exact .inr ⟨g, cap, by rw [hv, h0]; rfl, fun i hi => by simp at hi⟩
  · obtain ⟨lg, lcap, hv, _, _, hc⟩ := h.cell hpos
    exact .inr ⟨lg, lcap, by rw [hv, hl], fun i hi => ⟨_, hc i (by omega), (h.own i (by omega)).ls⟩⟩
end Go.Proofs.Ytncmgnmcggkhnaa

namespace Go.Proofs.Ytncmgnmcggkhnaa
open Go.RowKit

theorem bldSize : (Try.prog.info? 95).map (·.size) = some 2 := by kernel_rfl
theorem bldLies : liesAt Try.prog Try.prog.depth 95 (2 / Try.prog.cellsOf 95) 0 95 1 = true := by kernel_rfl
theorem bldPtr : Try.prog.underlying 93 = some (.pointer 95) := by kernel_rfl
theorem bldUns : Try.prog.underlying 153 = some .unsafePointer := by kernel_rfl
theorem bldByteP : Try.prog.underlying 133 = some (.pointer 5) := by kernel_rfl
theorem bldCells : Try.prog.cellsOf 5 = 1 := by kernel_rfl

/-- a builder in memory -/
structure BldS (w : World) (gb base : Nat) (p v : Value) (bs : List UInt8) : Prop where
  box : Box w gb #[p, v] 95
  row : w.ownsRow base 5 1 v bs.length (bs.map byteV)
  lt : gb < base
  ptr : p = .pointer none ∨ p = .pointer (some ⟨gb, 0, none⟩)

theorem Box.shape {w : World} {g : Nat} {cs : Array Value} {t : TypeId} (h : Box w g cs t) : w.shape? g = some (t, cs.size) := by
  unfold Box at h
  simp [World.shape?, h]

set_option maxHeartbeats 1000000 in
set_option maxRecDepth 100000 in
theorem qcopycheck (w : World) (gb : Nat) (p v : Value) (hb : Box w gb #[p, v] 95) (hp : p = .pointer none ∨ p = .pointer (some ⟨gb, 0, none⟩)) :
    Calls Try.prog 71 #[.pointer (some ⟨gb, 0, none⟩)] w fun e w' => e = .returned (.tuple #[]) ∧ Box w' gb #[.pointer (some ⟨gb, 0, none⟩), v] 95 ∧ w.grownBy w' (some gb) := by
  obtain ⟨j, hj, hjs⟩ := Option.map_eq_some_iff.1 bldSize
  rcases hp with rfl | rfl
  · have h0 : w.cell? ⟨gb, 0, none⟩ = some (.pointer none) := hb.cell 0
    have hf := hb.fz 0
    have hsh := hb.shape
    have hset := hb.set 0 (.pointer (some ⟨gb, 0, none⟩))
    go_enter Try.func71, Try.ntmps71
    go_wp2
    rw [Lib.run_to_unsafe w ⟨gb, 0, none⟩ bldPtr bldUns hj (by rw [hjs]; decide) hsh (by simp)]
    simp only [Result.andThen]
    rw [Oper.upon_value]
    go_wp2
    rw [run_callFunc_extern Try.func99 (by kernel_rfl) (by kernel_rfl) (by kernel_rfl) (e := Extern.AbiNoEscape.same) (by kernel_rfl)]
    rw [Lib.run_noEscape]
    simp only [Result.andThen]
    rw [Oper.upon_value]
    go_wp2
    rw [Lib.run_from_unsafe w ⟨gb, 0, none⟩ bldUns bldPtr hj hsh bldLies]
    simp only [Result.andThen]
    rw [Oper.upon_value]
    go_wp2
    exact bodyPost_end (v := .tuple #[]) (by simp [results, Try.results71, go_sem]) rfl ⟨rfl, hset, grown_set _ _ _ _⟩
  · have h0 : w.cell? ⟨gb, 0, none⟩ = some (.pointer (some ⟨gb, 0, none⟩)) := hb.cell 0
    go_enter Try.func71, Try.ntmps71
    go_wp2
    rw [Lib.run_neq_ptr_same w _ bldPtr hj]
    go_wp2
    exact bodyPost_end (v := .tuple #[]) (by simp [results, Try.results71, go_sem]) rfl ⟨rfl, hb, grown_refl _ _⟩

def BldPost (w : World) (gb base : Nat) (bs : List UInt8) (w' : World) : Prop := ∃ v, BldS w' gb base (.pointer (some ⟨gb, 0, none⟩)) v bs ∧ Kp w w' (fun b => b = gb ∨ base ≤ b)

theorem strCells_bytes (s : ByteArray) : Lib.strCells s = s.data.toList.map byteV := by
  unfold Lib.strCells byteV
  rfl

set_option maxHeartbeats 2000000 in
set_option maxRecDepth 100000 in
theorem qbwrite (w : World) (gb base : Nat) (p v : Value) (bs : List UInt8) (s : ByteArray) (h : BldS w gb base p v bs) (hb : base ≤ w.heap.size) (hl : bs.length ≤ 1099511627776) (hs : s.size ≤ 1099511627776) :
    Calls Try.prog 48 #[.pointer (some ⟨gb, 0, none⟩), .string s] w fun e w' => e = .returned (.tuple #[.int .i64 s.size, .nilIface]) ∧ BldPost w gb base (bs ++ s.data.toList) w' := by
  obtain ⟨i0, hi, hz0, hz1, hz2⟩ := info_parts infoU8
  have HCC := qcopycheck w gb p v h.box h.ptr
  obtain ⟨a, cp, rfl⟩ := row_slice h.row
  have hrow := h.row
  have hlt := h.lt
  obtain ⟨n, hn⟩ : ∃ n, bs.length = n := ⟨_, rfl⟩
  rw [hn] at HCC hrow hl
  have HN : Hid (bs.length = n) := hn
  have hnow : ∀ q, (Value.slice a n cp).ownBlock = some q → base ≤ q ∧ q < w.heap.size := fun q hq => World.ownsRow.lt hrow q hq
  clear h hn
  go_enter Try.func48, Try.ntmps48
  go_wp2_with fail
  refine HCC.mono ?_
  rintro e w1 ⟨rfl, hbx, hg1⟩
  have hrow1 := World.ownsRow.kept hrow hg1 (by
    cases hq : (Value.slice a n cp).ownBlock with
    | none => exact .inl rfl
    | some q => exact .inr (fun e => by injection e with e; have := (hnow q hq).1; omega))
  have c1 : w1.cell? ⟨gb, 1, none⟩ = some (.slice a n cp) := hbx.cell 1
  clear HCC hrow
  go_wp2_with (at_builtin; refine Lib.wpList_append_own_string _ rfl _ _ 59 9 rfl base 5 i0 Try.underlying59 Try.underlying9 hi hz0 hz1 hz2 _ _ _ rfl hrow1 s rfl ?c3 ?c4 ?c5 ?_)
  case c3 => unfold maxLen; omega
  case c4 => omega
  case c5 => have := hg1.size; omega
  intro v' w2 hown' hgrow _
  obtain ⟨a', cp', rfl⟩ := row_slice hown'
  have hbx2 := hbx.kept hgrow (fun e => by have := (hnow gb e.symm).1; omega)
  have d1 : w2.cell? ⟨gb, 1, none⟩ = some (.slice a n cp) := hbx2.cell 1
  have f1 := hbx2.fz 1
  have hset := hbx2.set 1 (.slice a' (n + s.size) cp')
  have hsg := grown_set w2 gb 1 (.slice a' (n + s.size) cp')
  have hrow3 := World.ownsRow.kept hown' hsg (by
    cases hq : (Value.slice a' (n + s.size) cp').ownBlock with
    | none => exact .inl rfl
    | some q => exact .inr (fun e => by injection e with e; have := (World.ownsRow.lt hown' q hq).1; omega))
  have hk : Kp w (w2.setCell ⟨gb, 1, none⟩ (.slice a' (n + s.size) cp')) (fun b => b = gb ∨ base ≤ b) := by
    refine ((Kp.mono (Kp.of hg1) (fun b hb => .inl (.inl (by injection hb)))).trans (Kp.of hgrow) (fun b hb => .inl (.inr (hnow b hb.symm).1))).trans (Kp.of hsg) (fun b hb => .inl (.inl (by injection hb)))
  have hpost : BldPost w gb base (bs ++ s.data.toList) (w2.setCell ⟨gb, 1, none⟩ (.slice a' (n + s.size) cp')) := by
    refine ⟨_, ⟨hset, ?_, hlt, .inr rfl⟩, hk⟩
    have hln : (bs ++ s.data.toList).length = n + s.size := by rw [List.length_append, HN.out]; simp
    rw [hln, List.map_append, ← strCells_bytes]
    exact hrow3
  clear hset hrow3 hk hown' hgrow hsg hrow1 hbx hbx2 hg1 hi hz0 hz1 hz2 c1
  go_wp2
  exact bodyPost_ret (v := .tuple #[.int .i64 s.size, .nilIface]) (by simp [results, Try.results48, go_sem]) rfl ⟨rfl, hpost⟩

set_option maxHeartbeats 1000000 in
set_option maxRecDepth 100000 in
theorem qbstring (w : World) (gb base : Nat) (p v : Value) (bs : List UInt8) (h : BldS w gb base p v bs) (h0 : bs ≠ []) :
    Calls Try.prog 52 #[.pointer (some ⟨gb, 0, none⟩)] w fun e w' => e = .returned (.string ⟨bs.toArray⟩) ∧ Below base w w' := by
  have hl0 : 1 ≤ bs.length := List.length_pos_iff.mpr h0
  have hrow := h.row
  obtain ⟨g, cap, cur, rfl, hbg, hg, hnc, hcm, hcs, htake⟩ : ∃ g cap cur, v = .slice (some ⟨g, 0, none⟩) bs.length cap ∧ base ≤ g ∧ w.heap[g]? = some (.cells cur 5 (0, 0)) ∧ bs.length ≤ cap ∧ cap ≤ maxLen ∧ cur.size = cap * 1 ∧ cur.toList.take (bs.length * 1) = bs.map byteV := by
    rcases hrow.2 with ⟨_, hz⟩ | ⟨g, cap, cur, hv, r⟩
    · omega
    · exact ⟨g, cap, cur, hv, r⟩
  have c1 : w.cell? ⟨gb, 1, none⟩ = some (.slice (some ⟨g, 0, none⟩) bs.length cap) := h.box.cell 1
  have hSD : (Builtin.unsafeSliceData_ #[59] 133 #[.slice (some ⟨g, 0, none⟩) bs.length cap]).run Try.prog w.drew = .ok (.pointer (some ⟨g, 0, none⟩)) w.drew :=
    Lib.run_unsafeSliceData_row _ _ _ _ _ _ (by omega)
  have hUS : (Builtin.unsafeString_ #[133, 3] 9 #[.pointer (some ⟨g, 0, none⟩), .int .i64 bs.length]).run Try.prog w.drew = .ok (.string ⟨bs.toArray⟩) (w.drew.freeze ⟨g, 0, none⟩ bs.length) := by
    refine Lib.run_unsafeString_row w.drew 133 3 9 5 bldByteP bldCells g cur.size (by have hg' : w.drew.heap[g]? = some (.cells cur 5 (0, 0)) := hg; simp [World.shape?, hg']) bs h0 (by omega) (by unfold maxLen at hcm; omega) ?_
    intro j x hx
    have hj : j < bs.length := by
      rcases Nat.lt_or_ge j bs.length with h1 | h1
      · exact h1
      · rw [List.getElem?_eq_none h1] at hx; cases hx
    have e : (⟨g, 0, none⟩ : Addr).add j = ⟨g, j, none⟩ := addr_add g j
    rw [e]
    show w.cell? ⟨g, j, none⟩ = _
    rw [World.ownsRow.cellAt hrow j (by omega), List.getElem?_map, hx]
    rfl
  clear hrow hcs htake h
  go_enter Try.func52, Try.ntmps52
  go_wp2
  go_region
  all_goals
    go_wp2
    exact bodyPost_ret (v := .string ⟨bs.toArray⟩) (by simp [results, Try.results52, go_sem]) rfl ⟨rfl, Lib.below_freeze (Below.drew (Below.refl base w)) (p := ⟨g, 0, none⟩) hbg _⟩
end Go.Proofs.Ytncmgnmcggkhnaa
