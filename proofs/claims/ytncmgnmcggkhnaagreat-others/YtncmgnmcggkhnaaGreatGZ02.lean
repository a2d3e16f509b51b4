import Derived.Test.YtncmgnmcggkhnaaGreatGZ01
import Derived.Deep.AppendLies
namespace Go.Proofs.YtncmgnmcggkhnaaGreat
open Go.RowKit

theorem St.drew {t : TypeId} {w : World} {b : Nat} {s : ByteArray} {σ : Option (List Bool)} (h : St t w b s σ) : St t w.drew b s σ :=
  h.kept (grown_drew (grown_refl _ none)) (by simp)

theorem Ends.yes {α : Type} {σ : Option (List Bool)} {y : α} {c : Prop} [Decidable c] (h : c) : Ends (fun l => if c then some (y, l) else none) σ y σ := by
  unfold Ends
  cases σ with
  | none => rfl
  | some l => simp [h]

theorem Ends.no {α : Type} {σ : Option (List Bool)} {y x : α} {c : Prop} [Decidable c] (h : ¬ c) : Ends (fun l => if c then some (y, l) else none) σ x none :=
  Ends.fail (fun _ _ => if_neg h)

theorem rice_ends {σ σ1 σ2 : Option (List Bool)} {k q v : Nat} (h1 : Ends pNoughts σ q σ1) (h2 : Ends (pNum k) σ1 v σ2) (hlt : q * 2 ^ k + v < 2 ^ 32) :
    Ends (pRice k) σ (unfold1 (q * 2 ^ k + v)) σ2 :=
  Ends.bind h1 (q := fun q r => (pNum k r).bind fun (v, r') => if q * 2 ^ k + v < 2 ^ 32 then some (unfold1 (q * 2 ^ k + v), r') else none)
    (Ends.bind h2 (q := fun v r' => if q * 2 ^ k + v < 2 ^ 32 then some (unfold1 (q * 2 ^ k + v), r') else none) (Ends.yes hlt))

theorem rice_fail {σ σ1 σ2 : Option (List Bool)} {k q v : Nat} {x : Int} (h1 : Ends pNoughts σ q σ1) (h2 : Ends (pNum k) σ1 v σ2) (hlt : ¬ q * 2 ^ k + v < 2 ^ 32) :
    Ends (pRice k) σ x none :=
  Ends.bind h1 (q := fun q r => (pNum k r).bind fun (v, r') => if q * 2 ^ k + v < 2 ^ 32 then some (unfold1 (q * 2 ^ k + v), r') else none)
    (Ends.bind h2 (q := fun v r' => if q * 2 ^ k + v < 2 ^ 32 then some (unfold1 (q * 2 ^ k + v), r') else none) (Ends.no hlt))

theorem rice_bound (q k v : Nat) (hq : q ≤ 48000) (hk : k ≤ 30) (hv : v < 2 ^ k) : q * 2 ^ k + v < 70368744177664 := by
  have h : 2 ^ k ≤ 1073741824 := Nat.pow_le_pow_right (n := 2) (j := 30) (by omega) hk
  have : q * 2 ^ k ≤ 48000 * 1073741824 := Nat.mul_le_mul hq h
  omega

theorem unfold1_even (u : Nat) (h : u % 2 = 0) : unfold1 u = (u : Int) / 2 := by unfold unfold1; rw [if_pos h]
theorem unfold1_odd (u : Nat) (h : ¬ u % 2 = 0) : unfold1 u = -(((u : Int) + 1) / 2) := by unfold unfold1; rw [if_neg h]

theorem odd_half (u : Nat) (h : u < 70368744177664) : wrap64 (-((u : Int) + 1).tdiv 2) = -(((u : Int) + 1) / 2) := by
  rw [Int.tdiv_eq_ediv_of_nonneg (by omega), IntWalk.wrap64_in _ ⟨by omega, by omega⟩]

end Go.Proofs.YtncmgnmcggkhnaaGreat

namespace Go.Proofs.YtncmgnmcggkhnaaGreat
open Go.RowKit

/-- a list of ints in memory of the call's own -/
def Own (w : World) (base : Nat) (v : Value) (xs : List Int) : Prop := w.ownsRow base 3 1 v xs.length (xs.map (Value.int .i64))

theorem Tryz.info3 : (Tryz.prog.info? 3).map (fun i => (i.zero, i.size, i.bytes)) = some (some (.int .i64 0), 1, 8) := by kernel_rfl

theorem Own.nil (w : World) (base : Nat) : Own w base (.slice none 0 0) [] := World.ownsRow_nil _ _ _ _

theorem Own.lt {w : World} {base : Nat} {v : Value} {xs : List Int} (h : Own w base v xs) : ∀ k, v.ownBlock = some k → base ≤ k ∧ k < w.heap.size := World.ownsRow.lt h

theorem Own.kept {w w' : World} {base b : Nat} {v : Value} {xs : List Int} (h : Own w base v xs) (hg : w.grownBy w' (some b)) (hb : b < base) : Own w' base v xs := by
  refine World.ownsRow.kept h hg ?_
  cases hv : v.ownBlock with
  | none => exact .inl rfl
  | some k =>
    refine .inr (fun e => ?_)
    injection e with e
    have := (h.lt k hv).1
    omega

theorem Own.step {w w' : World} {base : Nat} {v v' : Value} {xs : List Int} {x : Int} (_h : Own w base v xs)
    (h' : w'.ownsRow base 3 1 v' (xs.length + 1) (xs.map (Value.int .i64) ++ [.int .i64 x])) : Own w' base v' (xs ++ [x]) := by
  unfold Own
  rw [List.length_append, List.length_singleton, List.map_append]
  exact h'

/-- a step that writes one block of the call's own -/
theorem grown_own {w wr w1 : World} {b : Nat} {row : Option Nat} (h : w.grownBy wr (some b)) (hg : wr.grownBy w1 row) (hr : ∀ g, row = some g → w.heap.size ≤ g) : w.grownBy w1 (some b) :=
  ⟨hg.os.trans h.os, hg.tape.trans h.tape, hg.output.trans h.output, Nat.le_trans h.size hg.size,
    fun i hi hib => (hg.block i (Nat.lt_of_lt_of_le hi h.size) (fun e => by have := hr i e.symm; omega)).trans (h.block i hi hib)⟩

theorem grown_from_alloc {w w' : World} {o : Obj} {row : Option Nat} (h : (w.alloc o).grownBy w' row) (_hr : ∀ g, row = some g → g < w.heap.size) : w.grownBy w' row :=
  grown_trans (grown_alloc (grown_refl w row) o) h

theorem one_new (w : World) (x : Int) (ty : TypeId) : ∀ j u, [Value.int .i64 x][j]? = some u → (w.alloc (.cells #[.int .i64 x] ty)).cell? ((⟨w.heap.size, 0, none⟩ : Addr).add j) = some u := by
  intro j u hj
  match j, hj with
  | 0, hj => simp at hj; subst hj; simp [Addr.add]

theorem one_cell (x : Int) : ∀ u ∈ [Value.int .i64 x], u.oneCell' = true := by
  intro u hu
  simp at hu
  subst hu
  rfl

theorem Ends.cases {α : Type} {p : P α} {l : List Bool} {x : α} {σ' : Option (List Bool)} (h : Ends p (some l) x σ') :
    (∃ r, p l = some (x, r) ∧ σ' = some r) ∨ (p l = none ∧ σ' = none) := by
  unfold Ends at h
  cases hp : p l with
  | none => simp [hp] at h; exact .inr ⟨rfl, h⟩
  | some yr =>
    obtain ⟨y, r⟩ := yr
    simp [hp] at h
    exact .inl ⟨r, by rw [h.1], h.2⟩

theorem Ends.of {α : Type} {p : P α} {l : List Bool} {x : α} {r : List Bool} (h : p l = some (x, r)) : Ends p (some l) x (some r) := by
  unfold Ends
  simp [h]

/-! lists that are read one by one -/

def Upto (f : P Int) (n k : Nat) (xs : List Int) (σ σ' : Option (List Bool)) : Prop :=
  (∃ l l' : List Bool, σ = some l ∧ σ' = some l' ∧ xs.length = k ∧ pList f n l = (pList f (n - k) l').map fun (ys, r) => (xs ++ ys, r)) ∨
  (σ' = none ∧ ∀ ys, Ends (pList f n) σ ys none)

theorem Upto.start (f : P Int) (n : Nat) (σ : Option (List Bool)) : Upto f n 0 [] σ σ := by
  cases σ with
  | none => exact .inr ⟨rfl, fun _ => rfl⟩
  | some l =>
    refine .inl ⟨l, l, rfl, rfl, rfl, ?_⟩
    rw [Nat.sub_zero]
    cases pList f n l <;> rfl

theorem Upto.live {f : P Int} {n k : Nat} {xs : List Int} {σ σ' : Option (List Bool)} (h : Upto f n k xs σ σ') (l' : List Bool) (e : σ' = some l') : xs.length = k := by
  rcases h with ⟨_, _, _, _, h, _⟩ | ⟨h, _⟩
  · exact h
  · rw [h] at e; cases e

theorem Upto.next {f : P Int} {n k : Nat} {xs : List Int} {σ σ' σ'' : Option (List Bool)} {x : Int} (h : Upto f n k xs σ σ') (hk : k < n) (hl : σ' ≠ none) (hx : Ends f σ' x σ'') :
    Upto f n (k + 1) (xs ++ [x]) σ σ'' := by
  rcases h with ⟨l, l', rfl, rfl, hlen, hp⟩ | ⟨rfl, _⟩
  · obtain ⟨m, hm⟩ : ∃ m, n - k = m + 1 := ⟨n - k - 1, by omega⟩
    have hm' : n - (k + 1) = m := by omega
    rw [hm] at hp
    have e : pList f (m + 1) l' = (f l').bind fun (x, r) => (pList f m r).map fun (xs, r') => (x :: xs, r') := rfl
    rw [e] at hp
    rcases hx.cases with ⟨r, hf, rfl⟩ | ⟨hf, rfl⟩
    · rw [hf] at hp
      refine .inl ⟨l, r, rfl, rfl, by rw [List.length_append, List.length_singleton, hlen], ?_⟩
      rw [hp, hm']
      show ((pList f m r).map _).map _ = _
      rw [Option.map_map]
      congr 1
      funext z
      obtain ⟨z1, z2⟩ := z
      simp
    · rw [hf] at hp
      refine .inr ⟨rfl, fun ys => Ends.fail (fun l0 e0 => ?_)⟩
      cases e0
      exact hp
  · exact absurd rfl hl

theorem Upto.ends {f : P Int} {n : Nat} {xs : List Int} {σ σ' : Option (List Bool)} (h : Upto f n n xs σ σ') : Ends (pList f n) σ xs σ' := by
  rcases h with ⟨l, l', rfl, rfl, hlen, hp⟩ | ⟨rfl, h⟩
  · refine Ends.of ?_
    rw [hp, Nat.sub_self]
    show some (xs ++ [], l') = _
    simp
  · exact h xs

theorem Upto.dead {f : P Int} {n k : Nat} {xs : List Int} {σ : Option (List Bool)} (h : Upto f n k xs σ none) (ys : List Int) : Ends (pList f n) σ ys none := by
  rcases h with ⟨l, l', rfl, h, _⟩ | ⟨_, h⟩
  · cases h
  · exact h ys

/-- all are numbers of so many signed bits -/
def Signs (wide : Nat) (xs : List Int) : Prop := ∀ x ∈ xs, ∃ v, v < 2 ^ wide ∧ x = sign wide v

theorem Signs.nil (wide : Nat) : Signs wide [] := fun x hx => by cases hx

theorem Signs.snoc {wide : Nat} {xs : List Int} {v : Nat} (h : Signs wide xs) (hv : v < 2 ^ wide) : Signs wide (xs ++ [sign wide v]) := by
  intro y hy
  rcases List.mem_append.1 hy with hy | hy
  · exact h y hy
  · exact ⟨v, hv, List.mem_singleton.1 hy⟩

end Go.Proofs.YtncmgnmcggkhnaaGreat

namespace Go.Proofs.YtncmgnmcggkhnaaGreat
open Go.RowKit

def UptoP (method many order total k : Nat) (xs : List Int) (σ σ' : Option (List Bool)) : Prop :=
  (∃ l l' : List Bool, σ = some l ∧ σ' = some l' ∧ pParts method many order total l = (pParts method many (if k = 0 then order else 0) (total - k) l').map fun (ys, r) => (xs ++ ys, r)) ∨
  (σ' = none ∧ ∀ ys, Ends (pParts method many order total) σ ys none)

theorem UptoP.start (method many order total : Nat) (σ : Option (List Bool)) : UptoP method many order total 0 [] σ σ := by
  cases σ with
  | none => exact .inr ⟨rfl, fun _ => rfl⟩
  | some l =>
    refine .inl ⟨l, l, rfl, rfl, ?_⟩
    rw [Nat.sub_zero, if_pos rfl]
    cases pParts method many order total l <;> rfl

theorem UptoP.next {method many order total k : Nat} {xs ys : List Int} {σ σ' σ'' : Option (List Bool)} (h : UptoP method many order total k xs σ σ') (hk : k < total) (hl : σ' ≠ none)
    (hx : Ends (pPart method (many - (if k = 0 then order else 0))) σ' ys σ'') : UptoP method many order total (k + 1) (xs ++ ys) σ σ'' := by
  rcases h with ⟨l, l', rfl, rfl, hp⟩ | ⟨rfl, _⟩
  · obtain ⟨m, hm⟩ : ∃ m, total - k = m + 1 := ⟨total - k - 1, by omega⟩
    have hm' : total - (k + 1) = m := by omega
    rw [hm] at hp
    generalize (if k = 0 then order else 0) = less at hp hx
    have e : pParts method many less (m + 1) l' = (pPart method (many - less) l').bind fun (xs, r) => (pParts method many 0 m r).map fun (ys, r') => (xs ++ ys, r') := rfl
    rw [e] at hp
    rcases hx.cases with ⟨r, hf, rfl⟩ | ⟨hf, rfl⟩
    · rw [hf] at hp
      refine .inl ⟨l, r, rfl, rfl, ?_⟩
      rw [hp, hm', if_neg (by omega)]
      show ((pParts method many 0 m r).map _).map _ = _
      rw [Option.map_map]
      congr 1
      funext z
      obtain ⟨z1, z2⟩ := z
      simp
    · rw [hf] at hp
      refine .inr ⟨rfl, fun ys => Ends.fail (fun l0 e0 => ?_)⟩
      cases e0
      exact hp
  · exact absurd rfl hl

theorem UptoP.ends {method many order total : Nat} {xs : List Int} {σ σ' : Option (List Bool)} (h : UptoP method many order total total xs σ σ') : Ends (pParts method many order total) σ xs σ' := by
  rcases h with ⟨l, l', rfl, rfl, hp⟩ | ⟨rfl, h⟩
  · refine Ends.of ?_
    rw [hp, Nat.sub_self]
    show some (xs ++ [], l') = _
    simp
  · exact h xs

theorem UptoP.dead {method many order total k : Nat} {xs : List Int} {σ : Option (List Bool)} (h : UptoP method many order total k xs σ none) (ys : List Int) : Ends (pParts method many order total) σ ys none := by
  rcases h with ⟨l, l', rfl, h, _⟩ | ⟨_, h⟩
  · cases h
  · exact h ys

/-- how a part's numbers are read -/
def reads (method k m : Nat) : P Int := if k = 15 + 16 * method then pSigned m else pRice k

theorem part_plain {method cnt k m : Nat} {ys : List Int} {σ σ1 σ2 σ3 : Option (List Bool)} (h1 : Ends (pNum (4 + method)) σ k σ1) (hk : k = 15 + 16 * method)
    (h2 : Ends (pNum 5) σ1 m σ2) (h3 : Ends (pList (reads method k m) cnt) σ2 ys σ3) : Ends (pPart method cnt) σ ys σ3 := by
  unfold reads at h3
  rw [if_pos hk] at h3
  refine Ends.bind h1 (q := fun k r => if k = 15 + 16 * method then (pNum 5 r).bind fun (m, r') => pList (pSigned m) cnt r' else pList (pRice k) cnt r) ?_
  have e : (fun r => if k = 15 + 16 * method then (pNum 5 r).bind fun (m, r') => pList (pSigned m) cnt r' else pList (pRice k) cnt r) = fun r => (pNum 5 r).bind fun (m, r') => pList (pSigned m) cnt r' := by
    funext r; rw [if_pos hk]
  rw [e]
  exact Ends.bind h2 (q := fun m r' => pList (pSigned m) cnt r') h3

theorem part_rice {method cnt k m : Nat} {ys : List Int} {σ σ1 σ3 : Option (List Bool)} (h1 : Ends (pNum (4 + method)) σ k σ1) (hk : ¬ k = 15 + 16 * method)
    (h3 : Ends (pList (reads method k m) cnt) σ1 ys σ3) : Ends (pPart method cnt) σ ys σ3 := by
  unfold reads at h3
  rw [if_neg hk] at h3
  refine Ends.bind h1 (q := fun k r => if k = 15 + 16 * method then (pNum 5 r).bind fun (m, r') => pList (pSigned m) cnt r' else pList (pRice k) cnt r) ?_
  have e : (fun r => if k = 15 + 16 * method then (pNum 5 r).bind fun (m, r') => pList (pSigned m) cnt r' else pList (pRice k) cnt r) = fun r => pList (pRice k) cnt r := by
    funext r; rw [if_neg hk]
  rw [e]
  exact h3

theorem residue_yes {n order method p : Nat} {xs : List Int} {σ σ1 σ2 σ3 : Option (List Bool)} (h1 : Ends (pNum 2) σ method σ1) (h2 : Ends (pNum 4) σ1 p σ2)
    (hc : method ≤ 1 ∧ n % 2 ^ p = 0 ∧ order ≤ n / 2 ^ p) (h3 : Ends (pParts method (n / 2 ^ p) order (2 ^ p)) σ2 xs σ3) : Ends (pResidue n order) σ xs σ3 := by
  refine Ends.bind h1 (q := fun method r => (pNum 4 r).bind fun (p, r') => if method ≤ 1 ∧ n % 2 ^ p = 0 ∧ order ≤ n / 2 ^ p then pParts method (n / 2 ^ p) order (2 ^ p) r' else none) ?_
  refine Ends.bind h2 (q := fun p r' => if method ≤ 1 ∧ n % 2 ^ p = 0 ∧ order ≤ n / 2 ^ p then pParts method (n / 2 ^ p) order (2 ^ p) r' else none) ?_
  have e : (fun r' => if method ≤ 1 ∧ n % 2 ^ p = 0 ∧ order ≤ n / 2 ^ p then pParts method (n / 2 ^ p) order (2 ^ p) r' else none) = pParts method (n / 2 ^ p) order (2 ^ p) := by
    funext r; rw [if_pos hc]
  rw [e]
  exact h3

theorem residue_no {n order method p : Nat} {xs : List Int} {σ σ1 σ2 : Option (List Bool)} (h1 : Ends (pNum 2) σ method σ1) (h2 : Ends (pNum 4) σ1 p σ2)
    (hc : ¬ (method ≤ 1 ∧ n % 2 ^ p = 0 ∧ order ≤ n / 2 ^ p)) : Ends (pResidue n order) σ xs none := by
  refine Ends.bind h1 (q := fun method r => (pNum 4 r).bind fun (p, r') => if method ≤ 1 ∧ n % 2 ^ p = 0 ∧ order ≤ n / 2 ^ p then pParts method (n / 2 ^ p) order (2 ^ p) r' else none) ?_
  refine Ends.bind h2 (q := fun p r' => if method ≤ 1 ∧ n % 2 ^ p = 0 ∧ order ≤ n / 2 ^ p then pParts method (n / 2 ^ p) order (2 ^ p) r' else none) ?_
  exact Ends.fail (fun _ _ => if_neg hc)

theorem residue_dead {n order method p : Nat} {xs : List Int} {σ σ1 : Option (List Bool)} (h1 : Ends (pNum 2) σ method σ1) (h2 : Ends (pNum 4) σ1 p none) : Ends (pResidue n order) σ xs none := by
  refine Ends.bind h1 (q := fun method r => (pNum 4 r).bind fun (p, r') => if method ≤ 1 ∧ n % 2 ^ p = 0 ∧ order ≤ n / 2 ^ p then pParts method (n / 2 ^ p) order (2 ^ p) r' else none) ?_
  exact Ends.bind h2 (q := fun p r' => if method ≤ 1 ∧ n % 2 ^ p = 0 ∧ order ≤ n / 2 ^ p then pParts method (n / 2 ^ p) order (2 ^ p) r' else none) Ends.dead

/-! how many numbers there are -/

theorem pList_length (f : P Int) : ∀ (n : Nat) (l : List Bool) (xs : List Int) (r : List Bool), pList f n l = some (xs, r) → xs.length = n
  | 0, l, xs, r, h => by
    have h' : some (([] : List Int), l) = some (xs, r) := h
    injection h' with h'
    injection h' with h1 h2
    rw [← h1]; rfl
  | n + 1, l, xs, r, h => by
    have h' : ((f l).bind fun (x, r) => (pList f n r).map fun (xs, r') => (x :: xs, r')) = some (xs, r) := h
    cases hf : f l with
    | none => rw [hf] at h'; cases h'
    | some y =>
      obtain ⟨y, r1⟩ := y
      rw [hf] at h'
      have h2 : (pList f n r1).map (fun (xs, r') => (y :: xs, r')) = some (xs, r) := h'
      cases hp : pList f n r1 with
      | none => rw [hp] at h2; cases h2
      | some z =>
        obtain ⟨z, r2⟩ := z
        rw [hp] at h2
        injection h2 with h2
        injection h2 with h3 h4
        rw [← h3, List.length_cons, pList_length f n r1 z r2 hp]

theorem pPart_length (method many : Nat) (l : List Bool) (xs : List Int) (r : List Bool) (h : pPart method many l = some (xs, r)) : xs.length = many := by
  unfold pPart at h
  cases hk : pNum (4 + method) l with
  | none => rw [hk] at h; cases h
  | some k =>
    obtain ⟨k, r1⟩ := k
    rw [hk] at h
    simp only [Option.bind_some] at h
    split at h
    · cases hm : pNum 5 r1 with
      | none => rw [hm] at h; cases h
      | some m =>
        obtain ⟨m, r2⟩ := m
        rw [hm] at h
        exact pList_length _ _ _ _ _ h
    · exact pList_length _ _ _ _ _ h

theorem pParts_length (method many : Nat) : ∀ (c less : Nat) (l : List Bool) (xs : List Int) (r : List Bool), (c = 0 → less = 0) → less ≤ many → pParts method many less c l = some (xs, r) → xs.length + less = c * many
  | 0, less, l, xs, r, h0, _, h => by
    have h' : some (([] : List Int), l) = some (xs, r) := h
    injection h' with h'
    injection h' with h1 h2
    rw [← h1, h0 rfl]; simp
  | c + 1, less, l, xs, r, _, hle, h => by
    have h' : ((pPart method (many - less) l).bind fun (xs, r) => (pParts method many 0 c r).map fun (ys, r') => (xs ++ ys, r')) = some (xs, r) := h
    cases hf : pPart method (many - less) l with
    | none => rw [hf] at h'; cases h'
    | some y =>
      obtain ⟨y, r1⟩ := y
      rw [hf] at h'
      have h2 : (pParts method many 0 c r1).map (fun (ys, r') => (y ++ ys, r')) = some (xs, r) := h'
      cases hp : pParts method many 0 c r1 with
      | none => rw [hp] at h2; cases h2
      | some z =>
        obtain ⟨z, r2⟩ := z
        rw [hp] at h2
        injection h2 with h2
        injection h2 with h3 h4
        have e1 := pPart_length _ _ _ _ _ hf
        have e2 := pParts_length method many c 0 r1 z r2 (fun _ => rfl) (Nat.zero_le _) hp
        rw [← h3, List.length_append, Nat.succ_mul, e1]
        omega

theorem pResidue_length (n order : Nat) (l : List Bool) (xs : List Int) (r : List Bool) (h : pResidue n order l = some (xs, r)) : xs.length + order = n := by
  unfold pResidue at h
  cases hk : pNum 2 l with
  | none => rw [hk] at h; cases h
  | some k =>
    obtain ⟨k, r1⟩ := k
    rw [hk] at h
    simp only [Option.bind_some] at h
    cases hm : pNum 4 r1 with
    | none => rw [hm] at h; cases h
    | some m =>
      obtain ⟨m, r2⟩ := m
      rw [hm] at h
      simp only [Option.bind_some] at h
      split at h
      · rename_i hc
        have hp := Nat.two_pow_pos m
        have e := pParts_length k (n / 2 ^ m) (2 ^ m) order r2 xs r (fun h0 => by omega) hc.2.2 h
        rw [e, Nat.mul_comm]
        exact Nat.div_mul_cancel (Nat.dvd_of_mod_eq_zero hc.2.1)
      · cases h

def Mid (xs : List Int) : Prop := ∀ x ∈ xs, -70368744177664 ≤ x ∧ x ≤ 70368744177664

theorem Mid.nil : Mid [] := fun x hx => by cases hx

theorem Mid.snoc {xs : List Int} {x : Int} (h : Mid xs) (hx : -70368744177664 ≤ x ∧ x ≤ 70368744177664) : Mid (xs ++ [x]) := by
  intro y hy
  rcases List.mem_append.1 hy with hy | hy
  · exact h y hy
  · rw [List.mem_singleton.1 hy]; exact hx

end Go.Proofs.YtncmgnmcggkhnaaGreat

namespace Go.Proofs.YtncmgnmcggkhnaaGreat
open Go.RowKit

theorem pow_le15 (p : Nat) (h : p < 16) : 2 ^ p ≤ 32768 := Nat.pow_le_pow_right (n := 2) (j := 15) (by omega) (by omega)

theorem zs_len {zs xs ys : List Int} {j c : Nat} (h : zs = xs ++ ys) (hj : ys.length ≤ j) (hc : xs.length ≤ c) : zs.length ≤ c + j := by
  rw [h, List.length_append]; omega

theorem kk_le (method kk : Nat) (h : method ≤ 1) (hk : kk < 2 ^ (4 + method)) : kk ≤ 15 + 16 * method := by
  rcases (show method = 0 ∨ method = 1 by omega) with rfl | rfl
  · have : kk < 16 := hk
    omega
  · have : kk < 32 := hk
    omega

end Go.Proofs.YtncmgnmcggkhnaaGreat

namespace Go.Proofs.YtncmgnmcggkhnaaGreat
open Go.RowKit

theorem tdiv2 (n : Int) (h : n < 0) : n.tdiv 2 = -((-n) / 2) := by
  have e := Int.neg_tdiv (-n) 2
  rw [Int.neg_neg, Int.tdiv_eq_ediv_of_nonneg (a := -n) (by omega)] at e
  exact e

theorem tmod2 (n : Int) (h : n < 0) : n.tmod 2 = -((-n) % 2) := by
  have e := Int.neg_tmod (-n) 2
  rw [Int.neg_neg, Int.tmod_eq_emod_of_nonneg (a := -n) (by omega)] at e
  exact e

theorem fitsB_iff (bits : Nat) (x : Int) : fitsB bits x = true ↔ -(2 ^ (bits - 1) : Int) ≤ x ∧ x < 2 ^ (bits - 1) := by
  unfold fitsB
  rw [Bool.and_eq_true, decide_eq_true_eq, decide_eq_true_eq, show ((2 ^ (bits - 1) : Nat) : Int) = 2 ^ (bits - 1) by simp]

theorem Own.alloc {w : World} {base : Nat} {v : Value} {xs : List Int} (h : Own w base v xs) (o : Obj) : Own (w.alloc o) base v xs := World.ownsRow.alloc h o

/-- a list that is written out -/
theorem own_lit (w : World) (base : Nat) (xs : List Int) (cs : Array Value) (n g : Nat) (hb : base ≤ w.heap.size) (hcs : cs = (xs.map (Value.int .i64)).toArray) (hn : xs.length = n) (hm : n ≤ maxLen) (hg : g = w.heap.size) :
    Own (w.alloc (.cells cs 3)) base (.slice (some ⟨g, 0, none⟩) n n) xs := by
  subst hg hn hcs
  unfold Own
  have := World.ownsRow_lit (base := base) (e := 3) (size := 1) w ((xs.map (Value.int .i64)).toArray) xs.length hb hm (by simp)
  simpa using this

theorem own_at0 (w : World) (o1 o2 o3 o4 o5 : Obj) (xs : List Int) (cs : Array Value) (n : Nat) (hcs : cs = (xs.map (Value.int .i64)).toArray) (hn : xs.length = n) (hm : n ≤ maxLen) :
    Own ((((((w.alloc (.cells cs 3)).alloc o1).alloc o2).alloc o3).alloc o4).alloc o5) w.heap.size (.slice (some ⟨w.heap.size, 0, none⟩) n n) xs :=
  (((((own_lit w w.heap.size xs cs n (w.heap.size) (Nat.le_refl _) hcs hn hm rfl).alloc _).alloc _).alloc _).alloc _).alloc _

theorem own_at1 (w : World) (o0 o2 o3 o4 o5 : Obj) (xs : List Int) (cs : Array Value) (n : Nat) (hcs : cs = (xs.map (Value.int .i64)).toArray) (hn : xs.length = n) (hm : n ≤ maxLen) :
    Own ((((((w.alloc o0).alloc (.cells cs 3)).alloc o2).alloc o3).alloc o4).alloc o5) w.heap.size (.slice (some ⟨w.heap.size + 1, 0, none⟩) n n) xs :=
  ((((own_lit (w.alloc o0) w.heap.size xs cs n (w.heap.size + 1) (by simp <;> omega) hcs hn hm (by simp)).alloc _).alloc _).alloc _).alloc _

theorem own_at2 (w : World) (o0 o1 o3 o4 o5 : Obj) (xs : List Int) (cs : Array Value) (n : Nat) (hcs : cs = (xs.map (Value.int .i64)).toArray) (hn : xs.length = n) (hm : n ≤ maxLen) :
    Own ((((((w.alloc o0).alloc o1).alloc (.cells cs 3)).alloc o3).alloc o4).alloc o5) w.heap.size (.slice (some ⟨w.heap.size + 1 + 1, 0, none⟩) n n) xs :=
  (((own_lit ((w.alloc o0).alloc o1) w.heap.size xs cs n (w.heap.size + 1 + 1) (by simp <;> omega) hcs hn hm (by simp)).alloc _).alloc _).alloc _

theorem own_at3 (w : World) (o0 o1 o2 o4 o5 : Obj) (xs : List Int) (cs : Array Value) (n : Nat) (hcs : cs = (xs.map (Value.int .i64)).toArray) (hn : xs.length = n) (hm : n ≤ maxLen) :
    Own ((((((w.alloc o0).alloc o1).alloc o2).alloc (.cells cs 3)).alloc o4).alloc o5) w.heap.size (.slice (some ⟨w.heap.size + 1 + 1 + 1, 0, none⟩) n n) xs :=
  ((own_lit (((w.alloc o0).alloc o1).alloc o2) w.heap.size xs cs n (w.heap.size + 1 + 1 + 1) (by simp <;> omega) hcs hn hm (by simp)).alloc _).alloc _

theorem own_at4 (w : World) (o0 o1 o2 o3 o5 : Obj) (xs : List Int) (cs : Array Value) (n : Nat) (hcs : cs = (xs.map (Value.int .i64)).toArray) (hn : xs.length = n) (hm : n ≤ maxLen) :
    Own ((((((w.alloc o0).alloc o1).alloc o2).alloc o3).alloc (.cells cs 3)).alloc o5) w.heap.size (.slice (some ⟨w.heap.size + 1 + 1 + 1 + 1, 0, none⟩) n n) xs :=
  (own_lit ((((w.alloc o0).alloc o1).alloc o2).alloc o3) w.heap.size xs cs n (w.heap.size + 1 + 1 + 1 + 1) (by simp <;> omega) hcs hn hm (by simp)).alloc _

theorem six_new (w : World) (o0 o1 o2 o3 o4 o5 : Obj) : w.grownBy ((((((w.alloc o0).alloc o1).alloc o2).alloc o3).alloc o4).alloc o5) none :=
  grown_alloc (grown_alloc (grown_alloc (grown_alloc (grown_alloc (grown_alloc (grown_refl _ _) _) _) _) _) _) _

end Go.Proofs.YtncmgnmcggkhnaaGreat

namespace Go.Proofs.YtncmgnmcggkhnaaGreat
open Go.RowKit

/-- below `base`, but for block `b`, all is as it was -/
structure Chg (base b : Nat) (w w' : World) : Prop where
  os : w'.os = w.os
  tape : w'.tape = w.tape
  output : w'.output = w.output
  size : w.heap.size ≤ w'.heap.size
  block : ∀ k, k < base → k ≠ b → w'.heap[k]? = w.heap[k]?

theorem Chg.refl (base b : Nat) (w : World) : Chg base b w w := ⟨rfl, rfl, rfl, Nat.le_refl _, fun _ _ _ => rfl⟩
theorem Chg.trans {base b : Nat} {w w' w'' : World} (h : Chg base b w w') (k : Chg base b w' w'') : Chg base b w w'' :=
  ⟨k.os.trans h.os, k.tape.trans h.tape, k.output.trans h.output, Nat.le_trans h.size k.size, fun i hi hb => (k.block i hi hb).trans (h.block i hi hb)⟩
theorem Chg.of {base b : Nat} {w w' : World} (h : w.grownBy w' (some b)) (hb : base ≤ w.heap.size) : Chg base b w w' :=
  ⟨h.os, h.tape, h.output, h.size, fun k hk hne => h.block k (by omega) (fun e => hne (by injection e))⟩
theorem Chg.own {base b : Nat} {w w' : World} {row : Option Nat} (h : w.grownBy w' row) (hb : base ≤ w.heap.size) (hr : ∀ g, row = some g → base ≤ g) : Chg base b w w' :=
  ⟨h.os, h.tape, h.output, h.size, fun k hk _ => h.block k (by omega) (fun e => by have := hr k e.symm; omega)⟩
theorem Chg.grown {b : Nat} {w w' : World} (h : Chg w.heap.size b w w') : w.grownBy w' (some b) :=
  ⟨h.os, h.tape, h.output, h.size, fun k hk hne => h.block k hk (fun e => hne (by rw [e]))⟩
theorem Chg.mono {base base' b : Nat} {w w' : World} (h : Chg base b w w') (hb : base' ≤ base) : Chg base' b w w' :=
  ⟨h.os, h.tape, h.output, h.size, fun k hk hne => h.block k (by omega) hne⟩

/-- a list of ints that lies at the head of block `g` -/
def Row (w : World) (base g n cap : Nat) (xs : List Int) : Prop := w.ownsRow base 3 1 (.slice (some ⟨g, 0, none⟩) n cap) n (xs.map (Value.int .i64))

theorem Row.lt {w : World} {base g n cap : Nat} {xs : List Int} (h : Row w base g n cap xs) : base ≤ g ∧ g < w.heap.size := World.ownsRow.lt h g rfl

theorem Row.len {w : World} {base g n cap : Nat} {xs : List Int} (h : Row w base g n cap xs) : xs.length = n := by
  have := h.1
  simpa using this

theorem Row.cell {w : World} {base g n cap : Nat} {xs : List Int} (h : Row w base g n cap xs) (j : Nat) (hj : j < n) : w.cell? ⟨g, j, none⟩ = some (.int .i64 (xs.getD j 0)) := by
  have e := World.ownsRow.cellAt h j (by omega)
  have hl := h.len
  rw [e, List.getElem?_map, List.getElem?_eq_getElem (by omega)]
  simp [List.getD, List.getElem?_eq_getElem (show j < xs.length by omega)]

theorem Row.fz {w : World} {base g n cap : Nat} {xs : List Int} (h : Row w base g n cap xs) (j : Nat) : w.frozen? ⟨g, j, none⟩ = false := World.ownsRow.frozenAt h j

theorem Row.kept {w w' : World} {base g n cap : Nat} {xs : List Int} {row : Option Nat} (h : Row w base g n cap xs) (hg : w.grownBy w' row) (hne : some g ≠ row) : Row w' base g n cap xs :=
  World.ownsRow.kept h hg (.inr hne)

theorem Own.row {w : World} {base : Nat} {v : Value} {xs : List Int} (h : Own w base v xs) : (v = .slice none 0 0 ∧ xs = []) ∨ ∃ g cap, v = .slice (some ⟨g, 0, none⟩) xs.length cap ∧ Row w base g xs.length cap xs := by
  rcases h.2 with ⟨h1, h2⟩ | ⟨g, cap, cur, hv, r⟩
  · exact .inl ⟨h1, List.eq_nil_of_length_eq_zero h2⟩
  · subst hv
    exact .inr ⟨g, cap, rfl, h⟩

theorem Row.own {w : World} {base g n cap : Nat} {xs : List Int} (h : Row w base g n cap xs) : Own w base (.slice (some ⟨g, 0, none⟩) n cap) xs := by
  unfold Own
  rw [h.len]
  exact h

/-! what is foretold -/

theorem dot_take_succ : ∀ (fs bs : List Int) (j : Nat) (h1 : j < fs.length) (h2 : j < bs.length), dot (fs.take (j + 1)) bs = dot (fs.take j) bs + fs[j] * bs[j]
  | f :: fs, a :: bs, 0, _, _ => by simp [dot]
  | f :: fs, a :: bs, j + 1, h1, h2 => by
    have h1' : j < fs.length := by simpa using h1
    have h2' : j < bs.length := by simpa using h2
    have e := dot_take_succ fs bs j h1' h2'
    show f * a + dot (fs.take (j + 1)) bs = f * a + dot (fs.take j) bs + fs[j] * bs[j]
    rw [e]; omega

theorem dot_take_zero (fs bs : List Int) : dot (fs.take 0) bs = 0 := by simp [dot]

theorem rev_get (xs : List Int) (j : Nat) (h : j < xs.length) : xs.reverse[j]'(by simpa using h) = xs.getD (xs.length - 1 - j) 0 := by
  rw [List.getElem_reverse]
  simp [List.getD, List.getElem?_eq_getElem (show xs.length - 1 - j < xs.length by omega)]

def Abs (B : Int) (xs : List Int) : Prop := ∀ x ∈ xs, -B ≤ x ∧ x ≤ B

theorem Abs.get {B : Int} {xs : List Int} (h : Abs B xs) (hB : 0 ≤ B) (j : Nat) : -B ≤ xs.getD j 0 ∧ xs.getD j 0 ≤ B := by
  by_cases hj : j < xs.length
  · simp only [List.getD, List.getElem?_eq_getElem hj, Option.getD_some]
    exact h _ (List.getElem_mem hj)
  · simp only [List.getD, List.getElem?_eq_none (show xs.length ≤ j by omega), Option.getD_none]
    omega

theorem mul_bound (f x : Int) (h1 : -32768 ≤ f ∧ f ≤ 32768) (h2 : -65536 ≤ x ∧ x ≤ 65536) : -2147483648 ≤ f * x ∧ f * x ≤ 2147483648 := by
  have ha : f.natAbs ≤ 32768 := by omega
  have hb : x.natAbs ≤ 65536 := by omega
  have hm : (f * x).natAbs ≤ 32768 * 65536 := by
    rw [Int.natAbs_mul]
    exact Nat.mul_le_mul ha hb
  omega

theorem predict_step (wide : Nat) (factors : List Int) (shift : Nat) (xs res : List Int) (k : Nat) (hk : k < res.length) (x : Int) (hx : x = dot factors xs.reverse / 2 ^ shift + res.getD k 0) :
    predict wide factors shift xs.reverse (res.drop k) = if fitsB wide x then predict wide factors shift (xs ++ [x]).reverse (res.drop (k + 1)) else none := by
  rw [List.drop_eq_getElem_cons hk]
  have e : res.getD k 0 = res[k] := by simp [List.getD, List.getElem?_eq_getElem hk]
  rw [e] at hx
  subst hx
  rw [List.reverse_append]
  rfl

theorem predict_end (wide : Nat) (factors : List Int) (shift : Nat) (xs : List Int) : predict wide factors shift xs.reverse [] = some xs := by
  show some xs.reverse.reverse = some xs
  rw [List.reverse_reverse]

theorem fits_abs (wide : Nat) (hw : wide ≤ 17) (x : Int) (h : fitsB wide x = true) : -65536 ≤ x ∧ x ≤ 65536 := by
  have h1 := (fitsB_iff _ _).1 h
  have h2 : (2 : Int) ^ (wide - 1) ≤ 65536 := by
    rw [show (2 : Int) ^ (wide - 1) = ((2 ^ (wide - 1) : Nat) : Int) by simp]
    have : 2 ^ (wide - 1) ≤ 2 ^ 16 := Nat.pow_le_pow_right (by omega) (by omega)
    omega
  omega

theorem sign_fits (wide v : Nat) (hw : 1 ≤ wide) (hv : v < 2 ^ wide) : fitsB wide (sign wide v) = true := by
  rw [fitsB_iff]
  obtain ⟨m, rfl⟩ : ∃ m, wide = m + 1 := ⟨wide - 1, by omega⟩
  have e : (2 : Int) ^ (m + 1) = 2 ^ m * 2 := by rw [Int.pow_succ]
  have e2 : ((2 ^ m : Nat) : Int) = (2 : Int) ^ m := by simp
  have e3 : 2 ^ (m + 1) = 2 ^ m * 2 := Nat.pow_succ 2 m
  show -(2 ^ m : Int) ≤ _ ∧ _ < (2 : Int) ^ m
  rcases Nat.lt_or_ge v (2 ^ m) with h | h
  · rw [sign_pos _ _ h]; omega
  · rw [sign_neg _ _ (by omega) h, e]; omega

theorem Signs.abs {wide : Nat} {xs : List Int} (h : Signs wide xs) (h1 : 1 ≤ wide) (hw : wide ≤ 17) : Abs 65536 xs := by
  intro x hx
  obtain ⟨v, hv, rfl⟩ := h x hx
  exact fits_abs wide hw _ (sign_fits wide v h1 hv)

theorem Signs.abs15 {wide : Nat} {xs : List Int} (h : Signs wide xs) (h1 : 1 ≤ wide) (hw : wide ≤ 16) : Abs 32768 xs := by
  intro x hx
  obtain ⟨v, hv, rfl⟩ := h x hx
  have h1 := (fitsB_iff _ _).1 (sign_fits wide v h1 hv)
  have h2 : (2 : Int) ^ (wide - 1) ≤ 32768 := by
    rw [show (2 : Int) ^ (wide - 1) = ((2 ^ (wide - 1) : Nat) : Int) by simp]
    have : 2 ^ (wide - 1) ≤ 2 ^ 15 := Nat.pow_le_pow_right (by omega) (by omega)
    omega
  omega

theorem foretold_ends {n wide shift : Nat} {first factors res xs : List Int} {σ σ1 : Option (List Bool)} (h1 : Ends (pResidue n first.length) σ res σ1)
    (h2 : predict wide factors shift first.reverse res = some xs) : Ends (pForetold n wide first factors shift) σ xs σ1 := by
  refine Ends.bind h1 (q := fun res r => (predict wide factors shift first.reverse res).map fun xs => (xs, r)) ?_
  unfold Ends
  cases σ1 with
  | none => rfl
  | some l => simp [h2]

theorem foretold_fail {n wide shift : Nat} {first factors res xs : List Int} {σ σ1 : Option (List Bool)} (h1 : Ends (pResidue n first.length) σ res σ1)
    (h2 : predict wide factors shift first.reverse res = none) : Ends (pForetold n wide first factors shift) σ xs none := by
  refine Ends.bind h1 (q := fun res r => (predict wide factors shift first.reverse res).map fun xs => (xs, r)) ?_
  exact Ends.fail (fun l _ => by rw [h2]; rfl)

theorem foretold_dead {n wide shift : Nat} {first factors res xs : List Int} {σ : Option (List Bool)} (h1 : Ends (pResidue n first.length) σ res none) :
    Ends (pForetold n wide first factors shift) σ xs none :=
  Ends.bind h1 (q := fun res r => (predict wide factors shift first.reverse res).map fun xs => (xs, r)) Ends.dead

theorem residue_len {n order : Nat} {res : List Int} {σ : Option (List Bool)} {l : List Bool} (h : Ends (pResidue n order) σ res (some l)) : res.length + order = n := by
  cases σ with
  | none => cases h
  | some l0 =>
    rcases h.cases with ⟨r, hp, _⟩ | ⟨_, h⟩
    · exact pResidue_length _ _ _ _ _ hp
    · cases h

end Go.Proofs.YtncmgnmcggkhnaaGreat
