import Derived.Test.YtncmgnmcggkhnaaGreatGZ03
namespace Go.Proofs.YtncmgnmcggkhnaaGreat
open Go.RowKit

theorem Tryz.info22 : (Tryz.prog.info? 22).map (fun i => (i.zero, i.size, i.bytes)) = some (some (.slice none 0 0), 1, 24) := by kernel_rfl

/-- a list of lists in memory of the call's own: each in a block of its own -/
structure Subs (w : World) (base : Nat) (lv : Value) (vs : List Value) (xss : List (List Int)) : Prop where
  row : w.ownsRow base 22 1 lv vs.length vs
  len : vs.length = xss.length
  own : ∀ i, i < vs.length → Own w base (vs.getD i undef) (xss.getD i [])
  apartL : ∀ i g, i < vs.length → (vs.getD i undef).ownBlock = some g → lv.ownBlock ≠ some g
  apartV : ∀ i j g, i < j → j < vs.length → (vs.getD i undef).ownBlock = some g → (vs.getD j undef).ownBlock ≠ some g

theorem Subs.nil (w : World) (base : Nat) : Subs w base (.slice none 0 0) [] [] :=
  ⟨World.ownsRow_nil _ _ _ _, rfl, fun i hi => by simp at hi, fun i g hi => by simp at hi, fun i j g _ hj => by simp at hj⟩

theorem Subs.kept {w w' : World} {base b : Nat} {lv : Value} {vs : List Value} {xss : List (List Int)} (h : Subs w base lv vs xss) (hg : w.grownBy w' (some b)) (hb : b < base) : Subs w' base lv vs xss := by
  refine ⟨World.ownsRow.kept h.row hg ?_, h.len, fun i hi => (h.own i hi).kept hg hb, h.apartL, h.apartV⟩
  cases hv : lv.ownBlock with
  | none => exact .inl rfl
  | some k =>
    refine .inr (fun e => ?_)
    injection e with e
    have := (World.ownsRow.lt h.row k hv).1
    omega

theorem getD_snoc_lt {α : Type} (l : List α) (x d : α) (i : Nat) (h : i < l.length) : (l ++ [x]).getD i d = l.getD i d := by
  simp [List.getD, List.getElem?_append_left h]
theorem getD_snoc_eq {α : Type} (l : List α) (x d : α) : (l ++ [x]).getD l.length d = x := by
  simp [List.getD]

/-- one more, behind an append that says where the new row lies; `w1`: the world ahead of the append, `v` made there -/
theorem Subs.snoc {w w1 w2 : World} {base g cap H : Nat} {lv v : Value} {vs : List Value} {xss : List (List Int)} {xs : List Int} (h : Subs w base lv vs xss) (_hw : w.heap.size ≤ w1.heap.size)
    (h1 : Subs w1 base lv vs xss) (hv : Own w1 w.heap.size v xs) (hbase : base ≤ w.heap.size) (hg : w1.grownBy w2 lv.ownBlock) (hat : lv.ownBlock = some g ∨ g = H) (hH : w1.heap.size ≤ H)
    (hrow : w2.ownsRow base 22 1 (.slice (some ⟨g, 0, none⟩) (vs.length + 1) cap) (vs.length + 1) (vs ++ [v])) :
    Subs w2 base (.slice (some ⟨g, 0, none⟩) (vs.length + 1) cap) (vs ++ [v]) (xss ++ [xs]) := by
  have hvlt : ∀ q, v.ownBlock = some q → w.heap.size ≤ q ∧ q < w1.heap.size := fun q hq => hv.lt q hq
  have holdlt : ∀ i q, i < vs.length → (vs.getD i undef).ownBlock = some q → q < w.heap.size := fun i q hi hq => ((h.own i hi).lt q hq).2
  have hlvlt : ∀ q, lv.ownBlock = some q → q < w.heap.size := fun q hq => (World.ownsRow.lt h.row q hq).2
  refine ⟨by rw [List.length_append, List.length_singleton]; exact hrow, by rw [List.length_append, List.length_append, h.len]; rfl, ?_, ?_, ?_⟩
  · intro i hi
    rw [List.length_append, List.length_singleton] at hi
    rcases (show i < vs.length ∨ i = vs.length by omega) with hi | rfl
    · rw [getD_snoc_lt _ _ _ _ hi, getD_snoc_lt _ _ _ _ (by rw [← h.len]; exact hi)]
      refine World.ownsRow.kept (h1.own i hi) hg ?_
      cases hq : (vs.getD i undef).ownBlock with
      | none => exact .inl rfl
      | some q => exact .inr (fun e => h1.apartL i q hi hq e.symm)
    · rw [getD_snoc_eq, h.len, getD_snoc_eq]
      refine World.ownsRow.kept (Own.mono hv hbase) hg ?_
      cases hq : v.ownBlock with
      | none => exact .inl rfl
      | some q =>
        refine .inr (fun e => ?_)
        have h2 := (hvlt q hq).1
        have h3 := hlvlt q e.symm
        omega
  · intro i q hi hq e
    rw [List.length_append, List.length_singleton] at hi
    have e' : g = q := by simpa [Value.ownBlock] using e
    subst e'
    rcases (show i < vs.length ∨ i = vs.length by omega) with hi | rfl
    · rw [getD_snoc_lt _ _ _ _ hi] at hq
      rcases hat with hat | hat
      · exact h.apartL i g hi hq hat
      · have := holdlt i g hi hq; omega
    · rw [getD_snoc_eq] at hq
      rcases hat with hat | hat
      · have h2 := (hvlt g hq).1
        have h3 := hlvlt g hat
        omega
      · have := (hvlt g hq).2; omega
  · intro i j q hij hj hq hq2
    rw [List.length_append, List.length_singleton] at hj
    rw [getD_snoc_lt _ _ _ _ (by omega)] at hq
    rcases (show j < vs.length ∨ j = vs.length by omega) with hj | rfl
    · rw [getD_snoc_lt _ _ _ _ hj] at hq2
      exact h.apartV i j q hij hj hq hq2
    · rw [getD_snoc_eq] at hq2
      have h2 := (hvlt q hq2).1
      have h3 := holdlt i q hij hq
      omega

/-! channels one by one -/

def UptoC (n bits mode total k : Nat) (xss : List (List Int)) (σ σ' : Option (List Bool)) : Prop :=
  (∃ l l' : List Bool, σ = some l ∧ σ' = some l' ∧ pChannels n bits mode total 0 l = (pChannels n bits mode (total - k) k l').map fun (ys, r) => (xss ++ ys, r)) ∨
  (σ' = none ∧ ∀ ys, Ends (pChannels n bits mode total 0) σ ys none)

theorem UptoC.start (n bits mode total : Nat) (l : List Bool) : UptoC n bits mode total 0 [] (some l) (some l) := by
  refine .inl ⟨l, l, rfl, rfl, ?_⟩
  rw [Nat.sub_zero]
  cases pChannels n bits mode total 0 l <;> rfl

theorem UptoC.next {n bits mode total k : Nat} {xss : List (List Int)} {xs : List Int} {σ σ' σ'' : Option (List Bool)} (h : UptoC n bits mode total k xss σ σ') (hk : k < total)
    (hx : Ends (pSubframe n (bits + extra mode k)) σ' xs σ'') : UptoC n bits mode total (k + 1) (xss ++ [xs]) σ σ'' := by
  rcases h with ⟨l, l', rfl, rfl, hp⟩ | ⟨rfl, hd⟩
  · obtain ⟨m, hm⟩ : ∃ m, total - k = m + 1 := ⟨total - k - 1, by omega⟩
    have hm' : total - (k + 1) = m := by omega
    rw [hm] at hp
    have e : pChannels n bits mode (m + 1) k l' = (pSubframe n (bits + extra mode k) l').bind fun (x, r) => (pChannels n bits mode m (k + 1) r).map fun (xs, r') => (x :: xs, r') := rfl
    rw [e] at hp
    rcases hx.cases with ⟨r, hf, rfl⟩ | ⟨hf, rfl⟩
    · rw [hf] at hp
      refine .inl ⟨l, r, rfl, rfl, ?_⟩
      rw [hp, hm']
      show ((pChannels n bits mode m (k + 1) r).map _).map _ = _
      rw [Option.map_map]
      congr 1
      funext z
      obtain ⟨z1, z2⟩ := z
      simp
    · rw [hf] at hp
      refine .inr ⟨rfl, fun ys => Ends.fail (fun l0 e0 => ?_)⟩
      cases e0
      exact hp
  · exact .inr ⟨hx, hd⟩

theorem UptoC.ends {n bits mode total : Nat} {xss : List (List Int)} {σ σ' : Option (List Bool)} (h : UptoC n bits mode total total xss σ σ') : Ends (pChannels n bits mode total 0) σ xss σ' := by
  rcases h with ⟨l, l', rfl, rfl, hp⟩ | ⟨rfl, h⟩
  · refine Ends.of ?_
    rw [hp, Nat.sub_self]
    show some (xss ++ [], l') = _
    simp
  · exact h xss

/-! the frame's own answer -/

theorem pFrame_head_none {h : Head} {number : Nat} {bytes : List UInt8} {x : Nat × Nat} (hh : Ends (pHead h number bytes) (some (bitsOf bytes)) x none) : pFrame h number bytes = none := by
  rcases hh.cases with ⟨r, _, e⟩ | ⟨e, _⟩
  · cases e
  · unfold pFrame
    rw [e]
    rfl

theorem pFrame_subs_none {h : Head} {number mode n : Nat} {bytes : List UInt8} {l : List Bool} {xss : List (List Int)} (hh : Ends (pHead h number bytes) (some (bitsOf bytes)) (mode, n) (some l))
    (hc : Ends (pChannels n h.bits mode h.channels 0) (some l) xss none) : pFrame h number bytes = none := by
  rcases hh.cases with ⟨r, e, e2⟩ | ⟨_, e⟩
  · cases e2
    rcases hc.cases with ⟨r, _, e3⟩ | ⟨e3, _⟩
    · cases e3
    · unfold pFrame
      rw [e]
      simp only [Option.bind_some, e3]
      rfl
  · cases e

theorem pFrame_pad_none {h : Head} {number mode n : Nat} {bytes : List UInt8} {l l1 : List Bool} {xss : List (List Int)} (hh : Ends (pHead h number bytes) (some (bitsOf bytes)) (mode, n) (some l))
    (hc : Ends (pChannels n h.bits mode h.channels 0) (some l) xss (some l1)) (hp : Ends (pMust (l1.length % 8) 0) (some l1) () none) : pFrame h number bytes = none := by
  rcases hh.cases with ⟨r, e, e2⟩ | ⟨_, e⟩
  · cases e2
    rcases hc.cases with ⟨r, e3, e4⟩ | ⟨_, e4⟩
    · cases e4
      rcases hp.cases with ⟨r, _, e5⟩ | ⟨e5, _⟩
      · cases e5
      · unfold pFrame
        rw [e]
        simp only [Option.bind_some, e3, e5]
        rfl
    · cases e4
  · cases e

theorem pFrame_sum_none {h : Head} {number mode n : Nat} {bytes : List UInt8} {l l1 l2 : List Bool} {xss : List (List Int)} (hh : Ends (pHead h number bytes) (some (bitsOf bytes)) (mode, n) (some l))
    (hc : Ends (pChannels n h.bits mode h.channels 0) (some l) xss (some l1)) (hp : Ends (pMust (l1.length % 8) 0) (some l1) () (some l2))
    (hq : Ends (pMust 16 (crc 16 32773 (bytes.take (bytes.length - l2.length / 8)))) (some l2) () none) : pFrame h number bytes = none := by
  rcases hh.cases with ⟨r, e, e2⟩ | ⟨_, e⟩
  · cases e2
    rcases hc.cases with ⟨r, e3, e4⟩ | ⟨_, e4⟩
    · cases e4
      rcases hp.cases with ⟨r, e5, e6⟩ | ⟨_, e6⟩
      · cases e6
        rcases hq.cases with ⟨r, _, e7⟩ | ⟨e7, _⟩
        · cases e7
        · unfold pFrame
          rw [e]
          simp only [Option.bind_some, e3, e5, e7]
          rfl
      · cases e6
    · cases e4
  · cases e

theorem pFrame_last {h : Head} {number mode n : Nat} {bytes : List UInt8} {l l1 l2 l3 : List Bool} {xss : List (List Int)} (hh : Ends (pHead h number bytes) (some (bitsOf bytes)) (mode, n) (some l))
    (hc : Ends (pChannels n h.bits mode h.channels 0) (some l) xss (some l1)) (hp : Ends (pMust (l1.length % 8) 0) (some l1) () (some l2))
    (hq : Ends (pMust 16 (crc 16 32773 (bytes.take (bytes.length - l2.length / 8)))) (some l2) () (some l3)) :
    pFrame h number bytes = if (apart mode xss).all (fun c => c.all (fitsB h.bits)) = true then some (apart mode xss, bytes.drop (bytes.length - l3.length / 8)) else none := by
  rcases hh.cases with ⟨r, e, e2⟩ | ⟨_, e⟩
  · cases e2
    rcases hc.cases with ⟨r, e3, e4⟩ | ⟨_, e4⟩
    · cases e4
      rcases hp.cases with ⟨r, e5, e6⟩ | ⟨_, e6⟩
      · cases e6
        rcases hq.cases with ⟨r, e7, e8⟩ | ⟨_, e8⟩
        · cases e8
          unfold pFrame
          rw [e]
          simp only [Option.bind_some, e3, e5, e7]
        · cases e8
      · cases e6
    · cases e4
  · cases e

/-! no parser gives back more bits than it took -/

def Shr {α : Type} (p : P α) : Prop := ∀ l x r, p l = some (x, r) → r.length ≤ l.length

theorem Shr.bind {α β : Type} {p : P α} {q : α → P β} (hp : Shr p) (hq : ∀ x, Shr (q x)) : Shr (fun l => (p l).bind fun (x, r) => q x r) := by
  intro l y r h
  obtain ⟨⟨x, r1⟩, h1, h2⟩ := bind_some h
  exact Nat.le_trans (hq x r1 y r h2) (hp l x r1 h1)

theorem Shr.map {α β : Type} {p : P α} {f : α → β} (hp : Shr p) : Shr (fun l => (p l).map fun (x, r) => (f x, r)) := by
  intro l y r h
  obtain ⟨⟨x, r1⟩, h1, h2⟩ := map_some h
  injection h2 with h3 h4
  subst h4
  exact hp l x r1 h1

theorem Shr.ite {α : Type} {c : Prop} [Decidable c] {p q : P α} (hp : Shr p) (hq : Shr q) : Shr (fun l => if c then p l else q l) := by
  intro l x r h
  by_cases hc : c
  · simp only [if_pos hc] at h; exact hp l x r h
  · simp only [if_neg hc] at h; exact hq l x r h

theorem Shr.none {α : Type} : Shr (fun _ => (Option.none : Option (α × List Bool))) := fun _ _ _ h => by cases h
theorem Shr.pure {α : Type} (x : α) : Shr (fun l => some (x, l)) := fun l y r h => by injection h with h; injection h with h1 h2; rw [h2]; exact Nat.le_refl _

theorem Shr.num (n : Nat) : Shr (pNum n) := by
  intro l v r h
  unfold pNum at h
  split at h
  · injection h with h
    injection h with h1 h2
    rw [← h2, List.length_drop]
    omega
  · cases h

theorem Shr.signed (n : Nat) : Shr (pSigned n) := Shr.map (Shr.num n)
theorem Shr.must (n v : Nat) : Shr (pMust n v) := Shr.bind (q := fun x r => if x = v then some ((), r) else Option.none) (Shr.num n) (fun _ => Shr.ite (Shr.pure ()) Shr.none)
theorem Shr.noughts : Shr pNoughts := fun l q r h => by have := noughts_le l q r h; omega
theorem Shr.list {f : P Int} (hf : Shr f) : ∀ n, Shr (pList f n)
  | 0 => Shr.pure []
  | n + 1 => by
    intro l xs r h
    have h' : ((f l).bind fun (x, r) => (pList f n r).map fun (xs, r') => (x :: xs, r')) = some (xs, r) := h
    obtain ⟨⟨y, r1⟩, hy, h2⟩ := bind_some h'
    obtain ⟨⟨ys, r2⟩, hys, h3⟩ := map_some h2
    injection h3 with h4 h5
    subst h5
    exact Nat.le_trans (Shr.list hf n r1 ys r2 hys) (hf l y r1 hy)
theorem Shr.rice (k : Nat) : Shr (pRice k) :=
  Shr.bind (q := fun q r => (pNum k r).bind fun (v, r') => if q * 2 ^ k + v < 2 ^ 32 then some (unfold1 (q * 2 ^ k + v), r') else Option.none) Shr.noughts
    (fun q => Shr.bind (q := fun v r' => if q * 2 ^ k + v < 2 ^ 32 then some (unfold1 (q * 2 ^ k + v), r') else Option.none) (Shr.num k) (fun _ => Shr.ite (Shr.pure _) Shr.none))
theorem Shr.part (method many : Nat) : Shr (pPart method many) :=
  Shr.bind (q := fun k r => if k = 15 + 16 * method then (pNum 5 r).bind fun (m, r') => pList (pSigned m) many r' else pList (pRice k) many r) (Shr.num _)
    (fun k => Shr.ite (Shr.bind (q := fun m r' => pList (pSigned m) many r') (Shr.num 5) (fun m => Shr.list (Shr.signed m) many)) (Shr.list (Shr.rice k) many))
theorem Shr.parts (method many : Nat) : ∀ c less, Shr (pParts method many less c)
  | 0, _ => Shr.pure []
  | c + 1, less => Shr.bind (q := fun xs r => (pParts method many 0 c r).map fun (ys, r') => (xs ++ ys, r')) (Shr.part method (many - less)) (fun xs => Shr.map (f := fun ys => xs ++ ys) (Shr.parts method many c 0))
theorem Shr.residue (n order : Nat) : Shr (pResidue n order) :=
  Shr.bind (q := fun method r => (pNum 4 r).bind fun (p, r') => if method ≤ 1 ∧ n % 2 ^ p = 0 ∧ order ≤ n / 2 ^ p then pParts method (n / 2 ^ p) order (2 ^ p) r' else Option.none) (Shr.num 2)
    (fun method => Shr.bind (q := fun p r' => if method ≤ 1 ∧ n % 2 ^ p = 0 ∧ order ≤ n / 2 ^ p then pParts method (n / 2 ^ p) order (2 ^ p) r' else Option.none) (Shr.num 4) (fun _ => Shr.ite (Shr.parts _ _ _ _) Shr.none))
theorem Shr.foretold (n wide : Nat) (first factors : List Int) (shift : Nat) : Shr (pForetold n wide first factors shift) := by
  intro l xs r h
  unfold pForetold at h
  obtain ⟨⟨res, r1⟩, h1, h2⟩ := bind_some h
  obtain ⟨ys, _, h3⟩ := map_some h2
  injection h3 with h4 h5
  subst h5
  exact Shr.residue _ _ _ _ _ h1
theorem Shr.fixed (n wide order : Nat) : Shr (pFixed n wide order) :=
  Shr.ite (Shr.bind (q := fun first r => pForetold n wide first (fixedFactors order) 0 r) (Shr.list (Shr.signed wide) order) (fun _ => Shr.foretold _ _ _ _ _)) Shr.none
theorem Shr.linear (n wide order : Nat) : Shr (pLinear n wide order) :=
  Shr.ite (Shr.bind (q := fun first r => (pNum 4 r).bind fun (fb, r1) => (pSigned 5 r1).bind fun (shift, r2) =>
      if fb = 15 ∨ shift < 0 then Option.none else (pList (pSigned (fb + 1)) order r2).bind fun (factors, r3) => pForetold n wide first factors shift.toNat r3) (Shr.list (Shr.signed wide) order)
    (fun first => Shr.bind (q := fun fb r1 => (pSigned 5 r1).bind fun (shift, r2) =>
      if fb = 15 ∨ shift < 0 then Option.none else (pList (pSigned (fb + 1)) order r2).bind fun (factors, r3) => pForetold n wide first factors shift.toNat r3) (Shr.num 4)
      (fun fb => Shr.bind (q := fun (shift : Int) r2 => if fb = 15 ∨ shift < 0 then Option.none else (pList (pSigned (fb + 1)) order r2).bind fun (factors, r3) => pForetold n wide first factors shift.toNat r3) (Shr.signed 5)
        (fun shift => Shr.ite Shr.none (Shr.bind (q := fun factors r3 => pForetold n wide first factors shift.toNat r3) (Shr.list (Shr.signed _) order) (fun _ => Shr.foretold _ _ _ _ _)))))) Shr.none
theorem Shr.kind (kind n wide : Nat) : Shr (pKind kind n wide) :=
  Shr.ite (Shr.map (f := fun x => List.replicate n x) (Shr.signed wide)) (Shr.ite (Shr.list (Shr.signed wide) n) (Shr.ite (Shr.fixed _ _ _) (Shr.ite (Shr.linear _ _ _) Shr.none)))
theorem Shr.less : Shr pLess := Shr.bind (q := fun c r => if c = 1 then (pNoughts r).map fun (q, r') => (q + 1, r') else some (0, r)) (Shr.num 1) (fun _ => Shr.ite (Shr.map (f := fun q => q + 1) Shr.noughts) (Shr.pure 0))
theorem Shr.subframe (n wide : Nat) : Shr (pSubframe n wide) :=
  Shr.bind (q := fun _ r => (pNum 6 r).bind fun (kind, r1) => (pLess r1).bind fun (less, r2) =>
    if less < wide then (pKind kind n (wide - less) r2).map fun (xs, r3) => (xs.map (· * 2 ^ less), r3) else Option.none) (Shr.must 1 0)
    (fun _ => Shr.bind (q := fun kind r1 => (pLess r1).bind fun (less, r2) =>
      if less < wide then (pKind kind n (wide - less) r2).map fun (xs, r3) => (xs.map (· * 2 ^ less), r3) else Option.none) (Shr.num 6)
      (fun kind => Shr.bind (q := fun less r2 => if less < wide then (pKind kind n (wide - less) r2).map fun (xs, r3) => (xs.map (· * 2 ^ less), r3) else Option.none) Shr.less
        (fun less => Shr.ite (Shr.map (f := fun xs => xs.map (· * 2 ^ less)) (Shr.kind _ _ _)) Shr.none)))
theorem Shr.channels (n bits mode : Nat) : ∀ c i, Shr (pChannels n bits mode c i)
  | 0, _ => Shr.pure []
  | c + 1, i => Shr.bind (q := fun x r => (pChannels n bits mode c (i + 1) r).map fun (xs, r') => (x :: xs, r')) (Shr.subframe _ _) (fun x => Shr.map (f := fun xs => x :: xs) (Shr.channels n bits mode c (i + 1)))
theorem Shr.head (h : Head) (number : Nat) (bytes : List UInt8) : Shr (pHead h number bytes) := by
  intro l x r e
  unfold pHead at e
  obtain ⟨⟨_, r1⟩, e1, e⟩ := bind_some e
  obtain ⟨⟨_, r2⟩, e2, e⟩ := bind_some e
  obtain ⟨⟨mode, r3⟩, e3, e⟩ := bind_some e
  obtain ⟨⟨_, r4⟩, e4, e⟩ := bind_some e
  obtain ⟨⟨_, r5⟩, e5, e⟩ := bind_some e
  obtain ⟨⟨n1, r6⟩, e6, e⟩ := bind_some e
  obtain ⟨⟨_, r7⟩, e7, e⟩ := bind_some e
  simp only at e
  split at e
  · injection e with e
    injection e with _ e8
    subst e8
    have := Shr.must _ _ _ _ _ e1
    have := Shr.must _ _ _ _ _ e2
    have := Shr.num _ _ _ _ e3
    have := Shr.must _ _ _ _ _ e4
    have := Shr.must _ _ _ _ _ e5
    have := Shr.num _ _ _ _ e6
    have := Shr.must _ _ _ _ _ e7
    omega
  · cases e

theorem Shr.ends {α : Type} {p : P α} {l r : List Bool} {x : α} (hp : Shr p) (h : Ends p (some l) x (some r)) : r.length ≤ l.length := by
  rcases h.cases with ⟨r', e, e2⟩ | ⟨_, e⟩
  · injection e2 with e2
    subst e2
    exact hp l x r e
  · cases e

end Go.Proofs.YtncmgnmcggkhnaaGreat

namespace Go.Proofs.YtncmgnmcggkhnaaGreat
open Go.RowKit

/-- what a frame leaves: lists of the channels in memory of its own -/
def Chs (w : World) (base : Nat) (v : Value) (chs : List (List Int)) : Prop :=
  ∃ lg lcap : Nat, v = .slice (some ⟨lg, 0, none⟩) chs.length lcap ∧ base ≤ lg ∧ ∀ i, i < chs.length → ∃ g cap, w.cell? ⟨lg, i, none⟩ = some (.slice (some ⟨g, 0, none⟩) (chs.getD i []).length cap) ∧ Row w base g (chs.getD i []).length cap (chs.getD i [])

theorem chan_spec (n bits mode : Nat) : ∀ (c i : Nat) (l : List Bool) (xss : List (List Int)) (r : List Bool), pChannels n bits mode c i l = some (xss, r) →
    xss.length = c ∧ ∀ j, j < c → (xss.getD j []).length = n ∧ ∀ x ∈ xss.getD j [], fitsB (bits + extra mode (i + j)) x = true
  | 0, i, l, xss, r, h => by
    have h' : some (([] : List (List Int)), l) = some (xss, r) := h
    injection h' with h'
    injection h' with h1 h2
    subst h1
    exact ⟨rfl, fun j hj => by omega⟩
  | c + 1, i, l, xss, r, h => by
    have h' : ((pSubframe n (bits + extra mode i) l).bind fun (x, r) => (pChannels n bits mode c (i + 1) r).map fun (xs, r') => (x :: xs, r')) = some (xss, r) := h
    obtain ⟨⟨y, r1⟩, hy, h2⟩ := bind_some h'
    obtain ⟨⟨ys, r2⟩, hys, h3⟩ := map_some h2
    injection h3 with h4 h5
    subst h4
    have hs := pSubframe_spec hy
    have hr := chan_spec n bits mode c (i + 1) r1 ys r2 hys
    refine ⟨by rw [List.length_cons, hr.1], fun j hj => ?_⟩
    cases j with
    | zero => exact hs
    | succ j =>
      have := hr.2 j (by omega)
      rw [show i + 1 + j = i + (j + 1) by omega] at this
      simpa using this

theorem chan_live {n bits mode c : Nat} {xss : List (List Int)} {l r : List Bool} (h : Ends (pChannels n bits mode c 0) (some l) xss (some r)) :
    xss.length = c ∧ ∀ j, j < c → (xss.getD j []).length = n ∧ ∀ x ∈ xss.getD j [], fitsB (bits + extra mode j) x = true := by
  rcases h.cases with ⟨r', e, _⟩ | ⟨_, e⟩
  · have := chan_spec n bits mode c 0 l xss r' e
    refine ⟨this.1, fun j hj => ?_⟩
    have := this.2 j hj
    rw [Nat.zero_add] at this
    exact this
  · cases e

theorem pair_low {mode : Nat} (h : mode < 8) (a b : Int) : pair mode a b = (a, b) := by
  unfold pair
  rw [if_neg (by omega), if_neg (by omega), if_neg (by omega)]

theorem zip_low {mode : Nat} (h : mode < 8) : ∀ (xs ys : List Int), xs.length = ys.length → (List.zipWith (pair mode) xs ys).map (·.1) = xs ∧ (List.zipWith (pair mode) xs ys).map (·.2) = ys
  | [], [], _ => ⟨rfl, rfl⟩
  | x :: xs, y :: ys, hl => by
    have := zip_low h xs ys (by simpa using hl)
    rw [List.zipWith_cons_cons, List.map_cons, List.map_cons, this.1, this.2, pair_low h]
    exact ⟨rfl, rfl⟩
  | [], y :: ys, hl => by simp at hl
  | x :: xs, [], hl => by simp at hl

theorem apart_one {mode : Nat} (xss : List (List Int)) (h : xss.length = 1) : apart mode xss = xss := by
  match xss, h with
  | [a], _ => rfl

theorem apart_low {mode : Nat} (hm : mode < 8) (xss : List (List Int)) (n : Nat) (h : xss.length ≤ 2) (hl : ∀ j, j < xss.length → (xss.getD j []).length = n) : apart mode xss = xss := by
  match xss, h, hl with
  | [], _, _ => rfl
  | [a], _, _ => rfl
  | [a, b], _, hl =>
    have h0 : a.length = n := hl 0 (by simp)
    have h1 : b.length = n := hl 1 (by simp)
    have := zip_low hm a b (by omega)
    show [_, _] = _
    rw [this.1, this.2]

theorem extra_low {mode i : Nat} (hm : mode < 8) : extra mode i = 0 := by
  unfold extra
  rw [if_neg (by omega)]

theorem Subs.cell {w : World} {base : Nat} {lv : Value} {vs : List Value} {xss : List (List Int)} (h : Subs w base lv vs xss) (hne : 0 < vs.length) :
    ∃ lg lcap, lv = .slice (some ⟨lg, 0, none⟩) vs.length lcap ∧ base ≤ lg ∧ lg < w.heap.size ∧ ∀ i, i < vs.length → w.cell? ⟨lg, i, none⟩ = some (vs.getD i undef) := by
  obtain ⟨g, cap, hv, hb, hlt⟩ := World.ownsRow.form h.row hne
  refine ⟨g, cap, hv, hb, hlt, fun i hi => ?_⟩
  have hr := h.row
  rw [hv] at hr
  have e := World.ownsRow.cellAt hr i (by omega)
  rw [e, List.getElem?_eq_getElem hi]
  simp [List.getD, List.getElem?_eq_getElem hi]

theorem Own.full {w : World} {base : Nat} {v : Value} {xs : List Int} (h : Own w base v xs) (hn : 1 ≤ xs.length) : ∃ g cap, v = .slice (some ⟨g, 0, none⟩) xs.length cap ∧ Row w base g xs.length cap xs := by
  rcases h.row with ⟨_, rfl⟩ | h
  · simp at hn
  · exact h

theorem Subs.chs {w : World} {base base' : Nat} {lv : Value} {vs : List Value} {xss : List (List Int)} (h : Subs w base lv vs xss) (hb : base' ≤ base) (hne : 0 < xss.length) (hl : ∀ j, j < xss.length → 1 ≤ (xss.getD j []).length) : Chs w base' lv xss := by
  have hlen := h.len
  obtain ⟨lg, lcap, hv, hlb, _, hc⟩ := h.cell (by omega)
  refine ⟨lg, lcap, by rw [hv, hlen], by omega, fun i hi => ?_⟩
  obtain ⟨g, cap, hvi, hrow⟩ := (h.own i (by omega)).full (hl i hi)
  exact ⟨g, cap, by rw [hc i (by omega), hvi], hrow.mono hb⟩

/-- all channels, of what apart leaves -/
theorem fits_iff (bits n : Nat) (A B : List Int) (hA : A.length = n) (hB : B.length = n) : ([A, B].all (fun c => c.all (fitsB bits)) = true) ↔ fitUpto bits A B n := by
  simp only [List.all_cons, List.all_nil, Bool.and_true, Bool.and_eq_true, List.all_eq_true]
  constructor
  · intro h j hj
    constructor
    · exact h.1 _ (by simp only [List.getD, List.getElem?_eq_getElem (show j < A.length by omega), Option.getD_some]; exact List.getElem_mem _)
    · exact h.2 _ (by simp only [List.getD, List.getElem?_eq_getElem (show j < B.length by omega), Option.getD_some]; exact List.getElem_mem _)
  · intro h
    constructor
    · intro x hx
      obtain ⟨j, hj, rfl⟩ := List.getElem_of_mem hx
      have := (h j (by omega)).1
      simpa [List.getD, List.getElem?_eq_getElem hj] using this
    · intro x hx
      obtain ⟨j, hj, rfl⟩ := List.getElem_of_mem hx
      have := (h j (by omega)).2
      simpa [List.getD, List.getElem?_eq_getElem hj] using this

/-- bits that are left at a byte's end are the bytes that are left -/
theorem bits_suffix (s : ByteArray) (f : Nat) (hf : f ≤ s.size) (bytes : List UInt8) (hb : s.data.toList.drop f = bytes) (l : List Bool) {t : TypeId} {w : World} {b : Nat} (h : St t w b s (some l)) (h8 : l.length % 8 = 0) (hle : l.length ≤ 8 * bytes.length) :
    l = bitsOf (bytes.drop (bytes.length - l.length / 8)) := by
  obtain ⟨a, ha, hl, _⟩ := h
  have hlen : l.length = 8 * s.size - a := by rw [hl, List.length_drop, total_bits]
  have hbl : bytes.length = s.size - f := by rw [← hb, List.length_drop]; simp
  rw [← hb, List.drop_drop]
  have e : a = 8 * (f + (List.length (s.data.toList.drop f) - l.length / 8)) := by
    rw [hb, hbl]
    omega
  conv => lhs; rw [hl, e]
  rw [bitsOf_drop]

end Go.Proofs.YtncmgnmcggkhnaaGreat

namespace Go.Proofs.YtncmgnmcggkhnaaGreat
open Go.RowKit

/-- a block that is known whole -/
def Box (w : World) (g : Nat) (cs : Array Value) (t : TypeId) : Prop := w.heap[g]? = some (.cells cs t (0, 0))

theorem Box.lt {w : World} {g : Nat} {cs : Array Value} {t : TypeId} (h : Box w g cs t) : g < w.heap.size := by
  rcases Nat.lt_or_ge g w.heap.size with h1 | h1
  · exact h1
  · unfold Box at h
    rw [Array.getElem?_eq_none h1] at h
    cases h
theorem Box.kept {w w' : World} {g : Nat} {cs : Array Value} {t : TypeId} {row : Option Nat} (h : Box w g cs t) (hg : w.grownBy w' row) (hne : some g ≠ row) : Box w' g cs t := by
  unfold Box at *
  rw [hg.block g (Box.lt h) hne, h]
theorem Box.cell {w : World} {g : Nat} {cs : Array Value} {t : TypeId} (h : Box w g cs t) (i : Nat) : w.cell? ⟨g, i, none⟩ = cs[i]? := by
  unfold Box at h
  simp [World.cell?, h]
theorem Box.new (w : World) (cs : Array Value) (t : TypeId) : Box (w.alloc (.cells cs t)) w.heap.size cs t := by
  show (w.heap.push _)[w.heap.size]? = _
  simp

theorem Box.set {w : World} {g : Nat} {cs : Array Value} {t : TypeId} (h : Box w g cs t) (i : Nat) (v : Value) : Box (w.setCell ⟨g, i, none⟩ v) g (cs.setIfInBounds i v) t :=
  heap_setCell_own w g i v cs t (0, 0) h
theorem Box.fz {w : World} {g : Nat} {cs : Array Value} {t : TypeId} (h : Box w g cs t) (i : Nat) : w.frozen? ⟨g, i, none⟩ = false := by
  unfold Box at h
  simp [World.frozen?, h]

end Go.Proofs.YtncmgnmcggkhnaaGreat
