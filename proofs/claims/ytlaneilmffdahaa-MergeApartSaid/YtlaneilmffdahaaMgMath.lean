/- Three rows of lines in chunks, plainly. -/
import Derived.Test.YtlaneilmffdahaaLnMath
namespace Go.Proofs.Ytlaneilmffdahaa.Mg
open Go.Proofs.Ytlaneilmffdahaa.Ln
set_option linter.unusedVariables false

/-- a chunk: its kind, and the lines of base, ours, theirs -/
structure Ch where
  k : Int
  b : List ByteArray
  o : List ByteArray
  t : List ByteArray

def kindOf (b o t : List ByteArray) : Int := if o = t then (if b = o then 0 else 3) else if b = t then 1 else if b = o then 2 else 4
def gapC (b o t : List ByteArray) : Ch := ⟨kindOf b o t, b, o, t⟩
theorem kindOf_self (b : List ByteArray) : kindOf b b b = 0 := by simp [kindOf]

/-- lines that are the same on all sides, behind chunks -/
def sameC (l : List Ch) (x y z : List ByteArray) : List Ch :=
  match l.getLast? with
  | some d => if d.k = 0 then l.dropLast ++ [⟨0, d.b ++ x, d.o ++ y, d.t ++ z⟩] else l ++ [⟨0, x, y, z⟩]
  | none => [⟨0, x, y, z⟩]
def addC (l : List Ch) (c : Ch) : List Ch :=
  if c.b.length + c.o.length + c.t.length = 0 then l else if c.k = 0 then sameC l c.b c.o c.t else l ++ [c]

theorem sameC_nil (x y z : List ByteArray) : sameC [] x y z = [⟨0, x, y, z⟩] := rfl
theorem sameC_same (l : List Ch) (d : Ch) (h : d.k = 0) (x y z : List ByteArray) : sameC (l ++ [d]) x y z = l ++ [⟨0, d.b ++ x, d.o ++ y, d.t ++ z⟩] := by simp [sameC, h]
theorem sameC_other (l : List Ch) (d : Ch) (h : d.k ≠ 0) (x y z : List ByteArray) : sameC (l ++ [d]) x y z = l ++ [d] ++ [⟨0, x, y, z⟩] := by simp [sameC, h]
theorem addC_none (l : List Ch) (c : Ch) (h : c.b.length + c.o.length + c.t.length = 0) : addC l c = l := by simp [addC, h]
theorem addC_same (l : List Ch) (c : Ch) (h : c.b.length + c.o.length + c.t.length ≠ 0) (h0 : c.k = 0) : addC l c = sameC l c.b c.o c.t := by unfold addC; rw [if_neg h, if_pos h0]
theorem addC_other (l : List Ch) (c : Ch) (h : c.b.length + c.o.length + c.t.length ≠ 0) (h0 : c.k ≠ 0) : addC l c = l ++ [c] := by unfold addC; rw [if_neg h, if_neg h0]

/-- how many chunks there are at most, and how many lines in all -/
def linesC (l : List Ch) : Nat := (l.map fun c => c.b.length + c.o.length + c.t.length).sum
theorem linesC_append (l m : List Ch) : linesC (l ++ m) = linesC l + linesC m := by simp [linesC]
theorem linesC_one (c : Ch) : linesC [c] = c.b.length + c.o.length + c.t.length := by simp [linesC]
theorem linesC_same (l : List Ch) (x y z : List ByteArray) : linesC (sameC l x y z) = linesC l + (x.length + y.length + z.length) := by
  rcases List.eq_nil_or_concat l with rfl | ⟨l', d, rfl⟩
  · rw [sameC_nil, linesC_one]; simp [linesC]
  · rw [List.concat_eq_append]
    by_cases h : d.k = 0
    · rw [sameC_same _ _ h, linesC_append, linesC_append, linesC_one, linesC_one]; simp only [List.length_append]; omega
    · rw [sameC_other _ _ h, linesC_append, linesC_one]
theorem linesC_add (l : List Ch) (c : Ch) : linesC (addC l c) = linesC l + (c.b.length + c.o.length + c.t.length) := by
  by_cases h : c.b.length + c.o.length + c.t.length = 0
  · rw [addC_none _ _ h, h]; rfl
  · by_cases h0 : c.k = 0
    · rw [addC_same _ _ h h0, linesC_same]
    · rw [addC_other _ _ h h0, linesC_append, linesC_one]

/-- of each line that steps keep or delete: which line of the other side it is, or -1 -/
def partS : List Nat → Nat → List Int
  | [], _ => []
  | 0 :: s, j => (j : Int) :: partS s (j + 1)
  | 1 :: s, j => -1 :: partS s j
  | (_ + 2) :: s, j => partS s (j + 1)
/-- how many lines of the other side steps have gone over -/
def overS (s : List Nat) : Nat := s.countP (fun x => decide (x ≠ 1))
theorem overS_cons (x : Nat) (s : List Nat) : overS (x :: s) = overS s + if x = 1 then 0 else 1 := by
  unfold overS; rw [List.countP_cons]; by_cases h : x = 1 <;> simp [h]
theorem partS_append : ∀ (s t : List Nat) (j : Nat), partS (s ++ t) j = partS s j ++ partS t (j + overS s)
  | [], t, j => by simp [partS, overS]
  | 0 :: s, t, j => by
      have := partS_append s t (j + 1)
      rw [overS_cons, if_neg (by decide), show j + (overS s + 1) = j + 1 + overS s from by omega]
      simp only [List.cons_append, partS, this]
  | 1 :: s, t, j => by
      have := partS_append s t j
      rw [overS_cons, if_pos rfl, Nat.add_zero]
      simp only [List.cons_append, partS, this]
  | (x + 2) :: s, t, j => by
      have := partS_append s t (j + 1)
      rw [overS_cons, if_neg (by omega), show j + (overS s + 1) = j + 1 + overS s from by omega]
      simp only [List.cons_append, partS, this]
theorem overS_append (s t : List Nat) : overS (s ++ t) = overS s + overS t := by simp [overS]
theorem overS_one (x : Nat) : overS [x] = if x = 1 then 0 else 1 := by
  unfold overS; by_cases h : x = 1 <;> simp [h]
theorem partS_snoc (s : List Nat) (x : Nat) : partS (s ++ [x]) 0 = partS s 0 ++ (if x = 0 then [((overS s : Nat) : Int)] else if x = 1 then [-1] else []) := by
  rw [partS_append, Nat.zero_add]
  match x with
  | 0 => simp [partS]
  | 1 => simp [partS]
  | x + 2 => simp [partS]
theorem overS_snoc (s : List Nat) (x : Nat) : overS (s ++ [x]) = overS s + if x = 1 then 0 else 1 := by rw [overS_append, overS_one]

/-- what partners are: of each line of a, a line of b that is the same, rising, from j on; or -1 -/
structure PartOk (a b : List ByteArray) (p : List Int) : Prop where
  len : p.length = a.length
  at' : ∀ i, i < a.length → p.getD i 0 = -1 ∨ ∃ j : Nat, p.getD i 0 = j ∧ j < b.length ∧ b[j]? = a[i]?
  up : ∀ i k, i < k → k < a.length → p.getD i 0 ≠ -1 → p.getD k 0 ≠ -1 → p.getD i 0 < p.getD k 0

theorem partS_len : ∀ (a b : List ByteArray) (j : Nat), (partS (steps a b) j).length = a.length
  | [], b, j => by
      rw [steps_nil_left]
      generalize b.length = n
      induction n generalizing j with
      | zero => rfl
      | succ n ih => simpa [List.replicate_succ, partS] using ih (j + 1)
  | x :: a, [], j => by
      rw [steps_nil_right]
      generalize x :: a = c
      generalize hn : c.length = n
      clear hn
      induction n with
      | zero => rfl
      | succ n ih => simpa [List.replicate_succ, partS] using ih
  | x :: a, y :: b, j => by
      rw [steps_cons]
      split
      · simp [partS, partS_len a b (j + 1)]
      · split
        · simp [partS, partS_len a (y :: b) j]
        · simpa [partS] using partS_len (x :: a) b (j + 1)
termination_by a b => a.length + b.length

theorem getD_mem {p : List Int} {i : Nat} (h : i < p.length) : p.getD i 0 ∈ p := by
  rw [List.getD_eq_getElem?_getD, List.getElem?_eq_getElem h]
  simp
theorem partS_ge : ∀ (s : List Nat) (j : Nat), ∀ x ∈ partS s j, x = -1 ∨ (j : Int) ≤ x
  | [], j, x, h => by simp [partS] at h
  | 0 :: s, j, x, h => by
      simp only [partS, List.mem_cons] at h
      rcases h with rfl | h
      · exact .inr (Int.le_refl _)
      · rcases partS_ge s (j + 1) x h with h | h
        · exact .inl h
        · exact .inr (by omega)
  | 1 :: s, j, x, h => by
      simp only [partS, List.mem_cons] at h
      rcases h with rfl | h
      · exact .inl rfl
      · exact partS_ge s j x h
  | (_ + 2) :: s, j, x, h => by
      simp only [partS] at h
      rcases partS_ge s (j + 1) x h with h | h
      · exact .inl h
      · exact .inr (by omega)
theorem partS_up : ∀ (s : List Nat) (j : Nat), (partS s j).Pairwise (fun x y => x ≠ -1 → y ≠ -1 → x < y)
  | [], j => by simp [partS]
  | 0 :: s, j => by
      simp only [partS, List.pairwise_cons]
      refine ⟨fun y hy _ h2 => ?_, partS_up s (j + 1)⟩
      rcases partS_ge s (j + 1) y hy with h | h
      · exact absurd h h2
      · omega
  | 1 :: s, j => by
      simp only [partS, List.pairwise_cons]
      exact ⟨fun y hy h1 => absurd rfl h1, partS_up s j⟩
  | (_ + 2) :: s, j => by
      simp only [partS]
      exact partS_up s (j + 1)
/-- each partner is a line of the other side that is the same -/
theorem partS_at : ∀ (a b : List ByteArray) (j i : Nat), i < a.length → (partS (steps a b) j).getD i 0 = -1 ∨ ∃ k : Nat, (partS (steps a b) j).getD i 0 = ((j + k : Nat) : Int) ∧ k < b.length ∧ b[k]? = a[i]?
  | [], b, j, i, h => by simp at h
  | x :: a, [], j, i, h => by
      left
      rw [steps_nil_right]
      generalize hn : (x :: a).length = n at h
      clear hn
      induction n generalizing i with
      | zero => omega
      | succ n ih =>
        simp only [List.replicate_succ, partS]
        cases i with
        | zero => rfl
        | succ i => simpa using ih i (by omega)
  | x :: a, y :: b, j, i, h => by
      rw [steps_cons]
      split
      · rename_i e
        subst e
        simp only [partS]
        cases i with
        | zero => exact .inr ⟨0, by simp, by simp, by simp⟩
        | succ i =>
          rcases partS_at a b (j + 1) i (by simpa using h) with h' | ⟨k, h1, h2, h3⟩
          · exact .inl (by simpa using h')
          · exact .inr ⟨k + 1, by rw [List.getD_cons_succ, h1]; congr 1; omega, by simpa using h2, by simpa using h3⟩
      · split
        · simp only [partS]
          cases i with
          | zero => exact .inl rfl
          | succ i =>
            rcases partS_at a (y :: b) j i (by simpa using h) with h' | ⟨k, h1, h2, h3⟩
            · exact .inl (by simpa using h')
            · exact .inr ⟨k, by rw [List.getD_cons_succ, h1], h2, by simpa using h3⟩
        · simp only [partS]
          rcases partS_at (x :: a) b (j + 1) i h with h' | ⟨k, h1, h2, h3⟩
          · exact .inl h'
          · exact .inr ⟨k + 1, by rw [h1]; congr 1; omega, by simpa using h2, by simpa using h3⟩
termination_by a b => a.length + b.length
theorem part_ok (a b : List ByteArray) : PartOk a b (partS (steps a b) 0) := by
  refine ⟨partS_len a b 0, fun i hi => ?_, fun i k hik hk h1 h2 => ?_⟩
  · rcases partS_at a b 0 i hi with h | ⟨k, h1, h2, h3⟩
    · exact .inl h
    · exact .inr ⟨k, by rw [h1]; simp, h2, h3⟩
  · have hl := partS_len a b 0
    have hp := List.pairwise_iff_getElem.1 (partS_up (steps a b) 0) i k (by omega) (by omega) hik
    have e : ∀ q (hq : q < (partS (steps a b) 0).length), (partS (steps a b) 0).getD q 0 = (partS (steps a b) 0)[q] := fun q hq => by
      rw [List.getD_eq_getElem?_getD, List.getElem?_eq_getElem hq]; rfl
    rw [e i (by omega)] at h1 ⊢
    rw [e k (by omega)] at h2 ⊢
    exact hp h1 h2

/-- how far it is in base, ours, theirs, and the chunks so far -/
structure St where
  i : Nat
  k : Nat
  n : Nat
  l : List Ch
def seg (l : List ByteArray) (i j : Nat) : List ByteArray := (l.take j).drop i
theorem seg_len (l : List ByteArray) (i j : Nat) (h : j ≤ l.length) : (seg l i j).length = j - i := by
  unfold seg; rw [List.length_drop, List.length_take]; omega
def stepC (base ours theirs : List ByteArray) (po pt : List Int) (s : St) (p : Nat) : St :=
  if po.getD p 0 < 0 ∨ pt.getD p 0 < 0 then s else
  ⟨p + 1, (po.getD p 0).toNat + 1, (pt.getD p 0).toNat + 1,
    addC (addC s.l (gapC (seg base s.i p) (seg ours s.k (po.getD p 0).toNat) (seg theirs s.n (pt.getD p 0).toNat))) (gapC (seg base p (p + 1)) (seg base p (p + 1)) (seg base p (p + 1)))⟩
/-- behind p lines of base -/
def stC (base ours theirs : List ByteArray) (po pt : List Int) (p : Nat) : St := (List.range p).foldl (stepC base ours theirs po pt) ⟨0, 0, 0, []⟩
theorem stC_zero (base ours theirs : List ByteArray) (po pt : List Int) : stC base ours theirs po pt 0 = ⟨0, 0, 0, []⟩ := rfl
theorem stC_succ (base ours theirs : List ByteArray) (po pt : List Int) (p : Nat) : stC base ours theirs po pt (p + 1) = stepC base ours theirs po pt (stC base ours theirs po pt p) p := by
  simp [stC, List.range_succ]
theorem stC_skip {base ours theirs : List ByteArray} {po pt : List Int} {p : Nat} (h : po.getD p 0 < 0 ∨ pt.getD p 0 < 0) : stC base ours theirs po pt (p + 1) = stC base ours theirs po pt p := by
  rw [stC_succ, stepC, if_pos h]
theorem stC_take {base ours theirs : List ByteArray} {po pt : List Int} {p : Nat} (h : ¬ (po.getD p 0 < 0 ∨ pt.getD p 0 < 0)) : stC base ours theirs po pt (p + 1) =
    ⟨p + 1, (po.getD p 0).toNat + 1, (pt.getD p 0).toNat + 1,
    addC (addC (stC base ours theirs po pt p).l (gapC (seg base (stC base ours theirs po pt p).i p) (seg ours (stC base ours theirs po pt p).k (po.getD p 0).toNat) (seg theirs (stC base ours theirs po pt p).n (pt.getD p 0).toNat))) (gapC (seg base p (p + 1)) (seg base p (p + 1)) (seg base p (p + 1)))⟩ := by
  rw [stC_succ, stepC, if_neg h]
def endC (base ours theirs : List ByteArray) (po pt : List Int) : List Ch :=
  let s := stC base ours theirs po pt base.length
  addC s.l (gapC (seg base s.i base.length) (seg ours s.k ours.length) (seg theirs s.n theirs.length))
/-- the chunks of three rows -/
def chunks (base ours theirs : List ByteArray) : List Ch := endC base ours theirs (partS (steps base ours) 0) (partS (steps base theirs) 0)

/-- where it is: nothing is passed over twice -/
structure StOk (base ours theirs : List ByteArray) (po pt : List Int) (p : Nat) (s : St) : Prop where
  i : s.i ≤ p
  k : s.k ≤ ours.length
  n : s.n ≤ theirs.length
  ko : ∀ q, p ≤ q → q < base.length → po.getD q 0 ≠ -1 → (s.k : Int) ≤ po.getD q 0
  kt : ∀ q, p ≤ q → q < base.length → pt.getD q 0 ≠ -1 → (s.n : Int) ≤ pt.getD q 0
theorem st_ok {base ours theirs : List ByteArray} {po pt : List Int} (ho : PartOk base ours po) (ht : PartOk base theirs pt) : ∀ p, p ≤ base.length → StOk base ours theirs po pt p (stC base ours theirs po pt p)
  | 0, _ => by
      rw [stC_zero]
      refine ⟨Nat.le_refl _, Nat.zero_le _, Nat.zero_le _, fun q _ hq h => ?_, fun q _ hq h => ?_⟩
      · rcases ho.at' q hq with h' | ⟨j, h1, _⟩
        · exact absurd h' h
        · rw [h1]; exact Int.ofNat_le.2 (Nat.zero_le j)
      · rcases ht.at' q hq with h' | ⟨j, h1, _⟩
        · exact absurd h' h
        · rw [h1]; exact Int.ofNat_le.2 (Nat.zero_le j)
  | p + 1, hp => by
      have ih := st_ok ho ht p (by omega)
      by_cases h : po.getD p 0 < 0 ∨ pt.getD p 0 < 0
      · rw [stC_skip h]
        exact ⟨Nat.le_succ_of_le ih.i, ih.k, ih.n, fun q hq => ih.ko q (by omega), fun q hq => ih.kt q (by omega)⟩
      · rw [stC_take h]
        have h1 : po.getD p 0 ≠ -1 := fun e => h (.inl (by omega))
        have h2 : pt.getD p 0 ≠ -1 := fun e => h (.inr (by omega))
        rcases ho.at' p (by omega) with e | ⟨j, e1, e2, e3⟩
        · exact absurd e h1
        rcases ht.at' p (by omega) with e | ⟨m, f1, f2, f3⟩
        · exact absurd e h2
        refine ⟨Nat.le_refl _, ?_, ?_, fun q hq hq' hn => ?_, fun q hq hq' hn => ?_⟩
        · simp only [e1]; omega
        · simp only [f1]; omega
        · have := ho.up p q (by omega) hq' h1 hn
          simp only [e1] at this ⊢; omega
        · have := ht.up p q (by omega) hq' h2 hn
          simp only [f1] at this ⊢; omega
theorem linesC_st {base ours theirs : List ByteArray} {po pt : List Int} (ho : PartOk base ours po) (ht : PartOk base theirs pt) : ∀ p, p ≤ base.length →
    linesC (stC base ours theirs po pt p).l = (stC base ours theirs po pt p).i + (stC base ours theirs po pt p).k + (stC base ours theirs po pt p).n
  | 0, _ => by rw [stC_zero]; rfl
  | p + 1, hp => by
      have ih := linesC_st ho ht p (by omega)
      have ok := st_ok ho ht p (by omega)
      by_cases h : po.getD p 0 < 0 ∨ pt.getD p 0 < 0
      · rw [stC_skip h]; exact ih
      · rw [stC_take h]
        have h1 : po.getD p 0 ≠ -1 := fun e => h (.inl (by omega))
        have h2 : pt.getD p 0 ≠ -1 := fun e => h (.inr (by omega))
        have g1 := ok.ko p (Nat.le_refl _) (by omega) h1
        have g2 := ok.kt p (Nat.le_refl _) (by omega) h2
        have g3 := ok.i
        rcases ho.at' p (by omega) with e | ⟨j, e1, e2, e3⟩
        · exact absurd e h1
        rcases ht.at' p (by omega) with e | ⟨m, f1, f2, f3⟩
        · exact absurd e h2
        simp only [linesC_add, gapC, e1, f1, Int.toNat_natCast] at g1 g2 ⊢
        rw [ih, seg_len _ _ _ (by omega), seg_len _ _ _ (by omega), seg_len _ _ _ (by omega), seg_len _ _ _ (by omega)]
        omega
theorem linesC_chunks (base ours theirs : List ByteArray) : linesC (chunks base ours theirs) = base.length + ours.length + theirs.length := by
  have ho := part_ok base ours
  have ht := part_ok base theirs
  have ih := linesC_st ho ht base.length (Nat.le_refl _)
  have ok := st_ok ho ht base.length (Nat.le_refl _)
  have g1 := ok.i
  have g2 := ok.k
  have g3 := ok.n
  unfold chunks endC
  simp only [linesC_add, gapC]
  rw [ih, seg_len _ _ _ (Nat.le_refl _), seg_len _ _ _ (Nat.le_refl _), seg_len _ _ _ (Nat.le_refl _)]
  omega
end Go.Proofs.Ytlaneilmffdahaa.Mg
