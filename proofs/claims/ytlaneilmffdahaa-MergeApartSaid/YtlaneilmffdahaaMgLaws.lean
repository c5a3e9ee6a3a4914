/- What chunks are, plainly: the three texts, each kind, sides changed about, one side as base. -/
import Derived.Test.YtlaneilmffdahaaMgMath
namespace Go.Proofs.Ytlaneilmffdahaa.Mg
open Go.Proofs.Ytlaneilmffdahaa.Ln
set_option linter.unusedVariables false

theorem all_same {P : Ch → Prop} (hP : ∀ d c : Ch, d.k = 0 → c.k = 0 → P d → P c → P ⟨0, d.b ++ c.b, d.o ++ c.o, d.t ++ c.t⟩) {l : List Ch} {x y z : List ByteArray} (hl : ∀ d ∈ l, P d) (hc : P ⟨0, x, y, z⟩) : ∀ d ∈ sameC l x y z, P d := by
  rcases List.eq_nil_or_concat l with rfl | ⟨l', e, rfl⟩
  · intro d hd; rw [sameC_nil, List.mem_singleton] at hd; rw [hd]; exact hc
  · rw [List.concat_eq_append] at hl ⊢
    by_cases h : e.k = 0
    · rw [sameC_same _ _ h]
      intro d hd
      rcases List.mem_append.1 hd with hd | hd
      · exact hl d (List.mem_append_left _ hd)
      · rw [List.mem_singleton.1 hd]
        exact hP e ⟨0, x, y, z⟩ h rfl (hl e (List.mem_append_right _ (List.mem_singleton.2 rfl))) hc
    · rw [sameC_other _ _ h]
      intro d hd
      rcases List.mem_append.1 hd with hd | hd
      · exact hl d hd
      · rw [List.mem_singleton.1 hd]; exact hc
theorem all_add {P : Ch → Prop} (hP : ∀ d c : Ch, d.k = 0 → c.k = 0 → P d → P c → P ⟨0, d.b ++ c.b, d.o ++ c.o, d.t ++ c.t⟩) {l : List Ch} {c : Ch} (hl : ∀ d ∈ l, P d) (hc : c.b.length + c.o.length + c.t.length ≠ 0 → P c) : ∀ d ∈ addC l c, P d := by
  by_cases h : c.b.length + c.o.length + c.t.length = 0
  · rw [addC_none _ _ h]; exact hl
  · by_cases h0 : c.k = 0
    · rw [addC_same _ _ h h0]
      refine all_same hP hl ?_
      have := hc h
      obtain ⟨k, b, o, t⟩ := c
      simp only at h0
      subst h0
      exact this
    · rw [addC_other _ _ h h0]
      intro d hd
      rcases List.mem_append.1 hd with hd | hd
      · exact hl d hd
      · rw [List.mem_singleton.1 hd]; exact hc h

/-! each side's lines -/
def lb (l : List Ch) : List ByteArray := l.flatMap (·.b)
def lo (l : List Ch) : List ByteArray := l.flatMap (·.o)
def lt (l : List Ch) : List ByteArray := l.flatMap (·.t)
theorem lines_same (l : List Ch) (x y z : List ByteArray) : lb (sameC l x y z) = lb l ++ x ∧ lo (sameC l x y z) = lo l ++ y ∧ lt (sameC l x y z) = lt l ++ z := by
  rcases List.eq_nil_or_concat l with rfl | ⟨l', e, rfl⟩
  · rw [sameC_nil]; simp [lb, lo, lt]
  · rw [List.concat_eq_append]
    by_cases h : e.k = 0
    · rw [sameC_same _ _ h]; simp [lb, lo, lt]
    · rw [sameC_other _ _ h]; simp [lb, lo, lt]
theorem lines_add (l : List Ch) (c : Ch) : lb (addC l c) = lb l ++ c.b ∧ lo (addC l c) = lo l ++ c.o ∧ lt (addC l c) = lt l ++ c.t := by
  by_cases h : c.b.length + c.o.length + c.t.length = 0
  · rw [addC_none _ _ h]
    have h1 : c.b = [] := List.eq_nil_of_length_eq_zero (by omega)
    have h2 : c.o = [] := List.eq_nil_of_length_eq_zero (by omega)
    have h3 : c.t = [] := List.eq_nil_of_length_eq_zero (by omega)
    rw [h1, h2, h3]; simp
  · by_cases h0 : c.k = 0
    · rw [addC_same _ _ h h0]; exact lines_same l _ _ _
    · rw [addC_other _ _ h h0]; simp [lb, lo, lt]
theorem take_seg (l : List ByteArray) (i j : Nat) (h : i ≤ j) : l.take i ++ seg l i j = l.take j := by
  have e : l.take i = (l.take j).take i := by rw [List.take_take, Nat.min_eq_left h]
  rw [e]
  exact List.take_append_drop i (l.take j)
theorem seg_one {a b : List ByteArray} {i j : Nat} (hi : i < a.length) (h : b[j]? = a[i]?) : seg b j (j + 1) = seg a i (i + 1) := by
  have hj : j < b.length := by
    rw [List.getElem?_eq_getElem hi] at h
    exact (List.getElem?_eq_some_iff.1 h).1
  have h1 : seg b j (j + 1) = [b[j]] := by unfold seg; rw [List.take_succ_eq_append_getElem hj, List.drop_append_of_le_length (by simp; omega), List.drop_of_length_le (by simp; omega), List.nil_append]
  have h2 : seg a i (i + 1) = [a[i]] := by unfold seg; rw [List.take_succ_eq_append_getElem hi, List.drop_append_of_le_length (by simp; omega), List.drop_of_length_le (by simp; omega), List.nil_append]
  rw [List.getElem?_eq_getElem hi, List.getElem?_eq_getElem hj] at h
  rw [h1, h2, Option.some.inj h]
theorem seg_rest (l : List ByteArray) (i : Nat) (h : i ≤ l.length) : l.take i ++ seg l i l.length = l := by rw [take_seg l i _ h, List.take_length]
theorem st_lines {base ours theirs : List ByteArray} {po pt : List Int} (ho : PartOk base ours po) (ht : PartOk base theirs pt) : ∀ p, p ≤ base.length →
    lb (stC base ours theirs po pt p).l = base.take (stC base ours theirs po pt p).i ∧ lo (stC base ours theirs po pt p).l = ours.take (stC base ours theirs po pt p).k ∧ lt (stC base ours theirs po pt p).l = theirs.take (stC base ours theirs po pt p).n
  | 0, _ => by rw [stC_zero]; simp [lb, lo, lt]
  | p + 1, hp => by
      have ih := st_lines ho ht p (by omega)
      have ok := st_ok ho ht p (by omega)
      by_cases h : po.getD p 0 < 0 ∨ pt.getD p 0 < 0
      · rw [stC_skip h]; exact ih
      · rw [stC_take h]
        have h1 : po.getD p 0 ≠ -1 := fun e => h (.inl (by omega))
        have h2 : pt.getD p 0 ≠ -1 := fun e => h (.inr (by omega))
        have g1 := ok.ko p (Nat.le_refl _) (by omega) h1
        have g2 := ok.kt p (Nat.le_refl _) (by omega) h2
        have g3 := ok.i
        rcases ho.at' p (by omega) with e | ⟨j, e1, e2, e3⟩
        · exact absurd e h1
        rcases ht.at' p (by omega) with e | ⟨m, f1, f2, f3⟩
        · exact absurd e h2
        obtain ⟨i1, i2, i3⟩ := ih
        simp only [e1, f1, Int.toNat_natCast] at g1 g2 ⊢
        obtain ⟨a1, a2, a3⟩ := lines_add (stC base ours theirs po pt p).l (gapC (seg base (stC base ours theirs po pt p).i p) (seg ours (stC base ours theirs po pt p).k j) (seg theirs (stC base ours theirs po pt p).n m))
        obtain ⟨b1, b2, b3⟩ := lines_add (addC (stC base ours theirs po pt p).l (gapC (seg base (stC base ours theirs po pt p).i p) (seg ours (stC base ours theirs po pt p).k j) (seg theirs (stC base ours theirs po pt p).n m))) (gapC (seg base p (p + 1)) (seg base p (p + 1)) (seg base p (p + 1)))
        rw [b1, b2, b3, a1, a2, a3, i1, i2, i3]
        simp only [gapC]
        refine ⟨?_, ?_, ?_⟩
        · rw [take_seg _ _ _ g3, take_seg _ _ _ (Nat.le_succ _)]
        · rw [take_seg _ _ _ (by omega), ← seg_one (show p < base.length by omega) e3, take_seg _ _ _ (Nat.le_succ _)]
        · rw [take_seg _ _ _ (by omega), ← seg_one (show p < base.length by omega) f3, take_seg _ _ _ (Nat.le_succ _)]
/-- the chunks' lines are the three texts -/
theorem chunks_lines (base ours theirs : List ByteArray) : lb (chunks base ours theirs) = base ∧ lo (chunks base ours theirs) = ours ∧ lt (chunks base ours theirs) = theirs := by
  have ho := part_ok base ours
  have ht := part_ok base theirs
  obtain ⟨i1, i2, i3⟩ := st_lines ho ht base.length (Nat.le_refl _)
  have ok := st_ok ho ht base.length (Nat.le_refl _)
  obtain ⟨a1, a2, a3⟩ := lines_add (stC base ours theirs (partS (steps base ours) 0) (partS (steps base theirs) 0) base.length).l (gapC (seg base (stC base ours theirs (partS (steps base ours) 0) (partS (steps base theirs) 0) base.length).i base.length) (seg ours (stC base ours theirs (partS (steps base ours) 0) (partS (steps base theirs) 0) base.length).k ours.length) (seg theirs (stC base ours theirs (partS (steps base ours) 0) (partS (steps base theirs) 0) base.length).n theirs.length))
  unfold chunks endC
  simp only
  rw [a1, a2, a3, i1, i2, i3]
  simp only [gapC]
  exact ⟨seg_rest _ _ ok.i, seg_rest _ _ ok.k, seg_rest _ _ ok.n⟩

/-- what is so of each piece between anchors is so of each chunk -/
theorem st_all {P : Ch → Prop} (hP : ∀ d c : Ch, d.k = 0 → c.k = 0 → P d → P c → P ⟨0, d.b ++ c.b, d.o ++ c.o, d.t ++ c.t⟩) {base ours theirs : List ByteArray} {po pt : List Int} {R : St → Prop} (hR0 : R ⟨0, 0, 0, []⟩)
    (hR : ∀ p s, p < base.length → R s → ¬(po.getD p 0 < 0 ∨ pt.getD p 0 < 0) → (∀ l, R ⟨p + 1, (po.getD p 0).toNat + 1, (pt.getD p 0).toNat + 1, l⟩) ∧ P (gapC (seg base s.i p) (seg ours s.k (po.getD p 0).toNat) (seg theirs s.n (pt.getD p 0).toNat)))
    (hS : ∀ x, P (gapC x x x)) : ∀ p, p ≤ base.length → R (stC base ours theirs po pt p) ∧ ∀ c ∈ (stC base ours theirs po pt p).l, P c
  | 0, _ => by rw [stC_zero]; exact ⟨hR0, fun c hc => by simp at hc⟩
  | p + 1, hp => by
      obtain ⟨ih1, ih2⟩ := st_all hP hR0 hR hS p (by omega)
      by_cases h : po.getD p 0 < 0 ∨ pt.getD p 0 < 0
      · rw [stC_skip h]; exact ⟨ih1, ih2⟩
      · rw [stC_take h]
        obtain ⟨r1, r2⟩ := hR p _ (by omega) ih1 h
        exact ⟨r1 _, all_add hP (all_add hP ih2 fun _ => r2) fun _ => hS _⟩
/-- each chunk's kind is what its lines say, and it has lines -/
def KindOk (c : Ch) : Prop := c.k = kindOf c.b c.o c.t ∧ 0 < c.b.length + c.o.length + c.t.length
theorem kindOk_both (d c : Ch) (hd : d.k = 0) (hc : c.k = 0) (h : KindOk d) (g : KindOk c) : KindOk ⟨0, d.b ++ c.b, d.o ++ c.o, d.t ++ c.t⟩ := by
  have z : ∀ b o t : List ByteArray, kindOf b o t = 0 → b = o ∧ o = t := by
    intro b o t h
    unfold kindOf at h
    by_cases h1 : o = t
    · by_cases h2 : b = o
      · exact ⟨h2, h1⟩
      · simp [h1, h1 ▸ h2] at h
    · rw [if_neg h1] at h
      split at h
      · omega
      · split at h <;> omega
  obtain ⟨h1, h2⟩ := z _ _ _ (h.1.symm.trans hd)
  obtain ⟨g1, g2⟩ := z _ _ _ (g.1.symm.trans hc)
  refine ⟨?_, ?_⟩
  · simp only [h1, h2, g1, g2, kindOf_self]
  · have := h.2
    simp only [List.length_append]; omega
theorem all_kind {l : List Ch} {c : Ch} (hl : ∀ d ∈ l, KindOk d) (hc : c.k = kindOf c.b c.o c.t) : ∀ d ∈ addC l c, KindOk d :=
  all_add kindOk_both hl fun h => ⟨hc, by omega⟩
theorem st_kind (base ours theirs : List ByteArray) (po pt : List Int) : ∀ p, ∀ c ∈ (stC base ours theirs po pt p).l, KindOk c
  | 0 => fun c hc => by simp [stC_zero] at hc
  | p + 1 => by
      have ih := st_kind base ours theirs po pt p
      by_cases h : po.getD p 0 < 0 ∨ pt.getD p 0 < 0
      · rw [stC_skip h]; exact ih
      · rw [stC_take h]
        exact all_kind (all_kind ih rfl) rfl
theorem chunks_kind (base ours theirs : List ByteArray) : ∀ c ∈ chunks base ours theirs, KindOk c := all_kind (st_kind base ours theirs _ _ base.length) rfl

/-- no two chunks that are the same on all sides beside one another -/
def NoTwo (l : List Ch) : Prop := ∀ i c d, l[i]? = some c → l[i + 1]? = some d → ¬(c.k = 0 ∧ d.k = 0)
theorem noTwo_snoc {l : List Ch} {c : Ch} (h : NoTwo l) (hl : ∀ d, l.getLast? = some d → ¬(d.k = 0 ∧ c.k = 0)) : NoTwo (l ++ [c]) := by
  intro i x y hx hy
  by_cases h1 : i + 1 < l.length
  · rw [List.getElem?_append_left (by omega)] at hx
    rw [List.getElem?_append_left (by omega)] at hy
    exact h i x y hx hy
  · have h2 : i + 1 = l.length := by
      have := (List.getElem?_eq_some_iff.1 hy).1
      simp at this; omega
    rw [List.getElem?_append_left (by omega)] at hx
    rw [List.getElem?_append_right (by omega), h2, Nat.sub_self] at hy
    simp only [List.getElem?_cons_zero, Option.some.injEq] at hy
    subst hy
    exact hl x (by rw [List.getLast?_eq_getElem?]; rw [show l.length - 1 = i by omega]; exact hx)
theorem noTwo_kind {l : List Ch} {c d : Ch} (h : NoTwo (l ++ [c])) (hk : d.k = c.k) : NoTwo (l ++ [d]) := by
  intro i x y hx hy
  by_cases h1 : i + 1 < l.length
  · rw [List.getElem?_append_left (by omega)] at hx hy
    exact h i x y (by rw [List.getElem?_append_left (by omega)]; exact hx) (by rw [List.getElem?_append_left (by omega)]; exact hy)
  · have h2 : i + 1 = l.length := by
      have := (List.getElem?_eq_some_iff.1 hy).1
      simp at this; omega
    rw [List.getElem?_append_left (by omega)] at hx
    rw [List.getElem?_append_right (by omega), h2, Nat.sub_self] at hy
    simp only [List.getElem?_cons_zero, Option.some.injEq] at hy
    subst hy
    rw [hk]
    exact h i x c (by rw [List.getElem?_append_left (by omega)]; exact hx) (by rw [List.getElem?_append_right (by omega), h2, Nat.sub_self]; rfl)
theorem noTwo_add {l : List Ch} (h : NoTwo l) (c : Ch) : NoTwo (addC l c) := by
  by_cases h1 : c.b.length + c.o.length + c.t.length = 0
  · rw [addC_none _ _ h1]; exact h
  · by_cases h0 : c.k = 0
    · rw [addC_same _ _ h1 h0]
      rcases List.eq_nil_or_concat l with rfl | ⟨l', e, rfl⟩
      · rw [sameC_nil]; exact noTwo_snoc h (by simp)
      · rw [List.concat_eq_append] at h ⊢
        by_cases h2 : e.k = 0
        · rw [sameC_same _ _ h2]; exact noTwo_kind h h2.symm
        · rw [sameC_other _ _ h2]; exact noTwo_snoc h (fun d hd => by simp at hd; subst hd; exact fun g => h2 g.1)
    · rw [addC_other _ _ h1 h0]; exact noTwo_snoc h (fun d _ g => h0 g.2)
theorem st_noTwo (base ours theirs : List ByteArray) (po pt : List Int) : ∀ p, NoTwo (stC base ours theirs po pt p).l
  | 0 => fun i c d hc => by simp [stC_zero] at hc
  | p + 1 => by
      have ih := st_noTwo base ours theirs po pt p
      by_cases h : po.getD p 0 < 0 ∨ pt.getD p 0 < 0
      · rw [stC_skip h]; exact ih
      · rw [stC_take h]
        exact noTwo_add (noTwo_add ih _) _
theorem chunks_noTwo (base ours theirs : List ByteArray) : NoTwo (chunks base ours theirs) := noTwo_add (st_noTwo base ours theirs _ _ _) _

/-! sides changed about -/
def turnK (k : Int) : Int := if k = 1 then 2 else if k = 2 then 1 else k
def turnC (c : Ch) : Ch := ⟨turnK c.k, c.b, c.t, c.o⟩
theorem turnK_zero (k : Int) : turnK k = 0 ↔ k = 0 := by unfold turnK; split <;> try split
                                                         all_goals omega
theorem kindOf_turn (b o t : List ByteArray) : kindOf b t o = turnK (kindOf b o t) := by
  unfold kindOf
  by_cases h1 : o = t
  · subst h1
    simp only [if_true]
    by_cases h2 : b = o
    · rw [if_pos h2]; rfl
    · rw [if_neg h2]; rfl
  · rw [if_neg h1, if_neg (fun e => h1 e.symm)]
    by_cases h2 : b = t
    · have h3 : ¬ b = o := fun e => h1 (e.symm.trans h2)
      rw [if_pos h2, if_neg h3, if_pos h2]; rfl
    · rw [if_neg h2, if_neg h2]
      by_cases h3 : b = o
      · rw [if_pos h3, if_pos h3]; rfl
      · rw [if_neg h3, if_neg h3]; rfl
theorem turn_gap (b o t : List ByteArray) : turnC (gapC b o t) = gapC b t o := by simp [turnC, gapC, kindOf_turn b o t]
theorem turn_same (l : List Ch) (x y z : List ByteArray) : (sameC l x y z).map turnC = sameC (l.map turnC) x z y := by
  rcases List.eq_nil_or_concat l with rfl | ⟨l', e, rfl⟩
  · rw [sameC_nil]; rfl
  · rw [List.concat_eq_append, List.map_append, List.map_cons, List.map_nil]
    by_cases h : e.k = 0
    · rw [sameC_same _ _ h, sameC_same _ _ ((turnK_zero _).2 h), List.map_append]
      simp [turnC, turnK]
    · rw [sameC_other _ _ h, sameC_other _ _ (fun g => h ((turnK_zero _).1 g)), List.map_append, List.map_append]
      simp [turnC, turnK]
theorem turn_add (l : List Ch) (c : Ch) : (addC l c).map turnC = addC (l.map turnC) (turnC c) := by
  by_cases h : c.b.length + c.o.length + c.t.length = 0
  · rw [addC_none _ _ h, addC_none _ _ (by simp only [turnC]; omega)]
  · have h' : (turnC c).b.length + (turnC c).o.length + (turnC c).t.length ≠ 0 := by simp only [turnC]; omega
    by_cases h0 : c.k = 0
    · rw [addC_same _ _ h h0, addC_same _ _ h' ((turnK_zero _).2 h0), turn_same]; rfl
    · rw [addC_other _ _ h h0, addC_other _ _ h' (fun g => h0 ((turnK_zero _).1 g)), List.map_append]; rfl
theorem st_turn (base ours theirs : List ByteArray) (po pt : List Int) : ∀ p, stC base theirs ours pt po p = ⟨(stC base ours theirs po pt p).i, (stC base ours theirs po pt p).n, (stC base ours theirs po pt p).k, (stC base ours theirs po pt p).l.map turnC⟩
  | 0 => rfl
  | p + 1 => by
      have ih := st_turn base ours theirs po pt p
      by_cases h : po.getD p 0 < 0 ∨ pt.getD p 0 < 0
      · rw [stC_skip h, stC_skip h.symm]; exact ih
      · rw [stC_take h, stC_take (fun g => h g.symm)]
        rw [ih]
        simp only [turn_add, turn_gap]
theorem chunks_turn (base ours theirs : List ByteArray) : chunks base theirs ours = (chunks base ours theirs).map turnC := by
  unfold chunks endC
  rw [st_turn base ours theirs]
  simp only [turn_add, turn_gap]

/-! one side as base, both sides the same -/
theorem partS_id : ∀ (n j : Nat), partS (List.replicate n 0) j = (List.range' j n).map Int.ofNat
  | 0, j => rfl
  | n + 1, j => by rw [List.replicate_succ, List.range'_succ]; simp only [partS, List.map_cons, partS_id n (j + 1)]; rfl
theorem steps_same : ∀ a : List ByteArray, steps a a = List.replicate a.length 0
  | [] => by rw [steps_nil_left]; rfl
  | x :: a => by rw [steps_cons, if_pos rfl, steps_same a]; rfl
theorem part_id (a : List ByteArray) (p : Nat) (h : p < a.length) : (partS (steps a a) 0).getD p 0 = (p : Int) := by
  rw [steps_same, partS_id, List.getD_eq_getElem?_getD, List.getElem?_map, List.getElem?_range' (by omega)]
  simp
theorem eq_both_t (d c : Ch) (_ : d.k = 0) (_ : c.k = 0) (h : d.t = d.b) (g : c.t = c.b) : (⟨0, d.b ++ c.b, d.o ++ c.o, d.t ++ c.t⟩ : Ch).t = (⟨0, d.b ++ c.b, d.o ++ c.o, d.t ++ c.t⟩ : Ch).b := by simp only [h, g]
theorem eq_both_o (d c : Ch) (_ : d.k = 0) (_ : c.k = 0) (h : d.o = d.t) (g : c.o = c.t) : (⟨0, d.b ++ c.b, d.o ++ c.o, d.t ++ c.t⟩ : Ch).o = (⟨0, d.b ++ c.b, d.o ++ c.o, d.t ++ c.t⟩ : Ch).t := by simp only [h, g]
theorem chunks_base (base side : List ByteArray) : ∀ c ∈ chunks base side base, c.t = c.b := by
  have h := st_all (P := fun c => c.t = c.b) eq_both_t (base := base) (ours := side) (theirs := base) (po := partS (steps base side) 0) (pt := partS (steps base base) 0) (R := fun s => s.n = s.i) rfl
    (fun p s hp hr _ => by
      rw [part_id base p hp]
      exact ⟨fun l => by simp, by simp only [gapC, Int.toNat_natCast]; rw [hr]⟩) (fun x => rfl) base.length (Nat.le_refl _)
  unfold chunks endC
  refine all_add (P := fun c => c.t = c.b) eq_both_t h.2 fun _ => ?_
  simp only [gapC]
  rw [h.1]
theorem chunks_both (base side : List ByteArray) : ∀ c ∈ chunks base side side, c.o = c.t := by
  have h := st_all (P := fun c => c.o = c.t) eq_both_o (base := base) (ours := side) (theirs := side) (po := partS (steps base side) 0) (pt := partS (steps base side) 0) (R := fun s => s.k = s.n) rfl
    (fun p s hp hr _ => by
      exact ⟨fun l => rfl, by simp only [gapC]; rw [hr]⟩) (fun x => rfl) base.length (Nat.le_refl _)
  unfold chunks endC
  refine all_add (P := fun c => c.o = c.t) eq_both_o h.2 fun _ => ?_
  simp only [gapC]
  rw [h.1]
end Go.Proofs.Ytlaneilmffdahaa.Mg
