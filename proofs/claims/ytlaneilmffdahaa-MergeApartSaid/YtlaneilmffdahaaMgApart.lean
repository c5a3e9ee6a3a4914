/- Changes of both sides that lie apart, plainly. -/
import Derived.Test.YtlaneilmffdahaaMgRend
namespace Go.Proofs.Ytlaneilmffdahaa.Mg
open Go.Proofs.Ytlaneilmffdahaa.Ln
set_option linter.unusedVariables false

/-- how many places two rows have in common -/
def eqs : List ByteArray → List ByteArray → Nat
  | x :: a, y :: b => (if x = y then 1 else 0) + eqs a b
  | _, _ => 0
theorem eqs_lcs : ∀ a b : List ByteArray, eqs a b ≤ lcs a b
  | [], b => by simp [eqs]
  | x :: a, [] => by simp [eqs]
  | x :: a, y :: b => by
      have ih := eqs_lcs a b
      rw [lcs_cons]
      unfold eqs
      by_cases h : x = y
      · rw [if_pos h, if_pos h]; omega
      · rw [if_neg h, if_neg h]
        have h1 := lcs_right_le y a b
        omega
/-- how many partners there are -/
def kepts (p : List Int) : Nat := p.countP fun x => x != -1
theorem kepts_steps : ∀ (a b : List ByteArray) (j : Nat), kepts (partS (steps a b) j) = lcs a b
  | [], b, j => by
      rw [steps_nil_left, lcs_nil_left]
      generalize b.length = n
      induction n generalizing j with
      | zero => rfl
      | succ n ih => rw [List.replicate_succ]; exact ih (j + 1)
  | x :: a, [], j => by
      rw [steps_nil_right, lcs_nil_right]
      generalize (x :: a).length = n
      induction n with
      | zero => rfl
      | succ n ih => rw [List.replicate_succ]; simpa [partS, kepts] using ih
  | x :: a, y :: b, j => by
      rw [steps_cons, lcs_cons]
      by_cases h : x = y
      · rw [if_pos h, if_pos h]
        simp only [partS, kepts, List.countP_cons]
        have := kepts_steps a b (j + 1)
        simp only [kepts] at this
        rw [this]
        have : ((j : Int) != -1) = true := by rw [bne_iff_ne]; omega
        rw [if_pos this]
      · rw [if_neg h, if_neg h]
        by_cases h2 : lcs (x :: a) b ≤ lcs a (y :: b)
        · rw [if_pos h2]
          have := kepts_steps a (y :: b) j
          simp only [partS, kepts, List.countP_cons] at this ⊢
          rw [this]
          simp; omega
        · rw [if_neg h2]
          have := kepts_steps (x :: a) b (j + 1)
          simp only [partS, kepts] at this ⊢
          rw [this]; omega
termination_by a b => a.length + b.length

/-- b is a with some lines changed to others that stand nowhere in a; a's lines are all unlike -/
structure Chg (n : Nat) (a b : List ByteArray) (f : Nat → Bool) : Prop where
  la : a.length = n
  lb : b.length = n
  un : ∀ i j, i < n → j < n → a.getD i ByteArray.empty = a.getD j ByteArray.empty → i = j
  on : ∀ i, i < n → f i = true → ∀ j, j < n → b.getD i ByteArray.empty ≠ a.getD j ByteArray.empty
  off : ∀ i, i < n → f i = false → b.getD i ByteArray.empty = a.getD i ByteArray.empty
theorem count_le_of_imp {p q : Nat → Bool} : ∀ n, (∀ i, i < n → p i = true → q i = true) → (List.range n).countP p ≤ (List.range n).countP q := by
  intro n h
  exact List.countP_mono_left fun i hi => h i (List.mem_range.1 hi)
theorem count_all {p q : Nat → Bool} : ∀ n, (∀ i, i < n → p i = true → q i = true) → (List.range n).countP q ≤ (List.range n).countP p → ∀ i, i < n → q i = true → p i = true
  | 0, _, _, i, hi, _ => by omega
  | n + 1, h, hc, i, hi, hq => by
      rw [List.range_succ, List.countP_append, List.countP_append] at hc
      have h1 := count_le_of_imp n fun i hi => h i (Nat.lt_succ_of_lt hi)
      simp only [List.countP_cons, List.countP_nil, Nat.zero_add] at hc
      have hn := h n (Nat.lt_succ_self n)
      by_cases e : i = n
      · subst e
        cases hp : p i
        · rw [hp, hq] at hc; simp at hc; omega
        · rfl
      · refine count_all n (fun i hi => h i (Nat.lt_succ_of_lt hi)) ?_ i (by omega) hq
        cases hp : p n
        · cases hq' : q n
          · rw [hp, hq'] at hc; simpa using hc
          · rw [hp, hq'] at hc; simp at hc; omega
        · rw [hp, hn hp] at hc; simp at hc; omega
theorem eqs_count (a b : List ByteArray) : ∀ n, a.length = n → b.length = n → eqs a b = (List.range n).countP fun i => decide (b.getD i ByteArray.empty = a.getD i ByteArray.empty) := by
  intro n
  induction n generalizing a b with
  | zero =>
    intro h1 h2
    obtain rfl := List.eq_nil_of_length_eq_zero h1
    rfl
  | succ n ih =>
    intro h1 h2
    cases a with
    | nil => simp at h1
    | cons x a =>
      cases b with
      | nil => simp at h2
      | cons y b =>
        have e := ih a b (by simpa using h1) (by simpa using h2)
        rw [eqs, e, List.range_succ_eq_map, List.countP_cons, List.countP_map]
        have e0 : (if decide ((y :: b).getD 0 ByteArray.empty = (x :: a).getD 0 ByteArray.empty) = true then 1 else 0) = (if x = y then 1 else 0) := by
          by_cases h : x = y
          · rw [if_pos h, if_pos (by simpa using h.symm)]
          · rw [if_neg h, if_neg (by simpa using fun e => h e.symm)]
        rw [e0, Nat.add_comm]
        rfl
theorem kepts_count (p : List Int) : ∀ n, p.length = n → kepts p = (List.range n).countP fun i => p.getD i 0 != -1 := by
  intro n
  induction n generalizing p with
  | zero =>
    intro h1
    obtain rfl := List.eq_nil_of_length_eq_zero h1
    rfl
  | succ n ih =>
    intro h1
    cases p with
    | nil => simp at h1
    | cons x p =>
      have e := ih p (by simpa using h1)
      unfold kepts at e ⊢
      rw [List.countP_cons, e, List.range_succ_eq_map, List.countP_cons, List.countP_map]
      rfl
theorem getD_of {l : List ByteArray} {i : Nat} (h : i < l.length) : l[i]? = some (l.getD i ByteArray.empty) := by
  rw [List.getD_eq_getElem?_getD, List.getElem?_eq_getElem h]; rfl
/-- of such rows just the unchanged lines are kept, each with its own -/
theorem chg_part {n : Nat} {a b : List ByteArray} {f : Nat → Bool} (h : Chg n a b f) : ∀ i, i < n → (partS (steps a b) 0).getD i 0 = if f i = true then -1 else (i : Int) := by
  have hp := part_ok a b
  have hla := h.la
  have hlb := h.lb
  have hk : ∀ i, i < n → (partS (steps a b) 0).getD i 0 ≠ -1 → f i = false ∧ (partS (steps a b) 0).getD i 0 = (i : Int) := by
    intro i hi hne
    rcases hp.at' i (by omega) with e | ⟨j, e1, e2, e3⟩
    · exact absurd e hne
    have e4 : b.getD j ByteArray.empty = a.getD i ByteArray.empty := by
      rw [getD_of (by omega), getD_of (by omega)] at e3
      exact Option.some.inj e3
    have hj : f j = false := by
      cases hf : f j
      · rfl
      · exact absurd e4 (h.on j (by omega) hf i hi)
    have e5 := h.off j (by omega) hj
    have := h.un j i (by omega) hi (e5.symm.trans e4)
    subst this
    exact ⟨hj, e1⟩
  have hall := count_all (p := fun i => (partS (steps a b) 0).getD i 0 != -1) (q := fun i => decide (b.getD i ByteArray.empty = a.getD i ByteArray.empty)) n
    (fun i hi hq => by
      have := hk i hi (by simpa using hq)
      simpa using h.off i hi this.1)
    (by
      rw [← eqs_count a b n hla hlb, ← kepts_count _ n (by rw [hp.len]; exact hla), kepts_steps]
      exact eqs_lcs a b)
  intro i hi
  cases hf : f i
  · have h1 := hall i hi (by simpa using h.off i hi hf)
    rw [if_neg (by simp)]
    exact (hk i hi (by simpa using h1)).2
  · rw [if_pos rfl]
    by_cases hne : (partS (steps a b) 0).getD i 0 = -1
    · exact hne
    · have := (hk i hi hne).1
      rw [hf] at this; cases this

theorem rend_same (l : List Ch) (x y z : List ByteArray) : rend (sameC l x y z) = rend l ++ ints x := by
  rcases List.eq_nil_or_concat l with rfl | ⟨l', e, rfl⟩
  · rw [sameC_nil, rend_one]; simp [rendC, rend]
  · rw [List.concat_eq_append]
    by_cases h : e.k = 0
    · rw [sameC_same _ _ h, rend_append, rend_append, rend_one, rend_one]
      simp [rendC, h, ints_append]
    · rw [sameC_other _ _ h, rend_append _ [_], rend_one]; simp [rendC]
theorem rend_add (l : List Ch) (c : Ch) (h4 : c.k ≠ 4) (hk : c.k ≤ 4) (h0 : 0 ≤ c.k) : rend (addC l c) = rend l ++ rendC c := by
  by_cases h : c.b.length + c.o.length + c.t.length = 0
  · rw [addC_none _ _ h]
    have h1 : c.b = [] := List.eq_nil_of_length_eq_zero (by omega)
    have h2 : c.o = [] := List.eq_nil_of_length_eq_zero (by omega)
    have h3 : c.t = [] := List.eq_nil_of_length_eq_zero (by omega)
    unfold rendC
    rw [h1, h2, h3]
    simp [ints, h4]
  · by_cases hz : c.k = 0
    · rw [addC_same _ _ h hz, rend_same]; simp [rendC, hz]
    · rw [addC_other _ _ h hz, rend_append, rend_one]
theorem clean_same (l : List Ch) (x y z : List ByteArray) : clean (sameC l x y z) = clean l := by
  rcases List.eq_nil_or_concat l with rfl | ⟨l', e, rfl⟩
  · rw [sameC_nil]; rfl
  · rw [List.concat_eq_append]
    by_cases h : e.k = 0
    · rw [sameC_same _ _ h, clean_append, clean_append]; simp [clean, h]
    · rw [sameC_other _ _ h, clean_append _ [_]]; simp [clean]
theorem clean_add (l : List Ch) (c : Ch) (h4 : c.k ≠ 4) : clean (addC l c) = clean l := by
  by_cases h : c.b.length + c.o.length + c.t.length = 0
  · rw [addC_none _ _ h]
  · by_cases hz : c.k = 0
    · rw [addC_same _ _ h hz, clean_same]
    · rw [addC_other _ _ h hz, clean_append]; simp [clean, h4]

theorem seg_getD (l : List ByteArray) (i j k : Nat) (h : j ≤ l.length) (hk : k < j - i) : (seg l i j).getD k ByteArray.empty = l.getD (i + k) ByteArray.empty := by
  unfold seg
  rw [List.getD_eq_getElem?_getD, List.getElem?_drop, List.getElem?_take, if_pos (by omega), ← List.getD_eq_getElem?_getD]
theorem seg_eq {l m : List ByteArray} {i j : Nat} (hl : j ≤ l.length) (hm : j ≤ m.length) (h : ∀ q, i ≤ q → q < j → l.getD q ByteArray.empty = m.getD q ByteArray.empty) : seg l i j = seg m i j := by
  refine List.ext_getElem? fun k => ?_
  by_cases hk : k < j - i
  · rw [getD_of (by rw [seg_len _ _ _ hl]; exact hk), getD_of (by rw [seg_len _ _ _ hm]; exact hk), seg_getD _ _ _ _ hl hk, seg_getD _ _ _ _ hm hk, h (i + k) (by omega) (by omega)]
  · rw [List.getElem?_eq_none (by rw [seg_len _ _ _ hl]; omega), List.getElem?_eq_none (by rw [seg_len _ _ _ hm]; omega)]
theorem seg_ne {l m : List ByteArray} {i j q : Nat} (hl : j ≤ l.length) (hm : j ≤ m.length) (hi : i ≤ q) (hq : q < j) (h : l.getD q ByteArray.empty ≠ m.getD q ByteArray.empty) : seg l i j ≠ seg m i j := by
  intro e
  apply h
  have h1 := seg_getD l i j (q - i) hl (by omega)
  have h2 := seg_getD m i j (q - i) hm (by omega)
  rw [e, h2] at h1
  rw [show i + (q - i) = q by omega] at h1
  exact h1.symm
theorem seg_nil (l : List ByteArray) (i : Nat) : seg l i i = [] := by unfold seg; exact List.drop_of_length_le (by simp; omega)

/-- the whole: base a, ours b, theirs c, and the merge d -/
structure Apt (n : Nat) (a b c d : List ByteArray) (f g : Nat → Bool) : Prop where
  cb : Chg n a b f
  cc : Chg n a c g
  ld : d.length = n
  df : ∀ i, i < n → f i = true → d.getD i ByteArray.empty = b.getD i ByteArray.empty
  dg : ∀ i, i < n → g i = true → d.getD i ByteArray.empty = c.getD i ByteArray.empty
  dn : ∀ i, i < n → f i = false → g i = false → d.getD i ByteArray.empty = a.getD i ByteArray.empty
  ap : ∀ i j, i < n → j < n → f i = true → g j = true → i + 2 ≤ j ∨ j + 2 ≤ i
section
variable {n : Nat} {a b c d : List ByteArray} {f g : Nat → Bool}
/-- a piece between anchors: one side's changes alone -/
def One (f g : Nat → Bool) (i p : Nat) : Prop := (∀ q, i ≤ q → q < p → f q = true ∧ g q = false) ∨ (∀ q, i ≤ q → q < p → g q = true ∧ f q = false)
theorem gap_one (h : Apt n a b c d f g) {i p : Nat} (hi : i ≤ p) (hp : p ≤ n) (ho : One f g i p) : (gapC (seg a i p) (seg b i p) (seg c i p)).k ≠ 4 ∧ rendC (gapC (seg a i p) (seg b i p) (seg c i p)) = ints (seg d i p) ∧ 0 ≤ (gapC (seg a i p) (seg b i p) (seg c i p)).k ∧ (gapC (seg a i p) (seg b i p) (seg c i p)).k ≤ 4 := by
  have la := h.cb.la
  have lb := h.cb.lb
  have lc := h.cc.lb
  have ld := h.ld
  by_cases e : i = p
  · subst e
    simp only [seg_nil, gapC, kindOf_self]
    simp [rendC]
  · rcases ho with ho | ho
    · have e1 : seg c i p = seg a i p := seg_eq (by omega) (by omega) fun q h1 h2 => h.cc.off q (by omega) (ho q h1 h2).2
      have e2 : seg d i p = seg b i p := seg_eq (by omega) (by omega) fun q h1 h2 => h.df q (by omega) (ho q h1 h2).1
      have e3 : seg b i p ≠ seg a i p := seg_ne (q := i) (by omega) (by omega) (Nat.le_refl _) (by omega) (h.cb.on i (by omega) (ho i (Nat.le_refl _) (by omega)).1 i (by omega))
      have k : kindOf (seg a i p) (seg b i p) (seg c i p) = 1 := by unfold kindOf; rw [if_neg (by rw [e1]; exact e3), if_pos e1.symm]
      simp only [gapC, k]
      refine ⟨by omega, ?_, by omega, by omega⟩
      rw [e2]; simp [rendC]
    · have e1 : seg b i p = seg a i p := seg_eq (by omega) (by omega) fun q h1 h2 => h.cb.off q (by omega) (ho q h1 h2).2
      have e2 : seg d i p = seg c i p := seg_eq (by omega) (by omega) fun q h1 h2 => h.dg q (by omega) (ho q h1 h2).1
      have e3 : seg c i p ≠ seg a i p := seg_ne (q := i) (by omega) (by omega) (Nat.le_refl _) (by omega) (h.cc.on i (by omega) (ho i (Nat.le_refl _) (by omega)).1 i (by omega))
      have k : kindOf (seg a i p) (seg b i p) (seg c i p) = 2 := by
        unfold kindOf; rw [if_neg (by rw [e1]; exact fun e => e3 e.symm), if_neg (fun e => e3 e.symm), if_pos e1.symm]
      simp only [gapC, k]
      refine ⟨by omega, ?_, by omega, by omega⟩
      rw [e2]; simp [rendC]
theorem one_more (h : Apt n a b c d f g) {i p : Nat} (hi : i ≤ p) (hp : p < n) (ho : One f g i p) (hc : f p = true ∨ g p = true) : One f g i (p + 1) := by
  have no : ¬(f p = true ∧ g p = true) := fun e => by have := h.ap p p hp hp e.1 e.2; omega
  by_cases e : i = p
  · subst e
    cases hf : f i
    · right
      intro q h1 h2
      obtain rfl : q = i := by omega
      rcases hc with hc | hc
      · rw [hf] at hc; cases hc
      · exact ⟨hc, hf⟩
    · left
      intro q h1 h2
      obtain rfl : q = i := by omega
      exact ⟨hf, by cases hg : g q <;> simp_all⟩
  · rcases ho with ho | ho
    · have h1 := ho (p - 1) (by omega) (by omega)
      have hg : g p = false := by
        cases hg : g p
        · rfl
        · have := h.ap (p - 1) p (by omega) hp h1.1 hg; omega
      left
      intro q g1 g2
      by_cases e' : q = p
      · subst e'
        rcases hc with hc | hc
        · exact ⟨hc, hg⟩
        · rw [hg] at hc; cases hc
      · exact ho q g1 (by omega)
    · have h1 := ho (p - 1) (by omega) (by omega)
      have hf : f p = false := by
        cases hf : f p
        · rfl
        · have := h.ap p (p - 1) hp (by omega) hf h1.1; omega
      right
      intro q g1 g2
      by_cases e' : q = p
      · subst e'
        rcases hc with hc | hc
        · rw [hf] at hc; cases hc
        · exact ⟨hc, hf⟩
      · exact ho q g1 (by omega)
theorem apart_st (h : Apt n a b c d f g) : ∀ p, p ≤ n → ∃ i, i ≤ p ∧ (stC a b c (partS (steps a b) 0) (partS (steps a c) 0) p).i = i ∧ (stC a b c (partS (steps a b) 0) (partS (steps a c) 0) p).k = i ∧ (stC a b c (partS (steps a b) 0) (partS (steps a c) 0) p).n = i ∧ One f g i p ∧ rend (stC a b c (partS (steps a b) 0) (partS (steps a c) 0) p).l = ints (d.take i) ∧ clean (stC a b c (partS (steps a b) 0) (partS (steps a c) 0) p).l = true
  | 0, _ => ⟨0, Nat.le_refl _, rfl, rfl, rfl, .inl fun q _ hq => by omega, rfl, rfl⟩
  | p + 1, hp => by
      obtain ⟨i, hi, e1, e2, e3, ho, hr, hcl⟩ := apart_st h p (by omega)
      have pb := chg_part h.cb p (by omega)
      have pc := chg_part h.cc p (by omega)
      by_cases hc : f p = true ∨ g p = true
      · have hneg : (partS (steps a b) 0).getD p 0 < 0 ∨ (partS (steps a c) 0).getD p 0 < 0 := by
          rcases hc with hc | hc
          · left; rw [pb, if_pos hc]; omega
          · right; rw [pc, if_pos hc]; omega
        rw [stC_skip hneg]
        exact ⟨i, by omega, e1, e2, e3, one_more h hi (by omega) ho hc, hr, hcl⟩
      · have hf : f p = false := by cases hf : f p <;> simp_all
        have hg : g p = false := by cases hg : g p <;> simp_all
        rw [hf, if_neg (by simp)] at pb
        rw [hg, if_neg (by simp)] at pc
        have hneg : ¬((partS (steps a b) 0).getD p 0 < 0 ∨ (partS (steps a c) 0).getD p 0 < 0) := by rw [pb, pc]; omega
        rw [stC_take hneg, pb, pc]
        simp only [Int.toNat_natCast, e1, e2, e3]
        obtain ⟨k1, k2, k3, k4⟩ := gap_one h hi (by omega) ho
        have ks : (gapC (seg a p (p + 1)) (seg a p (p + 1)) (seg a p (p + 1))).k = 0 := kindOf_self _
        have ld := h.ld
        have la := h.cb.la
        refine ⟨p + 1, Nat.le_refl _, rfl, rfl, rfl, .inl fun q g1 g2 => by omega, ?_, ?_⟩
        · rw [rend_add _ _ (by rw [ks]; omega) (by rw [ks]; omega) (by rw [ks]; omega), rend_add _ _ k1 k4 k3, hr, k2, ← ints_append, take_seg _ _ _ hi]
          have : rendC (gapC (seg a p (p + 1)) (seg a p (p + 1)) (seg a p (p + 1))) = ints (seg a p (p + 1)) := by simp [rendC, gapC, kindOf_self]
          rw [this, ← ints_append, ← seg_eq (l := d) (m := a) (by omega) (by omega) (fun q g1 g2 => by
            obtain rfl : q = p := by omega
            exact h.dn q (by omega) hf hg), take_seg _ _ _ (Nat.le_succ _)]
        · rw [clean_add _ _ (by rw [ks]; omega), clean_add _ _ k1]; exact hcl
/-- both sides' changes are taken, cleanly -/
theorem apart_all (h : Apt n a b c d f g) : rend (chunks a b c) = ints d ∧ clean (chunks a b c) = true := by
  have la := h.cb.la
  have lb := h.cb.lb
  have lc := h.cc.lb
  have ld := h.ld
  obtain ⟨i, hi, e1, e2, e3, ho, hr, hcl⟩ := apart_st h n (Nat.le_refl _)
  obtain ⟨k1, k2, k3, k4⟩ := gap_one h hi (Nat.le_refl _) ho
  unfold chunks endC
  simp only [la, lb, lc, e1, e2, e3]
  refine ⟨?_, ?_⟩
  · rw [rend_add _ _ k1 k4 k3, hr, k2, ← ints_append, take_seg _ _ _ hi, ← ld, List.take_length]
  · rw [clean_add _ _ k1]; exact hcl
end
end Go.Proofs.Ytlaneilmffdahaa.Mg
