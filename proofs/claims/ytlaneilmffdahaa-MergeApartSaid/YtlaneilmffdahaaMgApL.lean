/- The texts of MergeApart: lines of two and of a few bytes more, and their merge. By an AI agent; no person has read it. -/
import Derived.Test.YtlaneilmffdahaaMgApart
import Derived.Test.YtlaneilmffdahaaMgMerge
namespace Go.Proofs.Ytlaneilmffdahaa.Mg
open Go.RowKit Go.Proofs.Ytlaneilmffdahaa.Ln
set_option linter.unusedVariables false

def pO : List Int := [111, 117, 114, 115, 32]
def pT : List Int := [116, 104, 101, 105, 114, 115, 32]
def xa (i : Nat) : List Int := [65 + (i : Int), 10]
def xb (f : Nat → Bool) (i : Nat) : List Int := if f i = true then pO ++ xa i else xa i
def xc (g : Nat → Bool) (i : Nat) : List Int := if g i = true then pT ++ xa i else xa i
def xd (f g : Nat → Bool) (i : Nat) : List Int := if g i = true then pT ++ xa i else xb f i
def cat (h : Nat → List Int) (n : Nat) : List Int := ((List.range n).map h).flatten
theorem cat_succ (h : Nat → List Int) (n : Nat) : cat h (n + 1) = cat h n ++ h n := by
  simp [cat, List.range_succ]
theorem cat_zero (h : Nat → List Int) : cat h 0 = [] := rfl
/-- a line: bytes without a line feed, and one -/
def IsL (l : List Int) : Prop := ∃ p, l = p ++ [10] ∧ (∀ x ∈ p, x ≠ 10) ∧ (∀ x ∈ l, 0 ≤ x ∧ x ≤ 255) ∧ l.length ≤ 9
theorem xa_is {i : Nat} (hi : i < 100) : IsL (xa i) := by
  refine ⟨[65 + (i : Int)], rfl, ?_, ?_, by simp [xa]⟩
  · intro x hx; simp at hx; omega
  · intro x hx; simp [xa] at hx; omega
theorem pO_is {i : Nat} (hi : i < 100) : IsL (pO ++ xa i) := by
  refine ⟨pO ++ [65 + (i : Int)], by simp [xa], ?_, ?_, by simp [xa, pO]⟩
  · intro x hx; simp [pO] at hx; omega
  · intro x hx; simp [xa, pO] at hx; omega
theorem pT_is {i : Nat} (hi : i < 100) : IsL (pT ++ xa i) := by
  refine ⟨pT ++ [65 + (i : Int)], by simp [xa], ?_, ?_, by simp [xa, pT]⟩
  · intro x hx; simp [pT] at hx; omega
  · intro x hx; simp [xa, pT] at hx; omega
theorem xb_is (f : Nat → Bool) {i : Nat} (hi : i < 100) : IsL (xb f i) := by
  unfold xb; split
  · exact pO_is hi
  · exact xa_is hi
theorem xc_is (g : Nat → Bool) {i : Nat} (hi : i < 100) : IsL (xc g i) := by
  unfold xc; split
  · exact pT_is hi
  · exact xa_is hi
theorem xd_is (f g : Nat → Bool) {i : Nat} (hi : i < 100) : IsL (xd f g i) := by
  unfold xd; split
  · exact pT_is hi
  · exact xb_is f hi
theorem splA_flatten : ∀ (L : List (List Int)), (∀ l ∈ L, IsL l) → splA [] L.flatten = L
  | [], _ => by simp [splA]
  | l :: L, h => by
      obtain ⟨p, rfl, hp, _⟩ := h l (List.mem_cons_self ..)
      have ih := splA_flatten L (fun l hl => h l (List.mem_cons_of_mem _ hl))
      rw [List.flatten_cons, List.append_assoc]
      show splA [] (p ++ 10 :: L.flatten) = _
      rw [splA_line p [] _ hp, ih]
      simp
theorem map_is {h : Nat → List Int} {n : Nat} (hh : ∀ i, i < n → IsL (h i)) : ∀ l ∈ (List.range n).map h, IsL l := by
  intro l hl
  obtain ⟨i, hi, rfl⟩ := List.mem_map.1 hl
  exact hh i (List.mem_range.1 hi)
theorem spl_cat {h : Nat → List Int} {n : Nat} (hh : ∀ i, i < n → IsL (h i)) : spl (cat h n) = ((List.range n).map h).map sb := by
  unfold spl cat
  rw [splA_flatten _ (map_is hh)]
theorem cat_byte {h : Nat → List Int} {n : Nat} (hh : ∀ i, i < n → IsL (h i)) : ∀ x ∈ cat h n, 0 ≤ x ∧ x ≤ 255 := by
  intro x hx
  obtain ⟨l, hl, hx⟩ := List.mem_flatten.1 hx
  obtain ⟨p, _, _, h3, _⟩ := map_is hh l hl
  exact h3 x hx
theorem cat_len {h : Nat → List Int} : ∀ {n : Nat}, (∀ i, i < n → IsL (h i)) → (cat h n).length ≤ 9 * n
  | 0, _ => by simp [cat]
  | n + 1, hh => by
      have ih := cat_len (h := h) (n := n) (fun i hi => hh i (by omega))
      obtain ⟨p, _, _, _, h4⟩ := hh n (by omega)
      rw [cat_succ, List.length_append]
      omega
theorem cat_ints {h : Nat → List Int} {n : Nat} (hh : ∀ i, i < n → IsL (h i)) : ints (((List.range n).map h).map sb) = cat h n := by
  exact ints_sb _ (fun l hl x hx => by obtain ⟨p, _, _, h3, _⟩ := map_is hh l hl; exact h3 x hx)
theorem sb_inj {l m : List Int} (hl : ∀ x ∈ l, 0 ≤ x ∧ x ≤ 255) (hm : ∀ x ∈ m, 0 ≤ x ∧ x ≤ 255) (h : sb l = sb m) : l = m := by
  have e1 := ints_sb [l] (by intro y hy; rw [List.mem_singleton.1 hy]; exact hl)
  have e2 := ints_sb [m] (by intro y hy; rw [List.mem_singleton.1 hy]; exact hm)
  simp only [List.map_cons, List.map_nil, List.flatten_cons, List.flatten_nil, List.append_nil] at e1 e2
  rw [← e1, ← e2, h]
theorem is_inj {l m : List Int} (hl : IsL l) (hm : IsL m) (h : sb l = sb m) : l = m := by
  obtain ⟨p, _, _, h3, _⟩ := hl
  obtain ⟨q, _, _, h4, _⟩ := hm
  exact sb_inj h3 h4 h
theorem getD_map {h : Nat → List Int} {n i : Nat} (hi : i < n) : (((List.range n).map h).map sb).getD i ByteArray.empty = sb (h i) := by
  simp [List.getD_eq_getElem?_getD, hi]
theorem len_map {h : Nat → List Int} {n : Nat} : (((List.range n).map h).map sb).length = n := by simp
/-- the merge of texts whose sides have changed apart lines -/
theorem merge_apart {n : Nat} (hn : n ≤ 30) (f g : Nat → Bool) (hap : ∀ i j, i < n → j < n → f i = true → g j = true → i + 2 ≤ j ∨ j + 2 ≤ i) :
    rend (chunks (spl (cat xa n)) (spl (cat (xb f) n)) (spl (cat (xc g) n))) = cat (xd f g) n ∧ clean (chunks (spl (cat xa n)) (spl (cat (xb f) n)) (spl (cat (xc g) n))) = true := by
  have ha : ∀ i, i < n → IsL (xa i) := fun i hi => xa_is (by omega)
  have hb : ∀ i, i < n → IsL (xb f i) := fun i hi => xb_is f (by omega)
  have hc : ∀ i, i < n → IsL (xc g i) := fun i hi => xc_is g (by omega)
  have hd : ∀ i, i < n → IsL (xd f g i) := fun i hi => xd_is f g (by omega)
  have un : ∀ i j, i < n → j < n → sb (xa i) = sb (xa j) → i = j := by
    intro i j hi hj h
    have := is_inj (ha i hi) (ha j hj) h
    simp [xa] at this
    omega
  have h := apart_all (n := n) (a := ((List.range n).map xa).map sb) (b := ((List.range n).map (xb f)).map sb) (c := ((List.range n).map (xc g)).map sb) (d := ((List.range n).map (xd f g)).map sb) (f := f) (g := g) {
    cb := { la := len_map, lb := len_map
            un := fun i j hi hj h => un i j hi hj (by rw [getD_map hi, getD_map hj] at h; exact h)
            on := fun i hi hf j hj h => by
              rw [getD_map hi, getD_map hj] at h
              have := is_inj (hb i hi) (ha j hj) h
              simp [xb, hf, xa, pO] at this
            off := fun i hi hf => by
              rw [getD_map hi, getD_map hi, xb, hf]; rfl }
    cc := { la := len_map, lb := len_map
            un := fun i j hi hj h => un i j hi hj (by rw [getD_map hi, getD_map hj] at h; exact h)
            on := fun i hi hf j hj h => by
              rw [getD_map hi, getD_map hj] at h
              have := is_inj (hc i hi) (ha j hj) h
              simp [xc, hf, xa, pT] at this
            off := fun i hi hf => by
              rw [getD_map hi, getD_map hi, xc, hf]; rfl }
    ld := len_map
    df := fun i hi hf => by
      have hg : g i = false := by
        cases hg : g i
        · rfl
        · rcases hap i i hi hi hf hg with h | h <;> omega
      rw [getD_map hi, getD_map hi, xd, hg]; rfl
    dg := fun i hi hg => by
      rw [getD_map hi, getD_map hi, xd, xc, if_pos hg, if_pos hg]
    dn := fun i hi hf hg => by
      rw [getD_map hi, getD_map hi, xd, xb, hf, hg]; rfl
    ap := hap }
  rw [spl_cat ha, spl_cat hb, spl_cat hc]
  exact ⟨h.1.trans (cat_ints hd), h.2⟩
end Go.Proofs.Ytlaneilmffdahaa.Mg
