/- The lines that a script inserts; a script done makes the other side. The document's Added, walked. -/
import Derived.Test.YtlaneilmffdahaaLnFirst
import Derived.Test.YtlaneilmffdahaaLnApply
namespace Go.Proofs.Ytlaneilmffdahaa.Ln
open Go.RowKit
set_option linter.unusedVariables false
/-- kinds that stand beside one another differ -/
def okd : List Nat → Prop
  | a :: b :: t => a ≠ b ∧ okd (b :: t)
  | _ => True
theorem okd_snoc : ∀ (l : List Nat) (o p : Nat), okd (l ++ [o]) → o ≠ p → okd (l ++ [o] ++ [p])
  | [], o, p, h, hne => ⟨hne, trivial⟩
  | [a], o, p, h, hne => ⟨h.1, hne, trivial⟩
  | a :: b :: t, o, p, h, hne => ⟨h.1, okd_snoc (b :: t) o p h.2 hne⟩
/-- such as add makes -/
def Good (l : List (Nat × Nat)) : Prop := okd (l.map (·.1)) ∧ ∀ x ∈ l, 1 ≤ x.2 ∧ x.1 ≤ 2
theorem good_add {l : List (Nat × Nat)} {op n : Nat} (h : Good l) (ho : op ≤ 2) : Good (add l op n) := by
  by_cases hn : n = 0
  · subst hn; rw [add_zero]; exact h
  rcases List.eq_nil_or_concat l with rfl | ⟨l', ⟨o, k⟩, rfl⟩
  · rw [add_nil op n (by omega)]
    exact ⟨trivial, fun x hx => by simp at hx; subst hx; exact ⟨by simp; omega, ho⟩⟩
  · rw [List.concat_eq_append] at h ⊢
    by_cases e : o = op
    · subst e
      rw [add_same l' o n k (by omega)]
      refine ⟨by simpa using h.1, fun x hx => ?_⟩
      rcases List.mem_append.1 hx with hx | hx
      · exact h.2 x (List.mem_append_left _ hx)
      · simp at hx; subst hx; exact ⟨by simp; omega, ho⟩
    · rw [add_other l' o op n k (by omega) e]
      refine ⟨?_, fun x hx => ?_⟩
      · have h1 := h.1
        simp only [List.map_append, List.map_cons, List.map_nil] at h1 ⊢
        exact okd_snoc _ _ _ h1 e
      · rcases List.mem_append.1 hx with hx | hx
        · exact h.2 x hx
        · simp at hx; subst hx; exact ⟨by simp; omega, ho⟩
theorem good_pack : ∀ (s : List Nat) (l : List (Nat × Nat)), Good l → (∀ x ∈ s, x ≤ 2) → Good (pack l s)
  | [], l, h, _ => by simpa [pack] using h
  | x :: s, l, h, hs => by
      rw [pack_cons]
      exact good_pack s _ (good_add h (hs x List.mem_cons_self)) (fun y hy => hs y (List.mem_cons_of_mem _ hy))
theorem steps_le2 {α : Type} [DecidableEq α] : ∀ a b : List α, ∀ x ∈ steps a b, x ≤ 2
  | [], b => by rw [steps_nil_left]; intro x hx; rw [List.eq_of_mem_replicate hx]; omega
  | x :: a, [] => by rw [steps_nil_right]; intro x hx; rw [List.eq_of_mem_replicate hx]; omega
  | x :: a, y :: b => by
      have h1 := steps_le2 a b
      have h2 := steps_le2 a (y :: b)
      have h3 := steps_le2 (x :: a) b
      rw [steps_cons]
      intro z hz
      split at hz
      · rcases List.mem_cons.1 hz with rfl | hz
        · omega
        · exact h1 z hz
      · split at hz
        · rcases List.mem_cons.1 hz with rfl | hz
          · omega
          · exact h2 z hz
        · rcases List.mem_cons.1 hz with rfl | hz
          · omega
          · exact h3 z hz
termination_by a b => a.length + b.length
theorem good_scr {α : Type} [DecidableEq α] (a b : List α) : Good (scr a b) := good_pack _ _ ⟨trivial, fun x hx => by simp at hx⟩ (steps_le2 a b)
/-- edits as integers -/
def ze (l : List (Nat × Nat)) : List (Int × Int) := l.map fun x => ((x.1 : Int), (x.2 : Int))
theorem own_block2 {w : World} {B e g N C n sz : Nat} {xs : List Value} (h : w.ownsRow B e sz (.slice (some ⟨g, 0, none⟩) N C) n xs) : g < w.heap.size := by
  rcases h.2 with ⟨hv, _⟩ | ⟨g', cap, cur, hv, hg, hh, _⟩
  · simp at hv
  · simp only [Value.slice.injEq, Option.some.injEq, Addr.mk.injEq, and_true] at hv
    obtain ⟨rfl, _⟩ := hv
    exact lt_of_block hh
theorem rde_of_own {w : World} {B : Nat} {A : Option Addr} {C : Nat} {l : List (Nat × Nat)} (h : w.ownsRow B 82 2 (.slice A l.length C) l.length (ed l)) (hl : l.length ≤ 140737488355328) : RdE w w.heap.size A l.length C (ze l) := by
  have hlen := own_edit_len h
  have hc := hlen.2
  unfold maxLen at hc
  refine ⟨by simp [ze], hc.1, hc.2, hl, ?_, ?_⟩
  · intro hn
    rcases h.2 with ⟨hv, h0⟩ | ⟨g, cap, cur, hv, hg, hh, hc1, hc2, hc3, ht⟩
    · simp only [Value.slice.injEq] at hv; exact hv.2.2
    · subst hn; simp at hv
  · intro i hi
    have hi2 : i < l.length := by simpa [ze] using hi
    obtain ⟨g, rfl, e1, e2⟩ := own_edit h i hi2
    refine ⟨g, 0, rfl, own_block2 h, ?_, ?_⟩
    · rw [Nat.zero_add]; simpa [ze] using e1
    · rw [Nat.zero_add]; simpa [ze] using e2
end Go.Proofs.Ytlaneilmffdahaa.Ln
