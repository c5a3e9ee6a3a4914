/- Scripts step by step; most, walked. -/
import Derived.Test.YtlaneilmffdahaaLnOpen
namespace Go.Proofs.Ytlaneilmffdahaa.Ln
open Go.RowKit
set_option linter.unusedVariables false
/-- a script's steps, one by one -/
def flat (l : List (Nat × Nat)) : List Nat := l.flatMap fun x => List.replicate x.2 x.1
theorem flat_append (l m : List (Nat × Nat)) : flat (l ++ m) = flat l ++ flat m := by simp [flat]
theorem flat_add (l : List (Nat × Nat)) (op n : Nat) : flat (add l op n) = flat l ++ List.replicate n op := by
  by_cases hn : n = 0
  · subst hn; rw [add_zero]; simp
  rcases List.eq_nil_or_concat l with rfl | ⟨l', ⟨o, k⟩, rfl⟩
  · simp [add, hn, flat]
  · rw [List.concat_eq_append]
    by_cases e : o = op
    · subst e
      rw [add_same l' o n k (by omega), flat_append, flat_append]
      simp [flat, List.replicate_append_replicate]
    · rw [add_other l' o op n k (by omega) e, flat_append]
      simp [flat]
theorem flat_pack : ∀ (s : List Nat) (l : List (Nat × Nat)), flat (pack l s) = flat l ++ s
  | [], l => by simp [pack]
  | x :: s, l => by
      rw [pack_cons, flat_pack s, flat_add]
      simp
theorem flat_scr {α : Type} [DecidableEq α] (a b : List α) : flat (scr a b) = steps a b := by
  unfold scr
  rw [flat_pack]
  simp [flat]
end Go.Proofs.Ytlaneilmffdahaa.Ln
