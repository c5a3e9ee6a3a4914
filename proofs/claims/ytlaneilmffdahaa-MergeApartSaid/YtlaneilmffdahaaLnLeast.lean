/- Lines that were changed at some places: what a script can tell of them at most. -/
import Derived.Test.YtlaneilmffdahaaLnAdded
namespace Go.Proofs.Ytlaneilmffdahaa.Ln
open Go.RowKit
set_option linter.unusedVariables false
theorem steps_length {α : Type} [DecidableEq α] : ∀ a b : List α, (steps a b).length + lcs a b = a.length + b.length
  | [], b => by rw [steps_nil_left, lcs_nil_left]; simp
  | x :: a, [] => by rw [steps_nil_right, lcs_nil_right]; simp
  | x :: a, y :: b => by
      have h1 := steps_length a b
      have h2 := steps_length a (y :: b)
      have h3 := steps_length (x :: a) b
      rw [steps_cons, lcs_cons]
      simp only [List.length_cons] at *
      split
      · simp only [List.length_cons]; omega
      · split <;> simp only [List.length_cons] <;> omega
termination_by a b => a.length + b.length
theorem tot_lcs {α : Type} [DecidableEq α] (a b : List α) : tot (scr a b) + lcs a b = a.length + b.length := by
  unfold scr
  rw [scr_tot]
  simp only [tot, List.map_nil, List.sum_nil, Nat.zero_add]
  exact steps_length a b
theorem own_nil (w : World) (B : Nat) : w.ownsRow B 9 1 (.slice none 0 0) 0 (sv []) := ⟨rfl, Or.inl ⟨rfl, rfl⟩⟩
theorem size_alloc (w : World) (o : Obj) : (w.alloc o).heap.size = w.heap.size + 1 := by
  show (w.heap.push _).size = _
  simp
theorem lit_rd (w : World) (v : ByteArray) : Rd (w.alloc (.cells #[.string v] 9)) (w.heap.size + 1) (some ⟨w.heap.size, 0, none⟩) 1 1 (sv [v]) := by
  refine ⟨rfl, Nat.le_refl _, by omega, by omega, (fun hn => by cases hn), ?_⟩
  intro i hi
  obtain rfl : i = 0 := by omega
  exact ⟨w.heap.size, 0, .string v, rfl, by omega, rfl, cell_of_one (heap_alloc_new w _)⟩
end Go.Proofs.Ytlaneilmffdahaa.Ln
