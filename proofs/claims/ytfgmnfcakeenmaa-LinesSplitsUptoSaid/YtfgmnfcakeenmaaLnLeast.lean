/- Lines that were changed at some places: what a script can tell of them at most. -/
import Derived.Test.YtfgmnfcakeenmaaLnAdded
namespace Go.Proofs.Ytfgmnfcakeenmaa.Ln
open Go.RowKit
set_option linter.unusedVariables false

theorem lcs_put {α : Type} [DecidableEq α] (y : α) (q : List α) : ∀ (p a : List α), lcs a (p ++ q) ≤ lcs a (p ++ y :: q) ∧ lcs a (p ++ y :: q) ≤ lcs a (p ++ q) + 1
  | [], a => ⟨lcs_right_le y a q, lcs_right_succ y a q⟩
  | z :: p, [] => by simp [lcs_nil_left]
  | z :: p, x :: a => by
      have h1 := lcs_put y q p a
      have h2 := lcs_put y q (z :: p) a
      have h3 := lcs_put y q p (x :: a)
      simp only [List.cons_append] at h2 ⊢
      rw [lcs_cons, lcs_cons]
      split <;> omega
termination_by p a => p.length + a.length

theorem steps_length {α : Type} [DecidableEq α] : ∀ a b : List α, (steps a b).length + lcs a b = a.length + b.length
  | [], b => by rw [steps_nil_left, lcs_nil_left]; simp
  | x :: a, [] => by rw [steps_nil_right, lcs_nil_right]; simp
  | x :: a, y :: b => by
      have h1 := steps_length a b
      have h2 := steps_length a (y :: b)
      have h3 := steps_length (x :: a) b
      rw [steps_cons, lcs_cons]
      simp only [List.length_cons] at *
      split
      · simp only [List.length_cons]; omega
      · split <;> simp only [List.length_cons] <;> omega
termination_by a b => a.length + b.length

theorem tot_lcs {α : Type} [DecidableEq α] (a b : List α) : tot (scr a b) + lcs a b = a.length + b.length := by
  unfold scr
  rw [scr_tot]
  simp only [tot, List.map_nil, List.sum_nil, Nat.zero_add]
  exact steps_length a b

theorem steps_self {α : Type} [DecidableEq α] : ∀ a : List α, steps a a = List.replicate a.length 0
  | [] => by rw [steps_nil_left]; rfl
  | x :: a => by rw [steps_cons, if_pos rfl, steps_self a]; rfl
theorem scr_self {α : Type} [DecidableEq α] (a : List α) : scr a a = if a.length = 0 then [] else [(0, a.length)] := by
  unfold scr
  rw [steps_self, pack_replicate]
  split
  · rw [‹a.length = 0›, add_zero]
  · rw [add_nil _ _ (by omega)]

theorem own_nil (w : World) (B : Nat) : w.ownsRow B 9 1 (.slice none 0 0) 0 (sv []) := ⟨rfl, Or.inl ⟨rfl, rfl⟩⟩

theorem size_alloc (w : World) (o : Obj) : (w.alloc o).heap.size = w.heap.size + 1 := by
  show (w.heap.push _).size = _
  simp
theorem lit_rd (w : World) (v : ByteArray) : Rd (w.alloc (.cells #[.string v] 9)) (w.heap.size + 1) (some ⟨w.heap.size, 0, none⟩) 1 1 (sv [v]) := by
  refine ⟨rfl, Nat.le_refl _, by omega, by omega, (fun hn => by cases hn), ?_⟩
  intro i hi
  obtain rfl : i = 0 := by omega
  exact ⟨w.heap.size, 0, .string v, rfl, by omega, rfl, cell_of_one (heap_alloc_new w _)⟩

/-- the rest of a script that is not kept -/
def nk (l : List (Nat × Nat)) : Nat := tot l - kc l
theorem nk_take (l : List (Nat × Nat)) (k : Nat) (h : k < l.length) : nk (l.take (k + 1)) = nk (l.take k) + if l[k].1 = 0 then 0 else l[k].2 := by
  unfold nk
  have h1 := kc_le (l.take k)
  rw [List.take_succ_eq_append_getElem h, kc_append, tot_append]
  have e1 : tot [l[k]] = l[k].2 := by simp [tot]
  have e2 : kc [l[k]] = if l[k].1 = 0 then l[k].2 else 0 := by simp [kc]
  rw [e1, e2]
  split <;> omega
theorem nk_take_le (l : List (Nat × Nat)) (k : Nat) : nk (l.take k) ≤ nk l := by
  have h1 := kc_le (l.take k)
  have h2 := kc_le (l.drop k)
  have h3 : tot l = tot (l.take k) + tot (l.drop k) := by conv => lhs; rw [← List.take_append_drop k l, tot_append]
  have h4 : kc l = kc (l.take k) + kc (l.drop k) := by conv => lhs; rw [← List.take_append_drop k l, kc_append]
  unfold nk
  omega
theorem nk_scr {α : Type} [DecidableEq α] (a b : List α) : nk (scr a b) + 2 * lcs a b = a.length + b.length := by
  have h1 := tot_lcs a b
  have h2 := kc_scr a b
  have h3 := lcs_le_left a b
  have h4 := lcs_le_right a b
  unfold nk
  omega
end Go.Proofs.Ytfgmnfcakeenmaa.Ln
