/- The lines of bytes. -/
import Derived.Test.YtlaneilmffdahaaLnBytes
namespace Go.Proofs.Ytlaneilmffdahaa.Ln
open Go.RowKit
set_option linter.unusedVariables false
/-- lines, with cur begun -/
def splA (cur : List Int) : List Int → List (List Int)
  | [] => if cur = [] then [] else [cur]
  | x :: l => if x = 10 then (cur ++ [x]) :: splA [] l else splA (cur ++ [x]) l
theorem splA_line : ∀ (p cur q : List Int), (∀ x ∈ p, x ≠ 10) → splA cur (p ++ 10 :: q) = (cur ++ p ++ [10]) :: splA [] q
  | [], cur, q, _ => by simp [splA]
  | x :: p, cur, q, h => by
      have hx : x ≠ 10 := h x (List.mem_cons_self ..)
      rw [List.cons_append, splA, if_neg hx, splA_line p _ q (fun y hy => h y (List.mem_cons_of_mem _ hy))]
      simp
theorem splA_last : ∀ (p cur : List Int), (∀ x ∈ p, x ≠ 10) → splA cur p = if cur ++ p = [] then [] else [cur ++ p]
  | [], cur, _ => by simp [splA]
  | x :: p, cur, h => by
      have hx : x ≠ 10 := h x (List.mem_cons_self ..)
      rw [splA, if_neg hx, splA_last p _ (fun y hy => h y (List.mem_cons_of_mem _ hy))]
      simp
theorem byte_ten {x : Int} (h0 : 0 ≤ x) (h1 : x ≤ 255) : (x.toNat.toUInt8 == (10 : Int).toNat.toUInt8) = (x == 10) := by
  obtain ⟨n, rfl⟩ : ∃ n : Nat, x = (n : Int) := ⟨x.toNat, by omega⟩
  rw [Int.toNat_natCast, Bool.eq_iff_iff, beq_iff_eq, beq_iff_eq]
  constructor
  · intro h
    have := congrArg UInt8.toNat h
    simp at this
    omega
  · intro h
    have : n = 10 := by omega
    subst this
    rfl
/-- what IndexByte tells of a line feed -/
theorem index_ten : ∀ l : List Int, (∀ x ∈ l, 0 ≤ x ∧ x ≤ 255) →
    (Lib.indexByte (Lib.bytesOf l) (10 : Int).toNat.toUInt8 = -1 ∧ ∀ x ∈ l, x ≠ 10) ∨
    ∃ p q, l = p ++ 10 :: q ∧ (∀ x ∈ p, x ≠ 10) ∧ Lib.indexByte (Lib.bytesOf l) (10 : Int).toNat.toUInt8 = (p.length : Int)
  | [], _ => .inl ⟨rfl, fun x hx => by simp at hx⟩
  | x :: l, h => by
      obtain ⟨h0, h1⟩ := h x (List.mem_cons_self ..)
      have e : Lib.bytesOf (x :: l) = x.toNat.toUInt8 :: Lib.bytesOf l := rfl
      rw [e, Lib.indexByte, byte_ten h0 h1]
      by_cases hx : x = 10
      · subst hx
        exact .inr ⟨[], l, rfl, fun y hy => by simp at hy, by simp⟩
      · have hx' : (x == 10) = false := by simp [hx]
        rw [hx']
        rcases index_ten l (fun y hy => h y (List.mem_cons_of_mem _ hy)) with ⟨i1, i2⟩ | ⟨p, q, rfl, i2, i3⟩
        · refine .inl ⟨by rw [i1]; simp, fun y hy => ?_⟩
          rcases List.mem_cons.1 hy with rfl | hy
          · exact hx
          · exact i2 y hy
        · refine .inr ⟨x :: p, q, rfl, fun y hy => ?_, ?_⟩
          · rcases List.mem_cons.1 hy with rfl | hy
            · exact hx
            · exact i2 y hy
          · rw [i3, if_neg (by simp), if_neg (by simp)]
            simp
/-- the lines are the bytes again -/
theorem splA_flat : ∀ (l cur : List Int), (splA cur l).flatten = cur ++ l
  | [], cur => by unfold splA; split <;> simp_all
  | x :: l, cur => by
      unfold splA
      split
      · rw [List.flatten_cons, splA_flat l []]; simp
      · rw [splA_flat l]; simp
end Go.Proofs.Ytlaneilmffdahaa.Ln
