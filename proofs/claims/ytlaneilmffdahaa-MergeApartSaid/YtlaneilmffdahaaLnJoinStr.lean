/-
What Join hands back is the lines' bytes, as text too. By an AI agent; no person has read it.
-/
import Derived.Test.YtlaneilmffdahaaLnSplit
import Derived.Test.YtlaneilmffdahaaLnJoin
namespace Go.Proofs.Ytlaneilmffdahaa.Ln
open Go.RowKit
set_option linter.unusedVariables false
/-- the bytes of lines, as numbers -/
def ints (ss : List ByteArray) : List Int := ss.flatMap fun s => s.data.toList.map fun b => (b.toNat : Int)
theorem cells_ints (ss : List ByteArray) : cells ss = bv (ints ss) := by
  induction ss with
  | nil => rfl
  | cons s ss ih =>
    simp only [cells, ints, bv, List.flatMap_cons, List.map_append] at ih ⊢
    rw [ih]
    congr 1
    simp [Lib.strCells]
theorem sz_ints (ss : List ByteArray) : sz ss = (ints ss).length := by
  induction ss with
  | nil => rfl
  | cons s ss ih =>
    simp only [sz, ints, List.flatMap_cons, List.map_cons, List.sum_cons, List.length_append, List.length_map, Array.length_toList] at ih ⊢
    rw [ih]
    rfl
theorem sb_data (l : List Int) : (sb l).data.toList = l.map fun n => UInt8.ofNat n.toNat := by
  have h : ∀ (l : List Int) (r : ByteArray), (l.foldl (fun r n => r.push (UInt8.ofNat n.toNat)) r).data.toList = r.data.toList ++ l.map fun n => UInt8.ofNat n.toNat := by
    intro l
    induction l with
    | nil => intro r; simp
    | cons n l ih =>
      intro r
      rw [List.foldl_cons, ih]
      simp [ByteArray.push]
  rw [sb, h]
  rfl
theorem ints_sb (L : List (List Int)) (h : ∀ l ∈ L, ∀ x ∈ l, 0 ≤ x ∧ x ≤ 255) : ints (L.map sb) = L.flatten := by
  induction L with
  | nil => rfl
  | cons l L ih =>
    have hl := h l (List.mem_cons_self ..)
    have hL := ih (fun l hl => h l (List.mem_cons_of_mem _ hl))
    simp only [ints, List.map_cons, List.flatMap_cons, List.flatten_cons] at hL ⊢
    rw [hL]
    congr 1
    rw [sb_data, List.map_map]
    conv => rhs; rw [← List.map_id l]
    refine List.map_congr_left fun x hx => ?_
    obtain ⟨h0, h1⟩ := hl x hx
    have e : ((UInt8.ofNat x.toNat).toNat : Int) = ((x.toNat % 256 : Nat) : Int) := by simp
    simp only [Function.comp, id]
    rw [e, Nat.mod_eq_of_lt (by omega)]
    omega
/-- the lines' texts of bytes are the bytes -/
theorem ints_spl (z : List Int) (h : ∀ x ∈ z, 0 ≤ x ∧ x ≤ 255) : ints ((splA [] z).map sb) = z := by
  have e := splA_flat z []
  rw [List.nil_append] at e
  rw [ints_sb, e]
  intro l hl x hx
  refine h x ?_
  rw [← e]
  exact List.mem_flatten.2 ⟨l, hl, hx⟩
theorem splA_len : ∀ (l cur : List Int), (splA cur l).length ≤ l.length + (if cur = [] then 0 else 1)
  | [], cur => by unfold splA; split <;> simp_all
  | x :: l, cur => by
      unfold splA
      split
      · have := splA_len l []
        simp at this ⊢
        omega
      · have := splA_len l (cur ++ [x])
        simp at this ⊢
        omega
theorem JoinRet.outOf {ss : List ByteArray} {w w' : World} {e : Ending} (h : JoinRet ss w e w') :
    ∃ A C, e = .returned (.slice A (sz ss) C) ∧ w'.ownsRow w.heap.size 5 1 (.slice A (sz ss) C) (sz ss) (bv (ints ss)) ∧ Below w.heap.size w w' := by
  obtain ⟨v, he, ho, hb⟩ := h
  rw [cells_ints] at ho
  rcases ho.2 with ⟨hv, h0⟩ | ⟨g, cap, cur, hv, _⟩
  · subst hv
    rw [h0] at ho ⊢
    exact ⟨none, 0, he, ho, hb⟩
  · subst hv
    exact ⟨_, _, he, ho, hb⟩
theorem conv_row {w : World} {B n : Nat} {A : Option Addr} {C : Nat} {l : List Int} (h : w.ownsRow B 5 1 (.slice A n C) n (bv l)) (hn : n ≤ 140737488355328) : (convert 32 9 (.slice A n C)).run Try.prog w = .ok (.string (sb l)) w :=
  conv_rd (Rd.of_own h hn).1
end Go.Proofs.Ytlaneilmffdahaa.Ln
