/- Ids are compared. -/
import Derived.Test.YtmcmapgllaopmaaCdKit
import Derived.ChangeKeysEq
import Derived.Laws.StructEq
namespace Go.Proofs.Ytmcmapgllaopmaa.Cd
open Go.RowKit
set_option linter.unusedVariables false

theorem items_eq (d : Nat) (xs ys : List Int) (w : World) : ∀ is : List Nat, (∀ i ∈ is, i < xs.length ∧ i < ys.length) →
    (Op.eqItems (d + 1) 5 1 (bv xs).toArray (bv ys).toArray is).run Try.prog w = .ok (is.all fun i => xs.getD i 0 == ys.getD i 0) w
  | [], _ => rfl
  | i :: is, h => by
    obtain ⟨h1, h2⟩ := h i (List.mem_cons_self ..)
    have ih := items_eq d xs ys w is (fun j hj => h j (List.mem_cons_of_mem _ hj))
    have p1 := run_part_plain (P := Try.prog) w (e := 5) (by kernel_rfl) (xs := (bv xs).toArray) (off := i * 1) (v := .int .u8 (xs.getD i 0)) (by simp [bv, h1])
    have p2 := run_part_plain (P := Try.prog) w (e := 5) (by kernel_rfl) (xs := (bv ys).toArray) (off := i * 1) (v := .int .u8 (ys.getD i 0)) (by simp [bv, h2])
    simp only [Op.eqItems, Sem.run_bind, p1, p2, Result.andThen_ok, run_equalIn_int w d 5 .u8 .u8 _ _ Try.underlying5, List.all_cons]
    cases hb : xs.getD i 0 == ys.getD i 0
    · simp
    · simpa [hb] using ih

theorem all_range (xs ys : List Int) (n : Nat) (hx : xs.length = n) (hy : ys.length = n) : ((List.range n).all fun i => xs.getD i 0 == ys.getD i 0) = decide (xs = ys) := by
  rw [Bool.eq_iff_iff, List.all_eq_true, decide_eq_true_eq]
  constructor
  · intro h
    refine List.ext_getElem (by omega) fun i h1 h2 => ?_
    have := h i (List.mem_range.2 (by omega))
    simpa [h1, h2] using this
  · rintro rfl i _
    simp

/-- two Ids are compared -/
theorem ids_eq (a b : List Int) (ha : a.length = 32) (hb : b.length = 32) (w : World) :
    (Op.equalIn 10000 37 (.agg (bv a).toArray) (.agg (bv b).toArray)).run Try.prog w = .ok (decide (a = b)) w := by
  obtain ⟨i, hi⟩ := info_of_underlying (P := Try.prog) Try.underlying5
  rw [run_equalIn_array w 9999 (n := 32) (e := 5) (bv a).toArray (bv b).toArray Try.underlying37 hi, show Try.prog.cellsOf 5 = 1 from by kernel_rfl]
  rw [items_eq 9998 a b w _ (fun i hi => by have := List.mem_range.1 hi; omega), all_range a b 32 ha hb]

/-- is an Id none? -/
theorem ids_none (a : List Int) (ha : a.length = 32) (w : World) :
    (Op.equalIn 10000 37 (.agg (bv a).toArray) (.agg (bv (List.replicate 32 0)).toArray)).run Try.prog w = .ok (decide (a = List.replicate 32 0)) w := ids_eq a _ ha (by simp) w
end Go.Proofs.Ytmcmapgllaopmaa.Cd
