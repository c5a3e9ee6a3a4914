/- The chapter's examples, walked: they come out as told. -/
import Derived.Test.YtnognfhcddmikaaNmFits3
import Derived.Below
namespace Go.Proofs.Ytnognfhcddmikaa.Nm
open Go.RowKit
set_option linter.unusedVariables false

theorem ex1 (w : World) : Calls Try.prog 8 #[.string { data := #[116, 111, 112, 105, 99, 47, 97, 46, 98] }] w fun e w' => e = .returned (.int .i64 0) ∧ w = w' := by
  have h := check_any { data := #[116, 111, 112, 105, 99, 47, 97, 46, 98] } w (by decide)
  have e : eno (nm ({ data := #[116, 111, 112, 105, 99, 47, 97, 46, 98] } : ByteArray).data.toList) = 0 := by decide +kernel
  rw [e] at h
  exact h

theorem ex2 (w : World) : Calls Try.prog 8 #[.string { data := #[97, 47, 47, 98] }] w fun e w' => e = .returned (.int .i64 7) ∧ w = w' := by
  have h := check_any { data := #[97, 47, 47, 98] } w (by decide)
  have e : eno (nm ({ data := #[97, 47, 47, 98] } : ByteArray).data.toList) = 7 := by decide +kernel
  rw [e] at h
  exact h

theorem ex3 (b off : Nat) (w : World) (hc : w.cell? ⟨b, off, none⟩ = some (.string { data := #[97] })) :
    Calls Try.prog 10 #[.string { data := #[97, 47, 98] }, .slice (some ⟨b, off, none⟩) 1 1] w fun e w' => e = .returned (.int .i64 13) ∧ w = w' := by
  have h := fits_any { data := #[97, 47, 98] } b off 1 1 [{ data := #[97] }] w (by decide) (by decide)
    ⟨rfl, fun i hi => by obtain rfl : i = 0 := by omega
                         exact hc⟩ (by intro o ho; simp at ho; subst ho; decide)
  have e : fits ({ data := #[97, 47, 98] } : ByteArray).data.toList (dl [{ data := #[97] }]) = 13 := by decide +kernel
  rw [e] at h
  exact h

set_option maxHeartbeats 1000000 in
theorem known_any (w : World) : Calls Try.prog 7 #[] w fun e w' => e = .returned (.bool true) ∧ Below w.heap.size w w' := by
  go_enter Try.func7, Try.ntmps7
  go_wp2_with fail
  refine (ex1 _).mono ?_
  rintro e w' ⟨rfl, rfl⟩
  go_wp2_with fail
  refine (ex2 _).mono ?_
  rintro e w' ⟨rfl, rfl⟩
  go_wp2_with fail
  refine (ex3 _ _ _ (by simp)).mono ?_
  rintro e w' ⟨rfl, rfl⟩
  go_wp2
  go_ret
  exact ⟨rfl, (Below.refl _ _).alloc (Nat.le_refl _) _⟩
end Go.Proofs.Ytnognfhcddmikaa.Nm
