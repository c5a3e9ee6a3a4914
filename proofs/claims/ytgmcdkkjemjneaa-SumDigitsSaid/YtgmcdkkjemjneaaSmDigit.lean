/- digit, Parse. -/
import Derived.Test.YtgmcdkkjemjneaaSmHex
import Derived.Test.YtgmcdkkjemjneaaSmIds
namespace Go.Proofs.Ytgmcdkkjemjneaa.Sm
open Go.RowKit
set_option linter.unusedVariables false

/-- is a letter a digit, and which? -/
def dgB (c : Int) : Bool := decide ((48 ≤ c ∧ c ≤ 57) ∨ (97 ≤ c ∧ c ≤ 102))
def dgV (c : Int) : Int := if 48 ≤ c ∧ c ≤ 57 then c - 48 else if 97 ≤ c ∧ c ≤ 102 then c - 87 else 0
theorem dgV_range (c : Int) : 0 ≤ dgV c ∧ dgV c ≤ 15 := by unfold dgV; split <;> (try split) <;> omega

theorem digit_any (c : Int) (w : World) (h0 : 0 ≤ c) (h1 : c ≤ 255) :
    Calls Try.prog 26 #[.int .u8 c] w fun e w' => e = .returned (.tuple #[.int .u8 (dgV c), .bool (dgB c)]) ∧ w = w' := by
  rcases (show c < 48 ∨ (48 ≤ c ∧ c ≤ 57) ∨ (57 < c ∧ c < 97) ∨ (97 ≤ c ∧ c ≤ 102) ∨ 102 < c by omega) with h | h | h | h | h
  · have e1 : dgV c = 0 := by unfold dgV; rw [if_neg (by omega), if_neg (by omega)]
    have e2 : dgB c = false := by unfold dgB; exact decide_eq_false (by omega)
    rw [e1, e2]
    clear e1 e2
    go_enter Try.func26, Try.ntmps26
    go_wp2
    go_ret2
    exact ⟨rfl, rfl⟩
  · have e1 : dgV c = c - 48 := by unfold dgV; rw [if_pos h]
    have e2 : dgB c = true := by unfold dgB; exact decide_eq_true (by omega)
    rw [e1, e2]
    clear e1 e2
    obtain ⟨h2, h3⟩ := h
    go_enter Try.func26, Try.ntmps26
    go_wp2
    go_ret2
    exact ⟨rfl, rfl⟩
  · have e1 : dgV c = 0 := by unfold dgV; rw [if_neg (by omega), if_neg (by omega)]
    have e2 : dgB c = false := by unfold dgB; exact decide_eq_false (by omega)
    rw [e1, e2]
    clear e1 e2
    obtain ⟨h2, h3⟩ := h
    go_enter Try.func26, Try.ntmps26
    go_wp2
    go_ret2
    exact ⟨rfl, rfl⟩
  · have e1 : dgV c = c - 87 := by unfold dgV; rw [if_neg (by omega), if_pos h]
    have e2 : dgB c = true := by unfold dgB; exact decide_eq_true (by omega)
    have e3 : c - 87 = c - 97 + 10 := by omega
    rw [e1, e2, e3]
    clear e1 e2 e3
    obtain ⟨h2, h3⟩ := h
    go_enter Try.func26, Try.ntmps26
    go_wp2
    go_ret2
    exact ⟨rfl, rfl⟩
  · have e1 : dgV c = 0 := by unfold dgV; rw [if_neg (by omega), if_neg (by omega)]
    have e2 : dgB c = false := by unfold dgB; exact decide_eq_false (by omega)
    rw [e1, e2]
    clear e1 e2
    go_enter Try.func26, Try.ntmps26
    go_wp2
    go_ret2
    exact ⟨rfl, rfl⟩

/-- the document's: -1 for what is none -/
def dgR (c : Int) : Int := if dgB c then dgV c else -1
theorem rdigit_any (c : Int) (w : World) (h0 : 0 ≤ c) (h1 : c ≤ 255) :
    Calls Try.prog 27 #[.int .u8 c] w fun e w' => e = .returned (.int .i64 (dgR c)) ∧ w = w' := by
  rcases (show c < 48 ∨ (48 ≤ c ∧ c ≤ 57) ∨ (57 < c ∧ c < 97) ∨ (97 ≤ c ∧ c ≤ 102) ∨ 102 < c by omega) with h | h | h | h | h
  · have e2 : dgB c = false := by unfold dgB; exact decide_eq_false (by omega)
    have e1 : dgR c = -1 := by unfold dgR; rw [e2]; rfl
    rw [e1]
    clear e1 e2
    go_enter Try.func27, Try.ntmps27
    go_wp2
    go_ret
    exact ⟨rfl, rfl⟩
  · have e2 : dgB c = true := by unfold dgB; exact decide_eq_true (by omega)
    have e1 : dgR c = c - 48 := by unfold dgR dgV; rw [e2, if_pos rfl, if_pos h]
    rw [e1]
    clear e1 e2
    obtain ⟨h2, h3⟩ := h
    go_enter Try.func27, Try.ntmps27
    go_wp2
    go_ret
    exact ⟨rfl, rfl⟩
  · have e2 : dgB c = false := by unfold dgB; exact decide_eq_false (by omega)
    have e1 : dgR c = -1 := by unfold dgR; rw [e2]; rfl
    rw [e1]
    clear e1 e2
    obtain ⟨h2, h3⟩ := h
    go_enter Try.func27, Try.ntmps27
    go_wp2
    go_ret
    exact ⟨rfl, rfl⟩
  · have e2 : dgB c = true := by unfold dgB; exact decide_eq_true (by omega)
    have e1 : dgR c = c - 87 := by unfold dgR dgV; rw [e2, if_pos rfl, if_neg (by omega), if_pos h]
    have e3 : c - 87 = c - 97 + 10 := by omega
    rw [e1, e3]
    clear e1 e2 e3
    obtain ⟨h2, h3⟩ := h
    go_enter Try.func27, Try.ntmps27
    go_wp2
    go_ret
    exact ⟨rfl, rfl⟩
  · have e2 : dgB c = false := by unfold dgB; exact decide_eq_false (by omega)
    have e1 : dgR c = -1 := by unfold dgR; rw [e2]; rfl
    rw [e1]
    clear e1 e2
    go_enter Try.func27, Try.ntmps27
    go_wp2
    go_ret
    exact ⟨rfl, rfl⟩
end Go.Proofs.Ytgmcdkkjemjneaa.Sm
