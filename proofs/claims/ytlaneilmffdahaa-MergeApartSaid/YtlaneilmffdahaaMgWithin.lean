/- within: a number from 0 to n - 1. -/
import Derived.Test.YtlaneilmffdahaaChecked
import Derived.WalkKit
import Derived.WalkSpells
import Derived.WalkLawsBesides
import Derived.OpenShut
import Derived.Lib.Hide
namespace Go.Proofs.Ytlaneilmffdahaa.Wi
open Go.RowKit
set_option linter.unusedVariables false

theorem ret_int {k : IntKind} {a b : Int} (h : a = b) : Ending.returned (.int k a) = .returned (.int k b) := by rw [h]

theorem mod_pos (a n : Int) (hn : 0 < n) (h : 0 ≤ a.tmod n) : a.tmod n = a % n := by
  have h1 := Int.tmod_add_mul_tdiv a n
  have h2 := Int.tmod_lt_of_pos a hn
  have : a % n = (a.tmod n + n * a.tdiv n) % n := by rw [h1]
  rw [this, Int.add_mul_emod_self_left, Int.emod_eq_of_lt h h2]

theorem mod_neg (a n : Int) (hn : 0 < n) (h : a.tmod n < 0) : a.tmod n + n = a % n := by
  have h1 := Int.tmod_add_mul_tdiv a n
  have h2 := Int.lt_tmod_of_pos a hn
  have : a % n = (a.tmod n + n + n * (a.tdiv n - 1)) % n := by
    congr 1
    rw [Int.mul_sub]
    omega
  rw [this, Int.add_mul_emod_self_left, Int.emod_eq_of_lt (by omega) (by omega)]

theorem wf_bounds {a : Int} (h : (Lit.int .i64 a).wf = true) : -9223372036854775808 ≤ a ∧ a ≤ 9223372036854775807 := by
  have h1 : IntKind.i64.min = -9223372036854775808 := rfl
  have h2 : IntKind.i64.max = 9223372036854775807 := rfl
  simp only [Lit.wf, Bool.and_eq_true, decide_eq_true_eq] at h
  omega

set_option maxHeartbeats 1000000 in
theorem within_any (a n : Int) (w : World) (h0 : 0 < n) (hn : n ≤ 1000000000) (ha : -9223372036854775808 ≤ a) (hb : a ≤ 9223372036854775807) :
    Calls Try.prog 27 #[.int .i64 a, .int .i64 n] w fun e w' => e = .returned (.int .i64 (a % n)) ∧ w = w' := by
  have g1 := Int.tmod_lt_of_pos a h0
  have g2 := Int.lt_tmod_of_pos a h0
  have hz : (n == 0) = false := by simp; omega
  by_cases h : a.tmod n < 0
  · have HM := Lib.hid (mod_neg a n h0 h)
    go_enter Try.func27, Try.ntmps27
    go_wp2
    go_ret
    exact ⟨ret_int HM.out, rfl⟩
  · have HM := Lib.hid (mod_pos a n h0 (by omega))
    go_enter Try.func27, Try.ntmps27
    go_wp2
    go_ret
    exact ⟨ret_int HM.out, rfl⟩

theorem within_nat (a n : Int) (N : Nat) (w : World) (hn : n = (N : Int)) (h0 : 0 < N) (h1 : N ≤ 1000000000) (ha : -9223372036854775808 ≤ a) (hb : a ≤ 9223372036854775807) :
    Calls Try.prog 27 #[.int .i64 a, .int .i64 n] w fun e w' => ∃ k : Nat, k < N ∧ e = .returned (.int .i64 (k : Int)) ∧ w = w' := by
  subst hn
  refine (within_any a N w (by omega) (by omega) ha hb).mono ?_
  rintro e w' ⟨rfl, h⟩
  have h2 := Int.emod_lt_of_pos a (show (0 : Int) < (N : Int) by omega)
  have h3 := Int.emod_nonneg a (show (N : Int) ≠ 0 by omega)
  exact ⟨(a % (N : Int)).toNat, by omega, by rw [Int.toNat_of_nonneg h3], h⟩
end Go.Proofs.Ytlaneilmffdahaa.Wi
