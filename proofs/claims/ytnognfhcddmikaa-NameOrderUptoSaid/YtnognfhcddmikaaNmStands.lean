/- name.stands and the document's good, walked: what they answer, at any bytes. -/
import Derived.Test.YtnognfhcddmikaaChecked
import Derived.Test.YtnognfhcddmikaaNmMath
import Derived.WalkKit
import Derived.WalkSpells
import Derived.WalkLawsBesides
import Derived.Outline
namespace Go.Proofs.Ytnognfhcddmikaa.Nm
open Go.RowKit

theorem ret_bool {a b : Bool} (h : a = b) : Ending.returned (.bool a) = .returned (.bool b) := by rw [h]

set_option maxHeartbeats 1000000 in
theorem stands_any (a c : Int) (w : World) :
    Calls Try.prog 13 #[.int .u8 a, .int .u8 c] w fun e w' => e = .returned (.bool (st a c)) ∧ w = w' := by
  have hn : (a != 47) = decide (a ≠ 47) := by by_cases h : a = 47 <;> simp [h]
  by_cases h1 : c = 47
  · subst h1
    by_cases g1 : a = 46
    · subst g1
      go_enter Try.func13, Try.ntmps13
      go_wp2
      go_ret
      exact ⟨ret_bool (by simp [st]), rfl⟩
    · have g1' : (a == 46) = false := by simp [g1]
      clear hn
      go_enter Try.func13, Try.ntmps13
      go_wp2
      go_ret
      exact ⟨ret_bool (by rw [Bool.eq_iff_iff]; simp [st, g1]), rfl⟩
  by_cases h2 : c = 46
  · subst h2
    by_cases g1 : a = 46
    · subst g1
      go_enter Try.func13, Try.ntmps13
      go_wp2
      go_ret
      exact ⟨ret_bool (by simp [st]), rfl⟩
    · have g1' : (a == 46) = false := by simp [g1]
      clear hn
      go_enter Try.func13, Try.ntmps13
      go_wp2
      go_ret
      exact ⟨ret_bool (by rw [Bool.eq_iff_iff]; simp [st, g1]), rfl⟩
  by_cases h3 : c = 45
  · subst h3
    clear hn
    go_enter Try.func13, Try.ntmps13
    go_wp2
    go_ret
    exact ⟨ret_bool (by rw [Bool.eq_iff_iff]; simp [st]), rfl⟩
  by_cases h4 : c = 95
  · subst h4
    clear hn
    go_enter Try.func13, Try.ntmps13
    go_wp2
    go_ret
    exact ⟨ret_bool (by simp [st]), rfl⟩
  have e1 : (c == 47) = false := by simp [h1]
  have e2 : (c == 46) = false := by simp [h2]
  have e3 : (c == 45) = false := by simp [h3]
  have e4 : (c == 95) = false := by simp [h4]
  have es : st a c = al c := by simp [st, h1, h2, h3, h4]
  rw [es]
  clear hn es h1 h2 h3 h4
  by_cases k0 : c < 48
  · go_enter Try.func13, Try.ntmps13
    go_wp2
    go_ret
    exact ⟨ret_bool (by unfold al; simp; omega), rfl⟩
  by_cases k1 : c ≤ 57
  · go_enter Try.func13, Try.ntmps13
    go_wp2
    go_ret
    exact ⟨ret_bool (by unfold al; simp; omega), rfl⟩
  by_cases k2 : c < 65
  · go_enter Try.func13, Try.ntmps13
    go_wp2
    go_ret
    exact ⟨ret_bool (by unfold al; simp; omega), rfl⟩
  by_cases k3 : c ≤ 90
  · go_enter Try.func13, Try.ntmps13
    go_wp2
    go_ret
    exact ⟨ret_bool (by unfold al; simp; omega), rfl⟩
  by_cases k4 : c < 97
  · go_enter Try.func13, Try.ntmps13
    go_wp2
    go_ret
    exact ⟨ret_bool (by unfold al; simp; omega), rfl⟩
  by_cases k5 : c ≤ 122
  · go_enter Try.func13, Try.ntmps13
    go_wp2
    go_ret
    exact ⟨ret_bool (by unfold al; simp; omega), rfl⟩
  go_enter Try.func13, Try.ntmps13
  go_wp2
  go_ret
  exact ⟨ret_bool (by unfold al; simp; omega), rfl⟩

set_option maxHeartbeats 1000000 in
theorem good_any (c : Int) (w : World) :
    Calls Try.prog 14 #[.int .u8 c] w fun e w' => e = .returned (.bool (gd c)) ∧ w = w' := by
  by_cases h46 : c = 46
  · subst h46
    go_enter Try.func14, Try.ntmps14
    go_wp2
    go_ret
    exact ⟨ret_bool (by simp [gd]), rfl⟩
  by_cases h95 : c = 95
  · subst h95
    go_enter Try.func14, Try.ntmps14
    go_wp2
    go_ret
    exact ⟨ret_bool (by simp [gd]), rfl⟩
  by_cases h45 : c = 45
  · subst h45
    go_enter Try.func14, Try.ntmps14
    go_wp2
    go_ret
    exact ⟨ret_bool (by simp [gd]), rfl⟩
  by_cases h47 : c = 47
  · subst h47
    go_enter Try.func14, Try.ntmps14
    go_wp2
    go_ret
    exact ⟨ret_bool (by simp [gd]), rfl⟩
  have e1 : (c == 47) = false := by simp [h47]
  have e2 : (c == 46) = false := by simp [h46]
  have e3 : (c == 45) = false := by simp [h45]
  have e4 : (c == 95) = false := by simp [h95]
  have es : gd c = al c := by simp [gd, al, h45, h46, h47, h95]
  rw [es]
  clear es h45 h46 h47 h95
  by_cases k0 : c < 48
  · go_enter Try.func14, Try.ntmps14
    go_wp2
    go_ret
    exact ⟨ret_bool (by unfold al; simp; omega), rfl⟩
  by_cases k1 : c ≤ 57
  · go_enter Try.func14, Try.ntmps14
    go_wp2
    go_ret
    exact ⟨ret_bool (by unfold al; simp; omega), rfl⟩
  by_cases k2 : c < 65
  · go_enter Try.func14, Try.ntmps14
    go_wp2
    go_ret
    exact ⟨ret_bool (by unfold al; simp; omega), rfl⟩
  by_cases k3 : c ≤ 90
  · go_enter Try.func14, Try.ntmps14
    go_wp2
    go_ret
    exact ⟨ret_bool (by unfold al; simp; omega), rfl⟩
  by_cases k4 : c < 97
  · go_enter Try.func14, Try.ntmps14
    go_wp2
    go_ret
    exact ⟨ret_bool (by unfold al; simp; omega), rfl⟩
  by_cases k5 : c ≤ 122
  · go_enter Try.func14, Try.ntmps14
    go_wp2
    go_ret
    exact ⟨ret_bool (by unfold al; simp; omega), rfl⟩
  go_enter Try.func14, Try.ntmps14
  go_wp2
  go_ret
  exact ⟨ret_bool (by unfold al; simp; omega), rfl⟩
end Go.Proofs.Ytnognfhcddmikaa.Nm
