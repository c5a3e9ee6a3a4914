/- strings.HasPrefix and the document's 'below', walked. -/
import Derived.Test.YtnognfhcddmikaaNmCheck
import Derived.Deep.Light
import Derived.Lib.Strings
namespace Go.Proofs.Ytnognfhcddmikaa.Nm
open Go.RowKit
set_option linter.unusedVariables false

theorem pre_eq (s p : ByteArray) : ((s.extract 0 p.size).toList == p.toList) = decide (p.data.toList <+: s.data.toList) := by
  rw [Bool.eq_iff_iff]
  rw [beq_iff_eq, Lib.toList_data, Lib.toList_data, Lib.extract_data, decide_eq_true_eq, List.prefix_iff_eq_take]
  simp
  exact eq_comm

theorem snoc_pre (l m : List UInt8) (c : UInt8) (h : m.length < l.length) : m ++ [c] <+: l ↔ l.take m.length = m ∧ l[m.length]? = some c := by
  constructor
  · rintro ⟨t, rfl⟩
    simp
  · rintro ⟨h1, h2⟩
    refine ⟨l.drop (m.length + 1), ?_⟩
    have h3 : l[m.length] = c := by rw [List.getElem?_eq_getElem h] at h2; exact Option.some.inj h2
    conv => rhs; rw [← List.take_append_drop m.length l, h1, List.drop_eq_getElem_cons h, h3]
    simp

theorem below_eq (s p : ByteArray) (h : p.size < s.size) :
    decide (p.data.toList ++ [47] <+: s.data.toList) = ((s.extract 0 p.size).toList == p.toList && decide ((s[p.size].toNat : Int) = 47)) := by
  rw [Bool.eq_iff_iff, pre_eq]
  simp only [decide_eq_true_eq, Bool.and_eq_true]
  rw [snoc_pre _ _ _ (by simpa using h), List.prefix_iff_eq_take]
  have e : s.data.toList[p.data.toList.length]? = some s[p.size] := by
    rw [List.getElem?_eq_getElem (by simpa using h)]; simp; rfl
  rw [e]
  constructor
  · rintro ⟨h1, h2⟩
    refine ⟨h1.symm, ?_⟩
    have := Option.some.inj h2
    rw [this]; rfl
  · rintro ⟨h1, h2⟩
    refine ⟨h1.symm, ?_⟩
    congr 1
    apply UInt8.toNat_inj.1
    show s[p.size].toNat = 47
    omega

set_option maxHeartbeats 1000000 in
theorem pre1_any (s p : ByteArray) (w : World) (hs : s.size ≤ maxLen) (hp : p.size ≤ maxLen) :
    Calls Try.prog 19 #[.string s, .string p] w fun e w' => e = .returned (.bool (decide (p.data.toList <+: s.data.toList))) ∧ w = w' := by
  unfold maxLen at hs hp
  by_cases h : p.size ≤ s.size
  · go_enter Try.func19, Try.ntmps19
    go_wp2
    go_ret
    exact ⟨ret_bool (pre_eq s p), rfl⟩
  · go_enter Try.func19, Try.ntmps19
    go_wp2
    go_ret
    exact ⟨ret_bool (by simp; intro hh; have := hh.length_le; simp at this; omega), rfl⟩

set_option maxHeartbeats 1000000 in
theorem pre_any (s p : ByteArray) (w : World) (hs : s.size ≤ maxLen) (hp : p.size ≤ maxLen) :
    Calls Try.prog 16 #[.string s, .string p] w fun e w' => e = .returned (.bool (decide (p.data.toList <+: s.data.toList))) ∧ w = w' := by
  go_enter Try.func16, Try.ntmps16
  go_wp2_with (go_at_call 19; refine (pre1_any _ _ _ hs hp).mono ?_; rintro e w' ⟨rfl, rfl⟩)
  go_ret
  exact ⟨rfl, rfl⟩

set_option maxHeartbeats 1000000 in
theorem below_any (s p : ByteArray) (w : World) (hs : s.size ≤ maxLen) (hp : p.size ≤ maxLen) :
    Calls Try.prog 17 #[.string s, .string p] w fun e w' => e = .returned (.bool (decide (p.data.toList ++ [47] <+: s.data.toList))) ∧ w = w' := by
  unfold maxLen at hs hp
  by_cases h : p.size < s.size
  · have HB := Lib.hid (below_eq s p h)
    cases hq : (s.extract 0 p.size).toList == p.toList
    · go_enter Try.func17, Try.ntmps17
      go_wp2
      go_ret
      exact ⟨ret_bool (by rw [HB.out, hq]; rfl), rfl⟩
    · go_enter Try.func17, Try.ntmps17
      go_wp2
      go_ret
      exact ⟨ret_bool (by rw [HB.out, hq]; rfl), rfl⟩
  · go_enter Try.func17, Try.ntmps17
    go_wp2
    go_ret
    exact ⟨ret_bool (by simp; intro hh; have := hh.length_le; simp at this; omega), rfl⟩
end Go.Proofs.Ytnognfhcddmikaa.Nm
