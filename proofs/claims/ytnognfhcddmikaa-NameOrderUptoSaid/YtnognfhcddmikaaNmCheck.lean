/- name.Check, walked: at any text it answers 0 where the text is a name, else 7. -/
import Derived.Test.YtnognfhcddmikaaNmStands
import Derived.LoopTactic
import Derived.Lib.Hide
namespace Go.Proofs.Ytnognfhcddmikaa.Nm
open Go.RowKit

theorem ret_int {k : IntKind} {a b : Int} (h : a = b) : Ending.returned (.int k a) = .returned (.int k b) := by rw [h]

theorem drop_cons (s : ByteArray) (k : Nat) (h : k < s.size) : s.data.toList.drop k = s[k] :: s.data.toList.drop (k + 1) := by
  rw [List.drop_eq_getElem_cons (by simpa using h)]; rfl

theorem ck_step (s : ByteArray) (k : Nat) (a : Int) (h : k < s.size) :
    ck a (s.data.toList.drop k) = (st a (s[k].toNat : Int) && ck (s[k].toNat : Int) (s.data.toList.drop (k + 1))) := by
  rw [drop_cons s k h]; rfl

set_option maxHeartbeats 1000000 in
theorem check_long (s : ByteArray) (w : World) (hs : s.size ≤ maxLen) (h : 60 < s.size) :
    Calls Try.prog 8 #[.string s] w fun e w' => e = .returned (.int .i64 (eno (nm s.data.toList))) ∧ w = w' := by
  unfold maxLen at hs
  go_enter Try.func8, Try.ntmps8
  go_wp2
  go_ret
  exact ⟨ret_int (by unfold eno nm; rw [decide_eq_false (by simpa using h)]; rfl), rfl⟩

set_option maxHeartbeats 1000000 in
theorem check_short (s : ByteArray) (w : World) (h : s.size ≤ 60) :
    Calls Try.prog 8 #[.string s] w fun e w' => e = .returned (.int .i64 (eno (nm s.data.toList))) ∧ w = w' := by
  have hnm : nm s.data.toList = ck 47 s.data.toList := by unfold nm; rw [decide_eq_true (by simpa using h)]; rfl
  rw [hnm]
  clear hnm
  go_enter Try.func8, Try.ntmps8
  go_wp2
  go_loop [3, 10] (fun a i => ∃ (k : Nat) (av : Int), k ≤ s.size ∧ i = .int .i64 k ∧ a = .int .u8 av ∧ Hid (ck 47 s.data.toList = ck av (s.data.toList.drop k))) (fun _ i => s.size - (intOf i).toNat)
  case atStart => exact ⟨0, 47, Nat.zero_le _, rfl, rfl, Lib.hid rfl⟩
  case round =>
    obtain ⟨k, av, hk, rfl, rfl, H⟩ := hrel
    by_cases hlt : k < s.size
    · have hs := ck_step s k av hlt
      cases hst : st av (s[k].toNat : Int)
      · have HF : Hid (ck 47 s.data.toList = false) := Lib.hid (by rw [H.out, hs, hst]; rfl)
        clear hs H
        go_wp2_with (go_at_call 13; refine (stands_any _ _ _).mono ?_; rintro e w' ⟨rfl, rfl⟩)
        go_ret
        exact ⟨ret_int (by rw [HF.out]; rfl), rfl⟩
      · have HF : Hid (ck 47 s.data.toList = ck (s[k].toNat : Int) (s.data.toList.drop (k + 1))) := Lib.hid (by rw [H.out, hs, hst]; rfl)
        clear hs H
        go_wp2_with (go_at_call 13; refine (stands_any _ _ _).mono ?_; rintro e w' ⟨rfl, rfl⟩)
        go_round
        case rel => exact ⟨k + 1, _, by omega, by go_num, rfl, HF⟩
        case measure => simp [intOf]; omega
    · have hd : s.data.toList.drop k = [] := by simp; omega
      cases hst : st av 47
      · have HF : Hid (ck 47 s.data.toList = false) := Lib.hid (by rw [H.out, hd]; exact hst)
        clear hd H
        go_wp2_with (go_at_call 13; refine (stands_any _ _ _).mono ?_; rintro e w' ⟨rfl, rfl⟩)
        go_ret
        exact ⟨ret_int (by rw [HF.out]; rfl), rfl⟩
      · have HF : Hid (ck 47 s.data.toList = true) := Lib.hid (by rw [H.out, hd]; exact hst)
        clear hd H
        go_wp2_with (go_at_call 13; refine (stands_any _ _ _).mono ?_; rintro e w' ⟨rfl, rfl⟩)
        go_ret
        exact ⟨ret_int (by rw [HF.out]; rfl), rfl⟩

theorem check_any (s : ByteArray) (w : World) (hs : s.size ≤ maxLen) :
    Calls Try.prog 8 #[.string s] w fun e w' => e = .returned (.int .i64 (eno (nm s.data.toList))) ∧ w = w' := by
  by_cases h : s.size ≤ 60
  · exact check_short s w h
  · exact check_long s w hs (by omega)
end Go.Proofs.Ytnognfhcddmikaa.Nm
