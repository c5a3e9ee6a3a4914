/- The document's Check, walked: at any text it answers 0 where the text is a name by the document's way, else 7. -/
import Derived.Test.YtnognfhcddmikaaNmCheck
import Derived.Deep.Light
namespace Go.Proofs.Ytnognfhcddmikaa.Nm
open Go.RowKit

theorem rk_step (s : ByteArray) (k : Nat) (p : Int) (h : k + 1 < s.size) :
    rk p (s.data.toList.drop k) = (okc p (s[k].toNat : Int) (s[k + 1].toNat : Int) false && rk (s[k].toNat : Int) (s.data.toList.drop (k + 1))) := by
  rw [drop_cons s k (by omega), drop_cons s (k + 1) h]; rfl

theorem rk_last (s : ByteArray) (k : Nat) (p : Int) (h : k < s.size) (h' : ¬ k + 1 < s.size) :
    rk p (s.data.toList.drop k) = okc p (s[k].toNat : Int) 47 true := by
  have hd : s.data.toList.drop (k + 1) = [] := by simp; omega
  rw [drop_cons s k h, hd]; simp [rk]; rfl

set_option maxHeartbeats 1000000 in
theorem ref_out (s : ByteArray) (w : World) (hs : s.size ≤ maxLen) (h : ¬ (1 ≤ s.size ∧ s.size ≤ 60)) :
    Calls Try.prog 9 #[.string s] w fun e w' => e = .returned (.int .i64 (eno (rnm s.data.toList))) ∧ w = w' := by
  unfold maxLen at hs
  have hf : rnm s.data.toList = false := by unfold rnm; rw [decide_eq_false (by simpa using h)]; rfl
  rw [hf]
  by_cases h0 : s.size < 1
  · go_enter Try.func9, Try.ntmps9
    go_wp2
    go_ret
    exact ⟨rfl, rfl⟩
  · have h1 : 60 < s.size := by omega
    clear h
    go_enter Try.func9, Try.ntmps9
    go_wp2
    go_ret
    exact ⟨rfl, rfl⟩

set_option maxRecDepth 100000 in
set_option maxHeartbeats 2000000 in
theorem ref_in (s : ByteArray) (w : World) (h1 : 1 ≤ s.size) (h : s.size ≤ 60) :
    Calls Try.prog 9 #[.string s] w fun e w' => e = .returned (.int .i64 (eno (rnm s.data.toList))) ∧ w = w' := by
  have hnm : rnm s.data.toList = rk 47 s.data.toList := by unfold rnm; rw [decide_eq_true (by simp; omega)]; rfl
  rw [hnm]
  clear hnm
  go_enter Try.func9, Try.ntmps9
  go_wp2
  go_loop [3] (fun i => ∃ (k : Nat) (p : Int), k ≤ s.size ∧ i = .int .i64 k ∧ ((k = 0 ∧ p = 47) ∨ ∃ j, ∃ h : j < s.size, k = j + 1 ∧ p = (s[j].toNat : Int)) ∧ Hid (rk 47 s.data.toList = rk p (s.data.toList.drop k))) (fun i => s.size - (intOf i).toNat)
  case atStart => exact ⟨0, 47, Nat.zero_le _, rfl, .inl ⟨rfl, rfl⟩, Lib.hid rfl⟩
  case round =>
    obtain ⟨k, p, hk, rfl, hp, H⟩ := hrel
    by_cases hlt : k < s.size
    · rcases hp with ⟨rfl, rfl⟩ | ⟨j, hj, rfl, rfl⟩
      · by_cases hl : 0 + 1 < s.size
        · have HS : Hid (rk 47 s.data.toList = (okc 47 (s[0].toNat : Int) (s[0 + 1].toNat : Int) false && rk (s[0].toNat : Int) (s.data.toList.drop (0 + 1)))) := Lib.hid (by rw [H.out]; exact rk_step s 0 47 hl)
          clear H
          go_wp2_with (go_at_call 14; refine (good_any _ _).mono ?_; rintro e w' ⟨rfl, rfl⟩)
          all_goals first
            | (go_ret
               have hf : okc 47 (s[0].toNat : Int) (s[0 + 1].toNat : Int) false = false := by go_light; simp only [okc]; simp_all
               exact ⟨ret_int (by rw [HS.out, hf]; rfl), rfl⟩)
            | (have hf : okc 47 (s[0].toNat : Int) (s[0 + 1].toNat : Int) false = true := by go_light; simp only [okc]; simp_all
               go_round
               case rel => exact ⟨0 + 1, _, by omega, by go_num, .inr ⟨0, by omega, rfl, rfl⟩, Lib.hid (by rw [HS.out, hf]; rfl)⟩
               case measure => simp [intOf]; omega)
        · have HD : Hid (s.data.toList.drop (0 + 1) = []) := Lib.hid (List.drop_eq_nil_of_le (by simp; omega))
          have he : ((0 : Int) == (s.size : Int) - 1) = true := by rw [beq_iff_eq]; omega
          have HS : Hid (rk 47 s.data.toList = okc 47 (s[0].toNat : Int) 47 true) := Lib.hid (by rw [H.out]; exact rk_last s 0 47 hlt hl)
          clear H
          go_wp2_with (go_at_call 14; refine (good_any _ _).mono ?_; rintro e w' ⟨rfl, rfl⟩)
          all_goals first
            | (go_ret
               have hf : okc 47 (s[0].toNat : Int) 47 true = false := by go_light; simp only [okc]; simp_all
               exact ⟨ret_int (by rw [HS.out, hf]; rfl), rfl⟩)
            | (have hf : okc 47 (s[0].toNat : Int) 47 true = true := by go_light; simp only [okc]; simp_all
               go_round
               case rel => exact ⟨0 + 1, _, by omega, by go_num, .inr ⟨0, by omega, rfl, rfl⟩, Lib.hid (by rw [HS.out, hf, HD.out]; rfl)⟩
               case measure => simp [intOf]; omega)
      · by_cases hl : j + 1 + 1 < s.size
        · have HS : Hid (rk 47 s.data.toList = (okc (s[j].toNat : Int) (s[j + 1].toNat : Int) (s[j + 1 + 1].toNat : Int) false && rk (s[j + 1].toNat : Int) (s.data.toList.drop (j + 1 + 1)))) := Lib.hid (by rw [H.out]; exact rk_step s (j + 1) _ hl)
          clear H
          go_wp2_with (go_at_call 14; refine (good_any _ _).mono ?_; rintro e w' ⟨rfl, rfl⟩)
          all_goals first
            | (go_ret
               have hf : okc (s[j].toNat : Int) (s[j + 1].toNat : Int) (s[j + 1 + 1].toNat : Int) false = false := by go_light; simp only [okc]; simp_all
               exact ⟨ret_int (by rw [HS.out, hf]; rfl), rfl⟩)
            | (have hf : okc (s[j].toNat : Int) (s[j + 1].toNat : Int) (s[j + 1 + 1].toNat : Int) false = true := by go_light; simp only [okc]; simp_all
               go_round
               case rel => exact ⟨j + 1 + 1, _, by omega, by go_num, .inr ⟨j + 1, by omega, rfl, rfl⟩, Lib.hid (by rw [HS.out, hf]; rfl)⟩
               case measure => simp [intOf]; omega)
        · have he : ((j : Int) + 1 == (s.size : Int) - 1) = true := by rw [beq_iff_eq]; omega
          have HS : Hid (rk 47 s.data.toList = okc (s[j].toNat : Int) (s[j + 1].toNat : Int) 47 true) := Lib.hid (by rw [H.out]; exact rk_last s (j + 1) _ hlt hl)
          clear H
          go_wp2_with (go_at_call 14; refine (good_any _ _).mono ?_; rintro e w' ⟨rfl, rfl⟩)
          all_goals first
            | (go_ret
               have hf : okc (s[j].toNat : Int) (s[j + 1].toNat : Int) 47 true = false := by go_light; simp only [okc]; simp_all
               exact ⟨ret_int (by rw [HS.out, hf]; rfl), rfl⟩)
            | (have hf : okc (s[j].toNat : Int) (s[j + 1].toNat : Int) 47 true = true := by go_light; simp only [okc]; simp_all
               go_round
               case rel => exact ⟨j + 1 + 1, _, by omega, by go_num, .inr ⟨j + 1, by omega, rfl, rfl⟩, Lib.hid (by rw [HS.out, hf, show s.data.toList.drop (j + 1 + 1) = [] from by simp; omega]; rfl)⟩
               case measure => simp [intOf]; omega)
    · have hd : s.data.toList.drop k = [] := by simp; omega
      have HF : Hid (rk 47 s.data.toList = true) := Lib.hid (by rw [H.out, hd]; rfl)
      clear hd H hp
      go_wp2
      go_ret
      exact ⟨ret_int (by rw [HF.out]; rfl), rfl⟩

theorem ref_any (s : ByteArray) (w : World) (hs : s.size ≤ maxLen) :
    Calls Try.prog 9 #[.string s] w fun e w' => e = .returned (.int .i64 (eno (nm s.data.toList))) ∧ w = w' := by
  rw [nm_rnm]
  by_cases h : 1 ≤ s.size ∧ s.size ≤ 60
  · exact ref_in s w h.1 h.2
  · exact ref_out s w hs h
end Go.Proofs.Ytnognfhcddmikaa.Nm
