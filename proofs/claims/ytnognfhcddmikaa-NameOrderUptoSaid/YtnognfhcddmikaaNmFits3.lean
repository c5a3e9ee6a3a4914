/- The document's Fits, walked. -/
import Derived.Test.YtnognfhcddmikaaNmFits2
namespace Go.Proofs.Ytnognfhcddmikaa.Nm
open Go.RowKit
set_option linter.unusedVariables false

def e1 (s : List UInt8) (ls : List (List UInt8)) : Int := if nm s = false then 7 else if s ∈ ls then 8 else 0

theorem fits_e1 (s : List UInt8) (ls : List (List UInt8)) : fits s ls = if e1 s ls = 0 then (if ls.any (clash s) then 13 else 0) else e1 s ls := by
  unfold fits e1
  by_cases h : nm s = false
  · rw [if_pos h, if_pos h, if_neg (by decide)]
  · rw [if_neg h, if_neg h]
    by_cases h2 : s ∈ ls
    · rw [if_pos h2, if_pos h2, if_neg (by decide)]
    · rw [if_neg h2, if_neg h2, if_pos rfl]

/-- behind k of the first loop -/
def I1 (s : List UInt8) (ls : List (List UInt8)) (k : Nat) (ev : Int) : Prop :=
  (ev = 0 ∧ e1 s ls = if s ∈ ls.drop k then 8 else 0) ∨ (ev ≠ 0 ∧ ev = e1 s ls)
/-- behind k of the second -/
def I2 (s : List UInt8) (ls : List (List UInt8)) (k : Nat) (ev : Int) : Prop :=
  (ev = 0 ∧ fits s ls = if (ls.drop k).any (clash s) then 13 else 0) ∨ (ev ≠ 0 ∧ ev = fits s ls)

theorem I1_start (s : List UInt8) (ls : List (List UInt8)) : I1 s ls 0 (eno (nm s)) := by
  unfold I1 e1
  cases h : nm s
  · right; simp [eno]
  · left; simp [eno]

theorem I1_hit {s : List UInt8} {ls : List (List UInt8)} {k : Nat} {x : List UInt8} {r : List (List UInt8)} (h : I1 s ls k 0) (hd : ls.drop k = x :: r) (hx : s = x) : I1 s ls (k + 1) 8 := by
  unfold I1 at *
  rcases h with ⟨_, h⟩ | ⟨h, _⟩
  · right; rw [h, hd, if_pos (by simp [hx])]; decide
  · exact absurd rfl h

theorem I1_miss {s : List UInt8} {ls : List (List UInt8)} {k : Nat} {x : List UInt8} {r : List (List UInt8)} (h : I1 s ls k 0) (hd : ls.drop k = x :: r) (hr : ls.drop (k + 1) = r) (hx : ¬ s = x) : I1 s ls (k + 1) 0 := by
  unfold I1 at *
  rcases h with ⟨_, h⟩ | ⟨h, _⟩
  · left; refine ⟨rfl, ?_⟩; rw [h, hd, hr]; simp [hx]
  · exact absurd rfl h

theorem I1_end {s : List UInt8} {ls : List (List UInt8)} {k : Nat} {ev : Int} (h : I1 s ls k ev) (he : ev ≠ 0 ∨ ls.drop k = []) : I2 s ls 0 ev := by
  unfold I1 at h
  unfold I2
  rw [fits_e1]
  rcases h with ⟨h0, h⟩ | ⟨h0, h⟩
  · left
    refine ⟨h0, ?_⟩
    rcases he with he | he
    · exact absurd h0 he
    · rw [he] at h
      simp at h
      rw [h, if_pos rfl]; rfl
  · right
    refine ⟨h0, ?_⟩
    rw [← h, if_neg h0]

theorem I2_hit {s : List UInt8} {ls : List (List UInt8)} {k : Nat} {x : List UInt8} {r : List (List UInt8)} (h : I2 s ls k 0) (hd : ls.drop k = x :: r) (hx : clash s x = true) : I2 s ls (k + 1) 13 := by
  unfold I2 at *
  rcases h with ⟨_, h⟩ | ⟨h, _⟩
  · right; rw [h, hd, if_pos (by simp [hx])]; decide
  · exact absurd rfl h

theorem I2_miss {s : List UInt8} {ls : List (List UInt8)} {k : Nat} {x : List UInt8} {r : List (List UInt8)} (h : I2 s ls k 0) (hd : ls.drop k = x :: r) (hr : ls.drop (k + 1) = r) (hx : clash s x = false) : I2 s ls (k + 1) 0 := by
  unfold I2 at *
  rcases h with ⟨_, h⟩ | ⟨h, _⟩
  · left; refine ⟨rfl, ?_⟩; rw [h, hd, hr]; simp [hx]
  · exact absurd rfl h

theorem I2_end {s : List UInt8} {ls : List (List UInt8)} {k : Nat} {ev : Int} (h : I2 s ls k ev) (he : ev ≠ 0 ∨ ls.drop k = []) : ev = fits s ls := by
  unfold I2 at h
  rcases h with ⟨h0, h⟩ | ⟨h0, h⟩
  · rcases he with he | he
    · exact absurd h0 he
    · rw [he] at h
      rw [h, h0]; rfl
  · exact h

theorem getD_mem (ss : List ByteArray) (k : Nat) (h : k < ss.length) : ss.getD k ByteArray.empty ∈ ss := by
  rw [List.getD_eq_getElem?_getD, List.getElem?_eq_getElem h]; exact List.getElem_mem _

set_option maxHeartbeats 2000000 in
theorem rfits_any (s : ByteArray) (b off len cap : Nat) (ss : List ByteArray) (w : World) (hs : s.size ≤ maxLen) (hl : len ≤ maxLen) (hc : Cells w b off len ss)
    (ho : ∀ o ∈ ss, o.size ≤ maxLen) :
    Calls Try.prog 11 #[.string s, .slice (some ⟨b, off, none⟩) len cap] w fun e w' => e = .returned (.int .i64 (fits s.data.toList (dl ss))) ∧ w = w' := by
  have HC := Lib.hid hc
  have HO := Lib.hid ho
  have HS0 := Lib.hid hs
  have CK := Lib.hid (ref_any s w hs)
  have HI := Lib.hid (I1_start s.data.toList (dl ss))
  clear hc ho hs
  unfold maxLen at hl
  generalize eno (nm s.data.toList) = e0 at CK HI
  go_enter Try.func11, Try.ntmps11
  go_wp2_with (go_at_call 9; refine CK.out.mono ?_; rintro e w' ⟨rfl, rfl⟩)
  go_loop [5, 6] (fun e i => ∃ (k : Nat) (ev : Int), k ≤ len ∧ i = .int .i64 k ∧ e = .int .i64 ev ∧ Hid (I1 s.data.toList (dl ss) k ev)) (fun _ i => len - (intOf i).toNat)
  case atStart => exact ⟨0, _, Nat.zero_le _, rfl, rfl, HI⟩
  case round =>
    clear HI CK
    obtain ⟨k, ev, hk, rfl, rfl, H⟩ := hrel
    by_cases hgo : k < len ∧ ev = 0
    · obtain ⟨hlt, rfl⟩ := hgo
      have hcell := HC.out.2 k hlt
      have hd := dl_drop ss k (by rw [HC.out.1]; exact hlt)
      generalize hx : ss.getD k ByteArray.empty = x at hcell hd
      cases hq : x.toList == s.toList
      · have hq' := hq
        rw [str_eq] at hq'
        have HT : Hid (I1 s.data.toList (dl ss) (k + 1) 0) := Lib.hid (I1_miss H.out hd rfl (by simpa [eq_comm] using hq'))
        clear hd hx H hq'
        go_wp2
        go_round
        case rel => exact ⟨k + 1, _, by omega, by go_num, rfl, HT⟩
        case measure => simp [intOf]; omega
      · have hq' := hq
        rw [str_eq] at hq'
        have HT : Hid (I1 s.data.toList (dl ss) (k + 1) 8) := Lib.hid (I1_hit H.out hd (by simpa [eq_comm] using hq'))
        clear hd hx H hq'
        go_wp2
        go_round
        case rel => exact ⟨k + 1, _, by omega, by go_num, rfl, HT⟩
        case measure => simp [intOf]; omega
    · have HJ : Hid (I2 s.data.toList (dl ss) 0 ev) := Lib.hid (I1_end H.out (by
        by_cases h0 : ev = 0
        · right; exact List.drop_eq_nil_of_le (by simp [dl, HC.out.1]; omega)
        · left; exact h0))
      clear H
      by_cases hlt : k < len
      all_goals
        first
          | (have hne : (ev == 0) = false := by simp; omega
             clear hgo
             go_wp2)
          | (clear hgo
             go_wp2)
        go_loop [5, 7] (fun e i => ∃ (k : Nat) (ev : Int), k ≤ len ∧ i = .int .i64 k ∧ e = .int .i64 ev ∧ Hid (I2 s.data.toList (dl ss) k ev)) (fun _ i => len - (intOf i).toNat)
        case atStart => exact ⟨0, _, Nat.zero_le _, rfl, rfl, HJ⟩
        case round =>
          clear HJ
          obtain ⟨k, ev, hk, rfl, rfl, H⟩ := hrel
          by_cases hgo : k < len ∧ ev = 0
          · obtain ⟨hlt, rfl⟩ := hgo
            have hcell := HC.out.2 k hlt
            have hd := dl_drop ss k (by rw [HC.out.1]; exact hlt)
            have hsz := HO.out _ (getD_mem ss k (by rw [HC.out.1]; exact hlt))
            generalize hx : ss.getD k ByteArray.empty = x at hcell hd hsz
            have HX := Lib.hid hsz
            clear hsz hx
            cases h1 : preB (x.data.toList ++ [47]) s.data.toList
            · cases h2 : preB (s.data.toList ++ [47]) x.data.toList
              · have HT : Hid (I2 s.data.toList (dl ss) (k + 1) 0) := Lib.hid (I2_miss H.out hd rfl (by unfold clash; rw [h1, h2]; rfl))
                clear hd H
                go_wp2_with fail
                refine (below_slash _ _ _ HS0.out HX.out).mono ?_
                rintro e w' ⟨rfl, rfl⟩
                go_wp2_with fail
                refine (below_slash _ _ _ HX.out HS0.out).mono ?_
                rintro e w' ⟨rfl, rfl⟩
                go_wp2
                go_round
                case rel => exact ⟨k + 1, _, by omega, by go_num, rfl, HT⟩
                case measure => simp [intOf]; omega
              · have HT : Hid (I2 s.data.toList (dl ss) (k + 1) 13) := Lib.hid (I2_hit H.out hd (by unfold clash; rw [h1, h2]; rfl))
                clear hd H
                go_wp2_with fail
                refine (below_slash _ _ _ HS0.out HX.out).mono ?_
                rintro e w' ⟨rfl, rfl⟩
                go_wp2_with fail
                refine (below_slash _ _ _ HX.out HS0.out).mono ?_
                rintro e w' ⟨rfl, rfl⟩
                go_wp2
                go_round
                case rel => exact ⟨k + 1, _, by omega, by go_num, rfl, HT⟩
                case measure => simp [intOf]; omega
            · have HT : Hid (I2 s.data.toList (dl ss) (k + 1) 13) := Lib.hid (I2_hit H.out hd (by unfold clash; rw [h1]; simp))
              clear hd H
              go_wp2_with fail
              refine (below_slash _ _ _ HS0.out HX.out).mono ?_
              rintro e w' ⟨rfl, rfl⟩
              go_wp2
              go_round
              case rel => exact ⟨k + 1, _, by omega, by go_num, rfl, HT⟩
              case measure => simp [intOf]; omega
          · have HF : Hid (ev = fits s.data.toList (dl ss)) := Lib.hid (I2_end H.out (by
              by_cases h0 : ev = 0
              · right; exact List.drop_eq_nil_of_le (by simp [dl, HC.out.1]; omega)
              · left; exact h0))
            clear H
            by_cases hlt : k < len
            · have hne : (ev == 0) = false := by simp; omega
              clear hgo
              go_wp2
              go_ret
              exact ⟨ret_int HF.out, rfl⟩
            · clear hgo
              go_wp2
              go_ret
              exact ⟨ret_int HF.out, rfl⟩
end Go.Proofs.Ytnognfhcddmikaa.Nm
