/- What the laws of chapter 12 share: the example, Few, SameEdits, Same. -/
import Derived.Test.YtlaneilmffdahaaLnRDiff
namespace Go.Proofs.Ytlaneilmffdahaa.Ln
open Go.RowKit
set_option linter.unusedVariables false
/-- Few: true of fewer than 120 lines alone -/
def FewRet (l : Nat) (w : World) (e : Ending) (w' : World) : Prop := ∃ f : Bool, e = .returned (.bool f) ∧ (f = true → l ≤ 119) ∧ ∃ d, w' = w.drewN d
set_option maxHeartbeats 400000 in
theorem few_any (B : Nat) (a : Option Addr) (l c : Nat) (ss : List ByteArray) (w : World) (h : Rd w B a l c (sv ss)) (hs : ∀ s ∈ ss, s.size ≤ 140737488351232) :
    Calls Try.prog 29 #[.slice a l c] w (FewRet l w) := by
  have hl := h.hlen
  have hc := h.hcap
  have hm := h.hbig
  have H := Lib.hid h
  have HS := Lib.hid hs
  have HL : Hid (ss.length = l) := Lib.hid (by simpa [sv] using hl)
  clear h hs hl
  go_enter Try.func29, Try.ntmps29
  go_wp2
  go_loopw [3, 4] (fun n i wr => ∃ k d m : Nat, k ≤ l ∧ k ≤ 200 ∧ i = .int .i64 k ∧ n = .int .i64 m ∧ l ≤ m ∧ m ≤ l + k * 7036874417562 ∧ wr = w.drewN d) (fun _ i _ => 200 - (intOf i).toNat)
  case atStart => exact ⟨0, 0, l, Nat.zero_le _, Nat.zero_le _, rfl, rfl, Nat.le_refl _, by omega, rfl⟩
  case round =>
    obtain ⟨k, d, m, hk1, hk2, rfl, rfl, hm1, hm2, rfl⟩ := hrel
    by_cases hlt : k < l
    · have hd1 : decide (k < l) = true := by simp; omega
      by_cases hlt2 : k < 200
      · have hd2 : decide ((k : Int) < 200) = true := by simp; omega
        obtain ⟨x1, o1, rfl, hb1, hc1⟩ := H.out.str k hlt
        have hsz : (ss.getD k ByteArray.empty).size ≤ 140737488351232 := HS.out _ (by have := HL.out; simp [List.getD, show k < ss.length from by omega])
        generalize ss.getD k ByteArray.empty = s at hc1 hsz
        go_wp2
        go_roundw
        case rel => exact ⟨k + 1, d, m + s.size / 20, by omega, by omega, by go_num, by go_num, by omega, by omega, rfl⟩
        case measure => simp [intOf]; omega
      · have hd2 : decide ((k : Int) < 200) = false := by simp; omega
        go_wp2
        go_ret
        exact ⟨_, rfl, fun h => by simp at h; omega, _, rfl⟩
    · have hd1 : decide (k < l) = false := by simp; omega
      go_wp2
      go_ret
      exact ⟨_, rfl, fun h => by simp at h; omega, _, rfl⟩
set_option maxHeartbeats 400000 in
/-- Same: of the same rows true -/
theorem same_any (B1 B2 : Nat) (a : Option Addr) (l c : Nat) (b : Option Addr) (cb : Nat) (ss : List ByteArray) (w : World) (h : Rd w B1 a l c (sv ss)) (h2 : Rd w B2 b l cb (sv ss)) :
    Calls Try.prog 26 #[.slice a l c, .slice b l cb] w fun e w' => e = .returned (.bool true) ∧ ∃ d, w' = w.drewN d := by
  have hc := h.hcap
  have hm := h.hbig
  have H := Lib.hid h
  have H2 := Lib.hid h2
  clear h h2
  go_enter Try.func26, Try.ntmps26
  have hne : ((l : Int) != (l : Int)) = false := by simp
  go_wp2
  go_loopw [5] (fun i wr => ∃ k d : Nat, k ≤ l ∧ i = .int .i64 k ∧ wr = w.drewN d) (fun i _ => l - (intOf i).toNat)
  case atStart => exact ⟨0, 0, Nat.zero_le _, rfl, rfl⟩
  case round =>
    obtain ⟨k, d, hk1, rfl, rfl⟩ := hrel
    by_cases hlt : k < l
    · obtain ⟨x1, o1, rfl, hb1, hc1⟩ := H.out.str k hlt
      obtain ⟨x2, o2, rfl, hb2, hc2⟩ := H2.out.str k hlt
      generalize ss.getD k ByteArray.empty = s at hc1 hc2
      have hq' : (s.toList != s.toList) = false := by simp
      go_wp2
      go_quiet (fail)
      go_wp2
      go_roundw
      case rel => exact ⟨k + 1, _, by omega, by go_num, rfl⟩
      case measure => simp [intOf]; omega
    · go_wp2
      go_ret
      exact ⟨rfl, _, rfl⟩
/-- a script that reads as the list l -/
theorem own_edit {w : World} {B : Nat} {A : Option Addr} {N c : Nat} {l : List (Nat × Nat)} (h : w.ownsRow B 82 2 (.slice A N c) l.length (ed l)) (k : Nat) (hk : k < l.length) :
    ∃ g, A = some ⟨g, 0, none⟩ ∧ w.cell? ⟨g, k * 2, none⟩ = some (.int .i64 ((l[k].1 : Nat) : Int)) ∧ w.cell? ⟨g, k * 2 + 1, none⟩ = some (.int .i64 ((l[k].2 : Nat) : Int)) := by
  rcases h.2 with ⟨hv, h0⟩ | ⟨g, cap, cur, hv, hg, hh, hc1, hc2, hc3, ht⟩
  · omega
  · simp only [Value.slice.injEq] at hv
    obtain ⟨rfl, rfl, rfl⟩ := hv
    have h1 := ed_get l k hk
    refine ⟨g, rfl, ?_, ?_⟩
    · rw [h.cellAt _ (by omega)]; exact h1.1
    · rw [h.cellAt _ (by omega)]; exact h1.2
theorem own_edit_len {w : World} {B : Nat} {A : Option Addr} {N c : Nat} {l : List (Nat × Nat)} (h : w.ownsRow B 82 2 (.slice A N c) l.length (ed l)) : N = l.length ∧ N ≤ c ∧ c ≤ maxLen := by
  rcases h.2 with ⟨hv, h0⟩ | ⟨g, cap, cur, hv, hg, hh, hc1, hc2, hc3, ht⟩
  · simp only [Value.slice.injEq] at hv
    obtain ⟨rfl, rfl, rfl⟩ := hv
    exact ⟨h0.symm, Nat.le_refl _, Nat.zero_le _⟩
  · simp only [Value.slice.injEq] at hv
    obtain ⟨rfl, rfl, rfl⟩ := hv
    exact ⟨rfl, hc1, hc2⟩
end Go.Proofs.Ytlaneilmffdahaa.Ln
