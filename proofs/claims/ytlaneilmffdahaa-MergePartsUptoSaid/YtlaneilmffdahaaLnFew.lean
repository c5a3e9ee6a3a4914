/- Few, with the sum of the lines' sizes. -/
import Derived.Test.YtlaneilmffdahaaLnJoin
namespace Go.Proofs.Ytlaneilmffdahaa.Ln
open Go.RowKit
set_option linter.unusedVariables false
theorem few_sum (B : Nat) (a : Option Addr) (l c : Nat) (ss : List ByteArray) (w : World) (h : Rd w B a l c (sv ss)) (hs : ∀ s ∈ ss, s.size ≤ 140737488351232) :
    Calls Try.prog 29 #[.slice a l c] w fun e w' => ∃ f : Bool, e = .returned (.bool f) ∧ (f = true → l ≤ 119 ∧ sz ss ≤ 2380) ∧ Below w.heap.size w w' := by
  have hl := h.hlen
  have hc := h.hcap
  have hm := h.hbig
  have H := Lib.hid h
  have HS := Lib.hid hs
  have HL : Hid (ss.length = l) := Lib.hid (by simpa [sv] using hl)
  clear h hs hl
  go_enter Try.func29, Try.ntmps29
  go_wp2
  go_loopw [3, 4] (fun n i wr => ∃ k d m : Nat, k ≤ l ∧ k ≤ 200 ∧ i = .int .i64 k ∧ n = .int .i64 m ∧ l ≤ m ∧ m ≤ l + k * 7036874417562 ∧ wr = w.drewN d ∧ Hid (sz (ss.take k) + 20 * l ≤ 20 * m + 19 * k)) (fun _ i _ => 200 - (intOf i).toNat)
  case atStart => exact ⟨0, 0, l, Nat.zero_le _, Nat.zero_le _, rfl, rfl, Nat.le_refl _, by omega, rfl, Lib.hid (by simp [sz])⟩
  case round =>
    obtain ⟨k, d, m, hk1, hk2, rfl, rfl, hm1, hm2, rfl, HZ⟩ := hrel
    by_cases hlt : k < l
    · have hd1 : decide (k < l) = true := by simp; omega
      by_cases hlt2 : k < 200
      · have hd2 : decide ((k : Int) < 200) = true := by simp; omega
        obtain ⟨x1, o1, rfl, hb1, hc1⟩ := H.out.str k hlt
        have hsz : (ss.getD k ByteArray.empty).size ≤ 140737488351232 := HS.out _ (by have := HL.out; simp [List.getD, show k < ss.length from by omega])
        obtain ⟨z1, -⟩ := sz_take ss k (by have := HL.out; omega)
        generalize ss.getD k ByteArray.empty = s at hc1 hsz z1
        have HZ2 := Lib.hid (show sz (ss.take (k + 1)) + 20 * l ≤ 20 * (m + s.size / 20) + 19 * (k + 1) by have := HZ.out; omega)
        clear z1 HZ
        go_wp2
        go_roundw
        case rel => exact ⟨k + 1, d, m + s.size / 20, by omega, by omega, by go_num, by go_num, by omega, by omega, rfl, HZ2⟩
        case measure => simp [intOf]; omega
      · have hd2 : decide ((k : Int) < 200) = false := by simp; omega
        go_wp2
        go_ret
        exact ⟨_, rfl, fun h => by simp at h; omega, below_drewN (Below.refl _ _) _⟩
    · have hd1 : decide (k < l) = false := by simp; omega
      go_wp2
      go_ret
      refine ⟨_, rfl, fun h => ?_, below_drewN (Below.refl _ _) _⟩
      have hz := HZ.out
      rw [List.take_of_length_le (by have := HL.out; omega)] at hz
      simp at h
      omega
end Go.Proofs.Ytlaneilmffdahaa.Ln
