/- The document's Get at four bytes, walked. -/
import Derived.Test.YtkelgaanehihbaaDtTake
namespace Go.Proofs.Ytkelgaanehihbaa.Dt
open Go.RowKit
set_option linter.unusedVariables false

set_option maxHeartbeats 400000 in
theorem get_any (a : Option Addr) (len cap : Nat) (zs : List Int) (t : Int) (w : World) (h : Sl w a len cap zs) (h0 : 0 ≤ t) (hn : t + 4 ≤ len) :
    Calls Try.prog 15 #[.slice a len cap, .int .i64 t, .int .i64 4] w fun e w' => e = .returned (.int .i64 (num (zs.drop t.toNat))) ∧ w = w' := by
  obtain ⟨k, rfl⟩ := Int.eq_ofNat_of_zero_le h0
  rw [Int.toNat_natCast]
  have hk : k + 4 ≤ len := by omega
  have g1 := h.hcap
  have g2 := h.hreach
  obtain ⟨b0, o0, rfl, -⟩ := h.hcell k (by omega)
  have cell : ∀ i, i < 4 → w.cell? ⟨b0, o0 + (k + i), none⟩ = some (.int .u8 (zs.getD (k + i) 0)) ∧ 0 ≤ zs.getD (k + i) 0 ∧ zs.getD (k + i) 0 ≤ 255 := by
    intro i hi
    obtain ⟨b, o, he, hc⟩ := h.hcell (k + i) (by omega)
    simp only [Option.some.injEq, Addr.mk.injEq, and_true] at he
    obtain ⟨rfl, rfl⟩ := he
    exact ⟨hc, h.hbyte (k + i) (by omega)⟩
  obtain ⟨q0, l0, m0⟩ := cell 0 (by omega)
  obtain ⟨q1, l1, m1⟩ := cell 1 (by omega)
  obtain ⟨q2, l2, m2⟩ := cell 2 (by omega)
  obtain ⟨q3, l3, m3⟩ := cell 3 (by omega)
  have HX : Hid (num (zs.drop k) = ((zs.getD (k + 0) 0 * 256 + zs.getD (k + 1) 0) * 256 + zs.getD (k + 2) 0) * 256 + zs.getD (k + 3) 0) := Lib.hid (by simp [num, List.getD])
  generalize zs.getD (k + 0) 0 = z0 at *
  generalize zs.getD (k + 1) 0 = z1 at *
  generalize zs.getD (k + 2) 0 = z2 at *
  generalize zs.getD (k + 3) 0 = z3 at *
  have HO0 := Lib.hid (show bits .or .i64 0 z0 = z0 from by have := or_i64 0 z0 (by omega) (by omega) l0 m0; simpa using this)
  have HO1 := Lib.hid (or_i64 z0 z1 (by omega) (by omega) l1 m1)
  have HO2 := Lib.hid (or_i64 (z0 * 256 + z1) z2 (by omega) (by omega) l2 m2)
  have HO3 := Lib.hid (or_i64 ((z0 * 256 + z1) * 256 + z2) z3 (by omega) (by omega) l3 m3)
  clear cell h h0 hn
  simp only [Nat.add_zero] at q0
  go_enter Try.func15, Try.ntmps15
  go_wp2
  go_loop [7, 8] (fun x i => (i = .int .i64 0 ∧ x = .int .i64 0) ∨ (i = .int .i64 1 ∧ x = .int .i64 z0) ∨ (i = .int .i64 2 ∧ x = .int .i64 (z0 * 256 + z1)) ∨ (i = .int .i64 3 ∧ x = .int .i64 ((z0 * 256 + z1) * 256 + z2)) ∨ (i = .int .i64 4 ∧ x = .int .i64 (((z0 * 256 + z1) * 256 + z2) * 256 + z3))) (fun _ i => 4 - (intOf i).toNat)
  case atStart => exact .inl ⟨rfl, rfl⟩
  case round =>
    rcases hrel with ⟨rfl, rfl⟩ | ⟨rfl, rfl⟩ | ⟨rfl, rfl⟩ | ⟨rfl, rfl⟩ | ⟨rfl, rfl⟩
    · go_wp2
      go_round
      case rel => exact .inr (.inl ⟨rfl, by rw [HO0.out]⟩)
      case measure => simp [intOf]
    · go_wp2
      go_round
      case rel => exact .inr (.inr (.inl ⟨rfl, by rw [HO1.out]⟩))
      case measure => simp [intOf]
    · go_wp2
      go_round
      case rel => exact .inr (.inr (.inr (.inl ⟨rfl, by rw [HO2.out]⟩)))
      case measure => simp [intOf]
    · go_wp2
      go_round
      case rel => exact .inr (.inr (.inr (.inr ⟨rfl, by rw [HO3.out]⟩)))
      case measure => simp [intOf]
    · go_wp2
      go_ret
      exact ⟨ret_int HX.out.symm, rfl⟩
end Go.Proofs.Ytkelgaanehihbaa.Dt
