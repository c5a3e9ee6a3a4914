/- The rounds of a block. -/
import Derived.Test.YtgmcdkkjemjneaaSmMath
import Derived.BigRegion
import Derived.Deep.OwnRows
import Derived.Deep.LoopGhost
namespace Go.Proofs.Ytgmcdkkjemjneaa.Sm
open Go.RowKit
set_option linter.unusedVariables false

/-- the state's words: k of them are mixed in -/
def mixF (F : Nat → Value) (s T : W8) (k : Nat) : Nat → Value := fun j => if j < k then .int .u32 (ad (s.at j) (T.at j)) else F j

theorem mix_cell {w : World} {H tH : Nat} {F : Nat → Value} {s T : W8} {k : Nat} (h : w.rowIs H tH 73 (mixF F s T k)) (hF : ∀ j, j < 8 → F j = .int .u32 (s.at j)) (hk : k < 8) : w.drew.cell? ⟨H, k, none⟩ = some (.int .u32 (s.at k)) := by
  have h1 := (World.rowIs.drew h).cell (i := k) (by omega)
  rw [h1, mixF, if_neg (by omega), hF k hk]
theorem mix_set {w : World} {H tH : Nat} {F : Nat → Value} {s T : W8} {k : Nat} (h : w.rowIs H tH 73 (mixF F s T k)) (hk : k < 8) : (w.drew.setCell ⟨H, k, none⟩ (.int .u32 (ad (s.at k) (T.at k)))).rowIs H tH 73 (mixF F s T (k + 1)) := by
  refine ((World.rowIs.drew h).set k _).congr fun j hj => ?_
  unfold mixF
  by_cases e : j = k
  · subst e
    rw [if_pos rfl, if_pos (by omega)]
  · rw [if_neg e]
    by_cases e2 : j < k
    · rw [if_pos e2, if_pos (by omega)]
    · rw [if_neg e2, if_neg (by omega)]

theorem idx8 (a b c d e f g hh : Int) (k : Nat) (hk : k < 8) (w : World) : (Instr.index 49 (.agg #[.int .u32 a, .int .u32 b, .int .u32 c, .int .u32 d, .int .u32 e, .int .u32 f, .int .u32 g, .int .u32 hh]) (.int .i64 k)).run Try.prog w = .ok (.int .u32 (W8.at ⟨a, b, c, d, e, f, g, hh⟩ k)) w := by
  rcases (show k = 0 ∨ k = 1 ∨ k = 2 ∨ k = 3 ∨ k = 4 ∨ k = 5 ∨ k = 6 ∨ k = 7 from by omega) with rfl | rfl | rfl | rfl | rfl | rfl | rfl | rfl <;> rfl

theorem grown_set {a w : World} {H : Nat} (h : a.grownBy w (some H)) (k : Nat) (v : Value) : a.grownBy (w.drew.setCell ⟨H, k, none⟩ v) (some H) :=
  ⟨h.os, h.tape, h.output, by simpa [World.setCell] using h.size, fun i hi hne => (Below.heap_setCell w.drew ⟨H, k, none⟩ v i (fun e => hne (by rw [e]))).trans (h.block i hi hne)⟩
theorem grown_drewN {a w : World} {H : Option Nat} (h : a.grownBy w H) (n : Nat) : a.grownBy (w.drewN n) H := ⟨h.os, h.tape, h.output, h.size, h.block⟩

set_option maxRecDepth 100000 in
set_option maxHeartbeats 1000000 in
theorem rounds_any (H tH W R : Nat) (F : Nat → Value) (s : W8) (kf wf : Nat → Int) (hok : s.ok) (w : World)
    (hrow : w.rowIs H tH 73 F) (hF : ∀ j, j < 8 → F j = .int .u32 (s.at j))
    (hw : ∀ t, t < 64 → w.cell? ⟨W, t, none⟩ = some (.int .u32 (wf t))) (hk : ∀ t, t < 64 → w.cell? ⟨R, t, none⟩ = some (.int .u32 (kf t))) :
    Calls Try.prog 35 #[.pointer (some ⟨H, 0, none⟩), .pointer (some ⟨W, 0, none⟩), .pointer (some ⟨R, 0, none⟩)] w fun e w' => e = .returned (.tuple #[]) ∧ w'.rowIs H tH 73 (mixF F s (steps kf wf 64 s) 8) ∧ w.grownBy w' (some H) := by
  have h0 : w.cell? ⟨H, 0, none⟩ = some (.int .u32 s.a) := by rw [hrow.cell (by omega), hF 0 (by omega)]; rfl
  have h1 : w.cell? ⟨H, 1, none⟩ = some (.int .u32 s.b) := by rw [hrow.cell (by omega), hF 1 (by omega)]; rfl
  have h2 : w.cell? ⟨H, 2, none⟩ = some (.int .u32 s.c) := by rw [hrow.cell (by omega), hF 2 (by omega)]; rfl
  have h3 : w.cell? ⟨H, 3, none⟩ = some (.int .u32 s.d) := by rw [hrow.cell (by omega), hF 3 (by omega)]; rfl
  have h4 : w.cell? ⟨H, 4, none⟩ = some (.int .u32 s.e) := by rw [hrow.cell (by omega), hF 4 (by omega)]; rfl
  have h5 : w.cell? ⟨H, 5, none⟩ = some (.int .u32 s.f) := by rw [hrow.cell (by omega), hF 5 (by omega)]; rfl
  have h6 : w.cell? ⟨H, 6, none⟩ = some (.int .u32 s.g) := by rw [hrow.cell (by omega), hF 6 (by omega)]; rfl
  have h7 : w.cell? ⟨H, 7, none⟩ = some (.int .u32 s.h) := by rw [hrow.cell (by omega), hF 7 (by omega)]; rfl
  have HRow := Lib.hid hrow
  have HF := Lib.hid hF
  clear hrow hF
  have HW := Lib.hid hw
  have HR := Lib.hid hk
  clear hw hk
  go_enter Try.func35, Try.ntmps35
  go_wp2
  go_quiet (fail)
  go_wp2
  go_loopw [7, 8, 9, 10, 11, 12, 13, 14, 55] (fun s7 s8 s9 s10 s11 s12 s13 s14 s55 wr => ∃ (t n : Nat) (a b c d e f g hh : Int), s7 = .int .u32 a ∧ s8 = .int .u32 b ∧ s9 = .int .u32 c ∧ s10 = .int .u32 d ∧ s11 = .int .u32 e ∧ s12 = .int .u32 f ∧ s13 = .int .u32 g ∧ s14 = .int .u32 hh ∧ s55 = .int .i64 t ∧ t ≤ 64 ∧ Hid (steps kf wf t s = ⟨a, b, c, d, e, f, g, hh⟩) ∧ Hid (0 ≤ a ∧ a < 4294967296) ∧ Hid (0 ≤ e ∧ e < 4294967296) ∧ wr = w.drewN n) (fun _ _ _ _ _ _ _ _ i _ => 64 - (intOf i).toNat)
  case atStart => exact ⟨0, _, s.a, s.b, s.c, s.d, s.e, s.f, s.g, s.h, rfl, rfl, rfl, rfl, rfl, rfl, rfl, rfl, rfl, by omega, Lib.hid rfl, Lib.hid (hok 0), Lib.hid (hok 4), rfl⟩
  case round =>
    obtain ⟨t, n, a, b, c, d, e, f, g, hh, rfl, rfl, rfl, rfl, rfl, rfl, rfl, rfl, rfl, ht, HS, HA, HE, rfl⟩ := hrel
    by_cases hlt : t < 64
    · have hcw : (w.drewN n).drew.cell? ⟨W, t, none⟩ = some (.int .u32 (wf t)) := HW.out t hlt
      have hck : (w.drewN n).drew.cell? ⟨R, t, none⟩ = some (.int .u32 (kf t)) := HR.out t hlt
      have HB1 : Hid (∀ w, Calls Try.prog 37 #[.int .u32 e, .int .i64 6, .int .i64 11, .int .i64 25] w fun e' w' => e' = .returned (.int .u32 (big e 6 11 25)) ∧ w' = w) := Lib.hid (fun w => big_any e 6 11 25 w HE.out.1 HE.out.2 (by omega) (by omega) (by omega))
      have HB2 : Hid (∀ w, Calls Try.prog 37 #[.int .u32 a, .int .i64 2, .int .i64 13, .int .i64 22] w fun e' w' => e' = .returned (.int .u32 (big a 2 13 22)) ∧ w' = w) := Lib.hid (fun w => big_any a 2 13 22 w HA.out.1 HA.out.2 (by omega) (by omega) (by omega))
      have ht1 : (t : Int) < 64 := by omega
      have ht0 : (0 : Int) ≤ t := by omega
      go_wp2_with fail
      go_region_held3 (fun wS => wS.cell? ⟨W, t, none⟩ = some (.int .u32 (wf t)) ∧ wS.cell? ⟨R, t, none⟩ = some (.int .u32 (kf t))) (exact ⟨hcw, hck⟩) (first | (go_at_call 37; with_reducible refine (HB1.out _).mono ?_; rintro e' w1 ⟨rfl, rfl⟩))
      go_wp2_with fail
      refine (HB2.out _).mono ?_
      rintro e' w1 ⟨rfl, rfl⟩
      go_wp2_with fail
      go_roundw
      case rel => exact ⟨t + 1, n + 1, _, _, _, _, _, _, _, _, rfl, rfl, rfl, rfl, rfl, rfl, rfl, rfl, by go_num, by omega, Lib.hid (by rw [steps, HS.out]; rfl), Lib.hid (ad_range _ _), Lib.hid (ad_range _ _), rfl⟩
      case measure => simp [intOf]; omega
    · have ht2 : t = 64 := by omega
      subst ht2
      clear HA HE HW HR hlt ht
      clear h0 h1 h2 h3 h4 h5 h6 h7
      have HX0 : Hid ((w.drewN n).rowIs H tH 73 (mixF F s ⟨a, b, c, d, e, f, g, hh⟩ 0)) := Lib.hid (World.rowIs.congr (f := F) HRow.out (fun j hj => by rw [mixF, if_neg (by omega)]))
      have HG0 : Hid (w.grownBy (w.drewN n) (some H)) := Lib.hid (grown_drewN (World.grownBy.refl w _) n)
      clear HRow
      go_wp2_with fail
      go_loopw [119] (fun i wr => ∃ k : Nat, i = .int .i64 k ∧ k ≤ 8 ∧ Hid (wr.rowIs H tH 73 (mixF F s ⟨a, b, c, d, e, f, g, hh⟩ k)) ∧ Hid (w.grownBy wr (some H))) (fun i _ => 8 - (intOf i).toNat)
      case atStart => exact ⟨0, rfl, by omega, HX0, HG0⟩
      case round =>
        clear HX0 HG0
        obtain ⟨k, rfl, hk8, HX, HG⟩ := hrel
        by_cases hlt8 : k < 8
        · have hk0 : (0 : Int) ≤ (k : Int) := by omega
          have hk1 : (k : Int) < 8 := by omega
          have hc : wr.drew.cell? ⟨H, k, none⟩ = some (.int .u32 (s.at k)) := mix_cell HX.out HF.out (by omega)
          have hf : wr.drew.frozen? ⟨H, k, none⟩ = false := (World.rowIs.drew HX.out).frozen _
          have hidx := idx8 a b c d e f g hh k hlt8
          have HX2 := Lib.hid (mix_set HX.out hlt8)
          have HG2 := Lib.hid (grown_set HG.out k (.int .u32 (ad (s.at k) (W8.at ⟨a, b, c, d, e, f, g, hh⟩ k))))
          have had : ad (s.at k) (W8.at ⟨a, b, c, d, e, f, g, hh⟩ k) = (s.at k + W8.at ⟨a, b, c, d, e, f, g, hh⟩ k) % 4294967296 := rfl
          rw [had] at HX2 HG2
          clear had HX HG
          generalize s.at k = X at *
          generalize W8.at ⟨a, b, c, d, e, f, g, hh⟩ k = Y at *
          go_wp2_with fail
          go_region
          all_goals (go_wp2_with fail)
          go_roundw
          case rel => exact ⟨k + 1, by go_num, by omega, HX2, HG2⟩
          case measure => simp [intOf]; omega
        · have hk2 : k = 8 := by omega
          subst hk2
          go_wp2_with fail
          go_end0
          exact ⟨rfl, by rw [HS.out]; exact HX.out, HG.out⟩
end Go.Proofs.Ytgmcdkkjemjneaa.Sm
