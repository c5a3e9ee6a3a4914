/- sides.kind: which side changed. -/
import Derived.Test.YtlaneilmffdahaaMgFrom
namespace Go.Proofs.Ytlaneilmffdahaa.Mg
open Go.RowKit Go.Proofs.Ytlaneilmffdahaa.Ln
set_option linter.unusedVariables false

set_option maxRecDepth 100000 in
set_option maxHeartbeats 2000000 in
theorem kind_any (v0 v1 v2 : Value) (b o t : List ByteArray) (B : Nat) (w : World) (hB : B ≤ w.heap.size) (h0 : SlAt w B v0 b) (h1 : SlAt w B v1 o) (h2 : SlAt w B v2 t) :
    Calls Try.prog 48 #[.agg #[v0, v1, v2]] w fun e w' => e = .returned (.int .i64 (kindOf b o t)) ∧ Below w.heap.size w w' := by
  obtain ⟨A0, n0, C0, rfl, r0⟩ := h0
  obtain ⟨A1, n1, C1, rfl, r1⟩ := h1
  obtain ⟨A2, n2, C2, rfl, r2⟩ := h2
  have hb := (Below.refl B w).alloc hB (.cells #[.slice A0 n0 C0, .slice A1 n1 C1, .slice A2 n2 C2] 59)
  have hbw := (Below.refl w.heap.size w).alloc (Nat.le_refl _) (.cells #[.slice A0 n0 C0, .slice A1 n1 C1, .slice A2 n2 C2] 59)
  have R0 := Lib.hid (fun d => ((r0.below hb).drewN d))
  have R1 := Lib.hid (fun d => ((r1.below hb).drewN d))
  have R2 := Lib.hid (fun d => ((r2.below hb).drewN d))
  have Q1 := Lib.hid (r1.below hb)
  have Q2 := Lib.hid (r2.below hb)
  have HB := Lib.hid (fun d => below_drewN hbw d)
  have HK : ∀ k, k = kindOf b o t → Hid (k = kindOf b o t) := fun k h => Lib.hid h
  clear hb hbw r0 r1 r2
  by_cases e1 : o = t
  · have d1 : decide (o = t) = true := by simpa using e1
    by_cases e2 : b = o
    · have d2 : decide (b = o) = true := by simpa using e2
      have H := HK 0 (by rw [kindOf, if_pos e1, if_pos e2])
      clear e1 e2 HK
      go_enter Try.func48, Try.ntmps48
      go_wp2_with fail
      refine (equal_any _ _ _ _ _ _ _ _ _ _ _ Q1.out Q2.out).mono ?_
      rintro e w' ⟨rfl, d, rfl⟩
      go_wp2_with fail
      refine (equal_any _ _ _ _ _ _ _ _ _ _ _ (R0.out _) (R1.out _)).mono ?_
      rintro e w' ⟨rfl, d', rfl⟩
      rw [World.drewN_drewN]
      go_wp2_with fail
      go_ret
      exact ⟨ret_i H.out, HB.out _⟩
    · have d2 : decide (b = o) = false := by simpa using e2
      have H := HK 3 (by rw [kindOf, if_pos e1, if_neg e2])
      clear e1 e2 HK
      go_enter Try.func48, Try.ntmps48
      go_wp2_with fail
      refine (equal_any _ _ _ _ _ _ _ _ _ _ _ Q1.out Q2.out).mono ?_
      rintro e w' ⟨rfl, d, rfl⟩
      go_wp2_with fail
      refine (equal_any _ _ _ _ _ _ _ _ _ _ _ (R0.out _) (R1.out _)).mono ?_
      rintro e w' ⟨rfl, d', rfl⟩
      rw [World.drewN_drewN]
      go_wp2_with fail
      go_ret
      exact ⟨ret_i H.out, HB.out _⟩
  · have d1 : decide (o = t) = false := by simpa using e1
    by_cases e3 : b = t
    · have d3 : decide (b = t) = true := by simpa using e3
      have H := HK 1 (by rw [kindOf, if_neg e1, if_pos e3])
      clear e1 e3 HK
      go_enter Try.func48, Try.ntmps48
      go_wp2_with fail
      refine (equal_any _ _ _ _ _ _ _ _ _ _ _ Q1.out Q2.out).mono ?_
      rintro e w' ⟨rfl, d, rfl⟩
      go_wp2_with fail
      refine (equal_any _ _ _ _ _ _ _ _ _ _ _ (R0.out _) (R2.out _)).mono ?_
      rintro e w' ⟨rfl, d', rfl⟩
      rw [World.drewN_drewN]
      go_wp2_with fail
      go_ret
      exact ⟨ret_i H.out, HB.out _⟩
    · have d3 : decide (b = t) = false := by simpa using e3
      by_cases e2 : b = o
      · have d2 : decide (b = o) = true := by simpa using e2
        have H := HK 2 (by rw [kindOf, if_neg e1, if_neg e3, if_pos e2])
        clear e1 e2 e3 HK
        go_enter Try.func48, Try.ntmps48
        go_wp2_with fail
        refine (equal_any _ _ _ _ _ _ _ _ _ _ _ Q1.out Q2.out).mono ?_
        rintro e w' ⟨rfl, d, rfl⟩
        go_wp2_with fail
        refine (equal_any _ _ _ _ _ _ _ _ _ _ _ (R0.out _) (R2.out _)).mono ?_
        rintro e w' ⟨rfl, d', rfl⟩
        rw [World.drewN_drewN]
        go_wp2_with fail
        refine (equal_any _ _ _ _ _ _ _ _ _ _ _ (R0.out _) (R1.out _)).mono ?_
        rintro e w' ⟨rfl, d'', rfl⟩
        rw [World.drewN_drewN]
        go_wp2_with fail
        go_ret
        exact ⟨ret_i H.out, HB.out _⟩
      · have d2 : decide (b = o) = false := by simpa using e2
        have H := HK 4 (by rw [kindOf, if_neg e1, if_neg e3, if_neg e2])
        clear e1 e2 e3 HK
        go_enter Try.func48, Try.ntmps48
        go_wp2_with fail
        refine (equal_any _ _ _ _ _ _ _ _ _ _ _ Q1.out Q2.out).mono ?_
        rintro e w' ⟨rfl, d, rfl⟩
        go_wp2_with fail
        refine (equal_any _ _ _ _ _ _ _ _ _ _ _ (R0.out _) (R2.out _)).mono ?_
        rintro e w' ⟨rfl, d', rfl⟩
        rw [World.drewN_drewN]
        go_wp2_with fail
        refine (equal_any _ _ _ _ _ _ _ _ _ _ _ (R0.out _) (R1.out _)).mono ?_
        rintro e w' ⟨rfl, d'', rfl⟩
        rw [World.drewN_drewN]
        go_wp2_with fail
        go_ret
        exact ⟨ret_i H.out, HB.out _⟩
end Go.Proofs.Ytlaneilmffdahaa.Mg
