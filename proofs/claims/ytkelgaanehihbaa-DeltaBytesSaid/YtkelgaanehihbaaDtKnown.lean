/- The chapter's example, walked: it comes out as told. -/
import Derived.Test.YtkelgaanehihbaaDtStr
namespace Go.Proofs.Ytkelgaanehihbaa.Dt
open Go.RowKit
set_option linter.unusedVariables false

theorem ex_mk : mk [97, 98, 99, 100] [97, 98, 88, 99, 100] = [0, 0, 0, 4, 0, 0, 0, 5, 1, 0, 0, 0, 0, 0, 0, 0, 2, 2, 0, 0, 0, 1, 88, 1, 0, 0, 0, 2, 0, 0, 0, 2] := by decide +kernel
theorem ex_ap : ap [97, 98, 99, 100] [0, 0, 0, 4, 0, 0, 0, 5, 1, 0, 0, 0, 0, 0, 0, 0, 2, 2, 0, 0, 0, 1, 88, 1, 0, 0, 0, 2, 0, 0, 0, 2] = ([97, 98, 88, 99, 100], 0) := by decide +kernel
theorem ex_sb : sb [97, 98, 88, 99, 100] = { data := #[97, 98, 88, 99, 100] } := by decide +kernel

theorem kc1 (w : World) (C : Array Value) (n c : Nat) : Sem.run Try.prog (convert 22 22 (Value.slice (some ⟨w.heap.size, 0, none⟩) n c)) (w.alloc (Obj.cells C 5)) = Result.ok (Value.slice (some ⟨w.heap.size, 0, none⟩) n c) (w.alloc (Obj.cells C 5 (C.size, C.size + 1))) :=
  Lib.run_convert_bytes_const (P := Try.prog) w 22 5 C n c Try.underlying22 Try.underlying5

theorem kc2 (w : World) (X : Obj) (C : Array Value) (n c : Nat) : Sem.run Try.prog (convert 22 22 (Value.slice (some ⟨w.heap.size + 1, 0, none⟩) n c)) ((w.alloc X).alloc (Obj.cells C 5)) = Result.ok (Value.slice (some ⟨w.heap.size + 1, 0, none⟩) n c) ((w.alloc X).alloc (Obj.cells C 5 (C.size, C.size + 1))) := by
  have h : (w.alloc X).heap.size = w.heap.size + 1 := by simp
  have := kc1 (w.alloc X) C n c
  rw [h] at this
  exact this

set_option maxHeartbeats 1000000 in
theorem known_any (w : World) : Calls Try.prog 7 #[] w fun e w' => e = .returned (.bool true) ∧ Below w.heap.size w w' := by
  have k1 := kc1
  have k2 := kc2
  have HS1 := Lib.hid (fun W => sl_mark W [97, 98, 99, 100] 5 (4, 5) 4 rfl (by omega) (by decide))
  have HS2 := Lib.hid (fun W => sl_mark W [97, 98, 88, 99, 100] 5 (5, 6) 5 rfl (by omega) (by decide))
  go_enter Try.func7, Try.ntmps7
  go_wp2_with fail
  refine (make_any (w.heap.size + 2) _ _ _ [97, 98, 99, 100] _ _ _ [97, 98, 88, 99, 100] _ ?hs1 ?hs2 (by simp) (by intro b off he _; cases he; omega) (by omega)).mono ?_
  case hs1 => exact (HS1.out w).kept ((Below.refl (w.heap.size + 1) _).alloc (by simp) _) (by intro b off he _; cases he; omega)
  case hs2 =>
    have := HS2.out (w.alloc (.cells (bv [97, 98, 99, 100]).toArray 5 (4, 5)))
    rw [show (w.alloc (.cells (bv [97, 98, 99, 100]).toArray 5 (4, 5))).heap.size = w.heap.size + 1 from by simp] at this
    exact this
  rw [ex_mk]
  rintro e w1 ⟨v1, rfl, ho1, hn1, hb1⟩
  obtain ⟨A, C, hv, -, -, -⟩ := own_shape ho1
  subst hv
  have hsz := hb1.size
  have HB1 := Lib.hid ((((Below.refl w.heap.size w).alloc (Nat.le_refl _) _).alloc (by simp) _).trans (hb1.mono (by omega)))
  have HSL := Lib.hid (own_sl ho1 (by decide) (by decide)).1
  have HBL : Hid (∀ b off, A = some ⟨b, off, none⟩ → b < w1.heap.size) := Lib.hid (fun b off he => by subst he; exact own_block ho1)
  have hs1 : w.heap.size ≤ w1.heap.size := HB1.out.size
  clear ho1 hn1 hb1 hsz
  go_wp2_with fail
  refine (apply_any (w1.heap.size + 1) _ _ _ [97, 98, 99, 100] _ _ _ _ _ (HS1.out w1) (HSL.out.kept ((Below.refl (w1.heap.size) _).alloc (Nat.le_refl _) _) (by intro b off he _; exact HBL.out b off he)) (by simp) (by intro b off he _; cases he; omega) (by intro b off he _; have := HBL.out b off he; omega)).mono ?_
  rw [ex_ap]
  rintro e w2 ⟨v2, rfl, ho2, hb2⟩
  obtain ⟨A2, C2, hv, -, -, -⟩ := own_shape ho2
  subst hv
  have hcv : (convert 22 9 (.slice A2 5 C2)).run Try.prog w2 = .ok (.string { data := #[97, 98, 88, 99, 100] }) w2 := by rw [← ex_sb]; exact conv_own ho2
  have HB2 := Lib.hid ((HB1.out.alloc hs1 _).trans (hb2.mono (by omega)))
  clear ho2 hb2
  go_wp2
  go_ret
  exact ⟨rfl, HB2.out⟩
end Go.Proofs.Ytkelgaanehihbaa.Dt
