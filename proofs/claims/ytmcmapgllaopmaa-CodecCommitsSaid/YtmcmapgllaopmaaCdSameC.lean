/- Commits are compared; the same commit is the same. -/
import Derived.Test.YtmcmapgllaopmaaCdREc
import Derived.Test.YtmcmapgllaopmaaCdOne
namespace Go.Proofs.Ytmcmapgllaopmaa.Cd
open Go.RowKit
set_option linter.unusedVariables false

theorem size_alloc (w : World) (o : Obj) : (w.alloc o).heap.size = w.heap.size + 1 := by show (w.heap.push o).size = w.heap.size + 1; simp
set_option maxRecDepth 100000 in
set_option maxHeartbeats 1000000 in
theorem sameCommit_any (tr : List Int) (hl : tr.length = 32) (A : Option Addr) (n C : Nat) (A' : Option Addr) (C' : Nat) (ids : List (List Int)) (au : ByteArray) (tm : Int) (ms : ByteArray) (w : World) (h : RdIds w A n C ids) (h' : RdIds w A' n C' ids) :
    Calls Try.prog 21 #[.agg (cm tr (.slice A n C) au tm ms).toArray, .agg (cm tr (.slice A' n C') au tm ms).toArray] w fun e w' => e = .returned (.bool true) ∧ Below w.heap.size w w' := by
  have hX := cm_row w tr (.slice A n C) au tm ms hl
  have hY := cm_row (w.alloc (.cells (cm tr (.slice A n C) au tm ms).toArray 40)) tr (.slice A' n C') au tm ms hl
  have hb0 := (Below.refl w.heap.size w).alloc (Nat.le_refl _) (.cells (cm tr (.slice A n C) au tm ms).toArray 40)
  have hb1 := hb0.alloc (al_le w (.cells (cm tr (.slice A n C) au tm ms).toArray 40)) (.cells (cm tr (.slice A' n C') au tm ms).toArray 40)
  have hbX := ((Below.refl _ (w.alloc (.cells (cm tr (.slice A n C) au tm ms).toArray 40))).alloc (Nat.le_refl _) (.cells (cm tr (.slice A' n C') au tm ms).toArray 40))
  have hX2 := hX.of_block (hbX.block _ hX.lt)
  have hs1 : (w.alloc (.cells (cm tr (.slice A n C) au tm ms).toArray 40)).heap.size = w.heap.size + 1 := size_alloc _ _
  rw [hs1] at hY
  have HI := Lib.hid (h.below hb1)
  have HJ := Lib.hid (h'.below hb1)
  have HB := Lib.hid hb1
  have HX := Lib.hid hX2
  have HY := Lib.hid hY
  have HT1 := Lib.hid (cm_tree hX2 hl)
  have HT2 := Lib.hid (cm_tree hY hl)
  have HSz := Lib.hid (show (Try.prog.info? 37).map (·.size) = some (bv tr).length by rw [bv_len, hl]; kernel_rfl)
  have hq : ∀ W, (Op.equalIn 10000 37 (.agg (bv tr).toArray) (.agg (bv tr).toArray)).run Try.prog W = .ok (decide (tr = tr)) W := fun W => ids_eq tr tr hl hl W
  rw [decide_eq_true rfl] at hq
  have hcap := h.cap
  have hmax := h.max
  have hcap2 := h'.cap
  have hmax2 := h'.max
  have hbig := h.big
  have HLn := Lib.hid h.len
  clear hX hY hX2 hb0 hb1 hbX hs1 h h'
  generalize hCM : cm tr (.slice A n C) au tm ms = CM at *
  generalize hCN : cm tr (.slice A' n C') au tm ms = CN at *
  clear hCM hCN
  generalize hDI : bv tr = DI at *
  clear hDI
  go_enter Try.func21, Try.ntmps21
  have hag : (Value.agg CM.toArray).cells = CM.toArray := rfl
  have hag2 : (Value.agg CN.toArray).cells = CN.toArray := rfl
  go_upto_region 1 with (fail)
  generalize (w.alloc (.cells CM.toArray 40)).alloc (.cells CN.toArray 40) = w1 at *
  obtain ⟨X, hXe⟩ : ∃ X, X = w.heap.size := ⟨_, rfl⟩
  rw [← hXe] at HX HY HT1 HT2 ⊢
  obtain ⟨Y, hYe⟩ : ∃ Y, Y = X + 1 := ⟨_, rfl⟩
  rw [← hYe] at HY HT2 ⊢
  have HXw := Lib.hid hXe
  have HYw := Lib.hid hYe
  clear hXe hYe hag hag2
  have hx32 : w1.cell? ⟨X, 32, none⟩ = some (.slice A n C) := HX.out.cell (i := 32) (by omega)
  have hx33 : w1.cell? ⟨X, 33, none⟩ = some (.string au) := HX.out.cell (i := 33) (by omega)
  have hx34 : w1.cell? ⟨X, 34, none⟩ = some (.int .i64 tm) := HX.out.cell (i := 34) (by omega)
  have hx35 : w1.cell? ⟨X, 35, none⟩ = some (.string ms) := HX.out.cell (i := 35) (by omega)
  have hy32 : w1.cell? ⟨Y, 32, none⟩ = some (.slice A' n C') := HY.out.cell (i := 32) (by omega)
  have hy33 : w1.cell? ⟨Y, 33, none⟩ = some (.string au) := HY.out.cell (i := 33) (by omega)
  have hy34 : w1.cell? ⟨Y, 34, none⟩ = some (.int .i64 tm) := HY.out.cell (i := 34) (by omega)
  have hy35 : w1.cell? ⟨Y, 35, none⟩ = some (.string ms) := HY.out.cell (i := 35) (by omega)
  go_wp2_with (first | refine wpList_load_mid rfl _ _ rfl X 0 rfl DI _ HT1.out Try.underlying37 rfl HSz.out ?_ | refine wpList_load_mid rfl _ _ rfl Y 0 rfl DI _ HT2.out Try.underlying37 rfl HSz.out ?_)
  clear hx32 hx33 hx34 hx35 hy32 hy33 hy34 hy35 HT1 HT2 hq HSz
  go_loopw [5] (fun s wr => ∃ k : Nat, s = .int .i64 k ∧ k ≤ n ∧ Hid (RdIds wr A n C ids) ∧ Hid (RdIds wr A' n C' ids) ∧ Hid (wr.rowIs X 40 36 (cmF tr (.slice A n C) au tm ms)) ∧ Hid (wr.rowIs Y 40 36 (cmF tr (.slice A' n C') au tm ms)) ∧ Hid (Below w.heap.size w wr)) (fun s _ => n - (intOf s).toNat)
  case atStart => exact ⟨0, rfl, Nat.zero_le _, HI, HJ, HX, HY, HB⟩
  case round =>
    clear HI HJ HX HY HB
    obtain ⟨k, rfl, hk, HI, HJ, HX, HY, HB⟩ := hrel
    have hx32 : wr.cell? ⟨X, 32, none⟩ = some (.slice A n C) := HX.out.cell (i := 32) (by omega)
    by_cases hlt : k < n
    · obtain ⟨g, o, rfl, hg, hcc⟩ := HI.out.cell (by omega)
      obtain ⟨g2, o2, rfl, hg2, hcc2⟩ := HJ.out.cell (by omega)
      have hpl := HI.out.ids _ (getD_mem (k := k) (by have := HLn.out; omega))
      have hx1 := hcc k hlt
      have hx2 := hcc2 k hlt
      have heq := fun W => ids_eq (ids.getD k []) (ids.getD k []) hpl hpl W
      rw [decide_eq_true rfl] at heq
      have hS1 : Hid ((Try.prog.info? 37).map (·.size) = some (bv (ids.getD k [])).length) := Lib.hid (by rw [bv_len, hpl]; kernel_rfl)
      generalize bv (ids.getD k []) = EL at *
      have hk0 : (0 : Int) ≤ (k : Int) := by omega
      have hk1 : (k : Int) < (n : Int) := by omega
      have hkn : k < n := hlt
      have hx32 : wr.cell? ⟨X, 32, none⟩ = some (.slice (some ⟨g, o, none⟩) n C) := hx32
      have HId : Hid (RdIds wr.drew (some ⟨g, o, none⟩) n C ids) := Lib.hid ⟨HI.out.cap, HI.out.max, HI.out.big, HI.out.len, HI.out.ids, HI.out.cell⟩
      have HJd : Hid (RdIds wr.drew (some ⟨g2, o2, none⟩) n C' ids) := Lib.hid ⟨HJ.out.cap, HJ.out.max, HJ.out.big, HJ.out.len, HJ.out.ids, HJ.out.cell⟩
      have HXd := Lib.hid (row_drew HX.out)
      have HYd := Lib.hid (row_drew HY.out)
      have HBd := Lib.hid HB.out.drew
      have dS : Hid ((wr.drew.cell? ⟨X, 32, none⟩ = some (.slice (some ⟨g, o, none⟩) n C) ∧ wr.drew.cell? ⟨Y, 32, none⟩ = some (.slice (some ⟨g2, o2, none⟩) n C')) ∧ wr.drew.rangeAt g (o + k * 32) EL ∧ wr.drew.rangeAt g2 (o2 + k * 32) EL) := Lib.hid ⟨⟨HXd.out.cell (i := 32) (by omega), HYd.out.cell (i := 32) (by omega)⟩, (World.rangeAt_drew _ _ _ _).2 hx1, (World.rangeAt_drew _ _ _ _).2 hx2⟩
      clear hx1 hx2 hcc hcc2 hpl HI HJ HX HY HB hg hg2
      go_wp2_with fail
      clear hx32
      refine wp_region_noPanic ?_
      refine wp_region_held_drew (S := (fun wS => (wS.cell? ⟨X, 32, none⟩ = some (.slice (some ⟨g, o, none⟩) n C) ∧ wS.cell? ⟨Y, 32, none⟩ = some (.slice (some ⟨g2, o2, none⟩) n C')) ∧ wS.rangeAt g (o + k * 32) EL ∧ wS.rangeAt g2 (o2 + k * 32) EL)) (by kernel_rfl) ?_ (fun hHeld => ?_)
      · ((try dsimp only); exact dS.out)
      refine wpAnyH_take (i := 0) (oi := { dst := some 48, op := Op.fieldAddr 40 (Operand.tmp 2) 1, type := 0, pos := "ref.go:486", after := #[], guard := none }) (v := ?_) rfl (by kernel_rfl) (by kernel_rfl) (by kernel_rfl) (fun _ _ _ h => h) (Or.inl ⟨by rfl, ?_⟩) (by assumption) ?_
      rotate_left 1
      · ((intro w hSw; (try dsimp only at hSw); go_simp) <;> with_reducible rfl)
      (try simp only [Act.put, List.setIfInBounds_toArray, List.set_cons_zero, List.set_cons_succ])
      refine wpAnyH_take (i := 1) (oi := { dst := some 49, op := Op.load 38 (Operand.tmp 48), type := 38, pos := "ref.go:486", after := #[{ on := 0, ground := Ground.data }], guard := none }) (v := ?_) rfl (by kernel_rfl) (by kernel_rfl) (by kernel_rfl) (fun _ _ _ h => h) (Or.inl ⟨by rfl, ?_⟩) (by assumption) ?_
      rotate_left 1
      · ((intro w hSw; (try dsimp only at hSw); go_simp) <;> with_reducible rfl)
      (try simp only [Act.put, List.setIfInBounds_toArray, List.set_cons_zero, List.set_cons_succ])
      refine wpAnyH_take (i := 2) (oi := { dst := some 50, op := Op.move (Operand.tmp 5), type := 3, pos := "ref.go:486", after := #[], guard := none }) (v := ?_) rfl (by kernel_rfl) (by kernel_rfl) (by kernel_rfl) (fun _ _ _ h => h) (Or.inl ⟨by rfl, ?_⟩) (by assumption) ?_
      rotate_left 1
      · ((intro w hSw; (try dsimp only at hSw); go_simp) <;> with_reducible rfl)
      (try simp only [Act.put, List.setIfInBounds_toArray, List.set_cons_zero, List.set_cons_succ])
      refine wpAnyH_take (i := 3) (oi := { dst := some 51, op := Op.indexAddr 38 (Operand.tmp 49) (Operand.tmp 50), type := 0, pos := "ref.go:486", after := #[{ on := 1, ground := Ground.data }, { on := 2, ground := Ground.data }], guard := none }) (v := ?_) rfl (by kernel_rfl) (by kernel_rfl) (by kernel_rfl) (fun _ _ _ h => h) (Or.inl ⟨by rfl, ?_⟩) (by assumption) ?_
      rotate_left 1
      · ((intro w hSw; (try dsimp only at hSw); go_simp) <;> with_reducible rfl)
      (try simp only [Act.put, List.setIfInBounds_toArray, List.set_cons_zero, List.set_cons_succ])
      refine' wpAnyH_take (i := 4) (oi := { dst := some 52, op := Op.load 37 (Operand.tmp 51), type := 37, pos := "ref.go:486", after := #[{ on := 3, ground := Ground.data }], guard := none }) (v := _) rfl (by kernel_rfl) (by kernel_rfl) (by kernel_rfl) (fun _ _ _ h => h) (yieldsIf_load_mid (by rfl) _ _ rfl _ _ rfl EL _ (fun w hSw => hSw.2.1) Try.underlying37 rfl hS1.out) (by assumption) ?_
      (try simp only [Act.put, List.setIfInBounds_toArray, List.set_cons_zero, List.set_cons_succ])
      refine wpAnyH_take (i := 5) (oi := { dst := some 53, op := Op.fieldAddr 40 (Operand.tmp 3) 1, type := 0, pos := "ref.go:486", after := #[], guard := none }) (v := ?_) rfl (by kernel_rfl) (by kernel_rfl) (by kernel_rfl) (fun _ _ _ h => h) (Or.inl ⟨by rfl, ?_⟩) (by assumption) ?_
      rotate_left 1
      · ((intro w hSw; (try dsimp only at hSw); go_simp) <;> with_reducible rfl)
      (try simp only [Act.put, List.setIfInBounds_toArray, List.set_cons_zero, List.set_cons_succ])
      refine wpAnyH_take (i := 6) (oi := { dst := some 54, op := Op.load 38 (Operand.tmp 53), type := 38, pos := "ref.go:486", after := #[{ on := 5, ground := Ground.data }], guard := none }) (v := ?_) rfl (by kernel_rfl) (by kernel_rfl) (by kernel_rfl) (fun _ _ _ h => h) (Or.inl ⟨by rfl, ?_⟩) (by assumption) ?_
      rotate_left 1
      · ((intro w hSw; (try dsimp only at hSw); go_simp) <;> with_reducible rfl)
      (try simp only [Act.put, List.setIfInBounds_toArray, List.set_cons_zero, List.set_cons_succ])
      refine wpAnyH_take (i := 7) (oi := { dst := some 55, op := Op.move (Operand.tmp 5), type := 3, pos := "ref.go:486", after := #[], guard := none }) (v := ?_) rfl (by kernel_rfl) (by kernel_rfl) (by kernel_rfl) (fun _ _ _ h => h) (Or.inl ⟨by rfl, ?_⟩) (by assumption) ?_
      rotate_left 1
      · ((intro w hSw; (try dsimp only at hSw); go_simp) <;> with_reducible rfl)
      (try simp only [Act.put, List.setIfInBounds_toArray, List.set_cons_zero, List.set_cons_succ])
      refine wpAnyH_take (i := 8) (oi := { dst := some 56, op := Op.indexAddr 38 (Operand.tmp 54) (Operand.tmp 55), type := 0, pos := "ref.go:486", after := #[{ on := 6, ground := Ground.data }, { on := 7, ground := Ground.data }], guard := none }) (v := ?_) rfl (by kernel_rfl) (by kernel_rfl) (by kernel_rfl) (fun _ _ _ h => h) (Or.inl ⟨by rfl, ?_⟩) (by assumption) ?_
      rotate_left 1
      · ((intro w hSw; (try dsimp only at hSw); go_simp) <;> with_reducible rfl)
      (try simp only [Act.put, List.setIfInBounds_toArray, List.set_cons_zero, List.set_cons_succ])
      refine' wpAnyH_take (i := 9) (oi := { dst := some 57, op := Op.load 37 (Operand.tmp 56), type := 37, pos := "ref.go:486", after := #[{ on := 8, ground := Ground.data }], guard := none }) (v := _) rfl (by kernel_rfl) (by kernel_rfl) (by kernel_rfl) (fun _ _ _ h => h) (yieldsIf_load_mid (by rfl) _ _ rfl _ _ rfl EL _ (fun w hSw => hSw.2.2) Try.underlying37 rfl hS1.out) (by assumption) ?_
      (try simp only [Act.put, List.setIfInBounds_toArray, List.set_cons_zero, List.set_cons_succ])
      refine wpAnyH_take (i := 10) (oi := { dst := some 58, op := Op.binOp BinOp.neq 37 (Operand.tmp 52) (Operand.tmp 57) 37, type := 4, pos := "ref.go:486", after := #[{ on := 4, ground := Ground.data }, { on := 9, ground := Ground.data }], guard := none }) (v := ?_) rfl (by kernel_rfl) (by kernel_rfl) (by kernel_rfl) (fun _ _ _ h => h) (Or.inl ⟨by rfl, ?_⟩) (by assumption) ?_
      rotate_left 1
      · ((intro w hSw; (try dsimp only at hSw); go_simp) <;> with_reducible rfl)
      (try simp only [Act.put, List.setIfInBounds_toArray, List.set_cons_zero, List.set_cons_succ])
      refine wpAnyH_done (by kernel_rfl) ?_ _
      refine NoPanic.normal ?_
      skip
      go_wp2_with fail
      go_roundw
      case rel => exact ⟨k + 1, by go_num, by omega, HId, HJd, HXd, HYd, HBd⟩
      case measure => simp [intOf]; omega
    · have hd : decide ((k : Int) < (n : Int)) = false := by simp; omega
      have hd2 : ¬ k < n := hlt
      go_wp2_with fail
      go_ret
      exact ⟨rfl, HB.out⟩
end Go.Proofs.Ytmcmapgllaopmaa.Cd
