/- The document's Has. -/
import Derived.Test.YtmcmapgllaopmaaCdRTreeN
namespace Go.Proofs.Ytmcmapgllaopmaa.Cd
open Go.RowKit
set_option linter.unusedVariables false

set_option maxRecDepth 100000 in
theorem has_any (A : Option Addr) (n C : Nat) (l : List (List Int)) (p : List Int) (hp : p.length = 32) (w : World) (h : RdIds w A n C l) :
    Calls Try.prog 55 #[.slice A n C, .agg (bv p).toArray] w fun e w' => e = .returned (.bool (decide (p ∈ l))) ∧ Below w.heap.size w w' := by
  have HL := Lib.hid (show (Try.prog.info? 37).map (·.size) = some (bv p).length by rw [bv, List.length_map, hp]; kernel_rfl)
  have HR : Hid ((w.alloc (.cells (bv p).toArray 37)).rangeAt w.heap.size 0 (bv p)) := Lib.hid (fun j v hj => by rw [Nat.zero_add, World.cell?_alloc_new]; simpa using hj)
  have hbA := (Below.refl w.heap.size w).alloc (Nat.le_refl _) (.cells (bv p).toArray 37)
  have HI := Lib.hid (h.below hbA)
  have HB0 := Lib.hid hbA
  have hsz := al_lt w (.cells (bv p).toArray 37)
  have hbig := h.big
  have hcap := h.cap
  have hmax := h.max
  have HP := Lib.hid hp
  clear hbA h hp
  generalize hDP : bv p = DP at *
  have HD := Lib.hid hDP
  clear hDP
  go_enter Try.func55, Try.ntmps55
  go_wp2_with fail
  generalize w.alloc (.cells DP.toArray 37) = w0 at *
  generalize hX : w.heap.size = X at *
  have HX := Lib.hid hX
  clear hX
  go_loopw [5] (fun s wr => ∃ k : Nat, s = .int .i64 k ∧ k ≤ n ∧ Hid (∀ i, i < k → l.getD i [] ≠ p) ∧ Hid (Below w0.heap.size w0 wr)) (fun s _ => n - (intOf s).toNat)
  case atStart => exact ⟨0, rfl, by omega, Lib.hid (fun i hi => absurd hi (by omega)), Lib.hid (Below.refl _ _)⟩
  case round =>
    obtain ⟨k, rfl, hk, HN, HB⟩ := hrel
    by_cases hlt : k < n
    · obtain ⟨g, o, rfl, hg, hc⟩ := HI.out.cell (by omega)
      have hql := HI.out.ids _ (getD_mem (k := k) (by have := HI.out.len; omega))
      have HS2 := Lib.hid (range_below HB.out (hc k hlt) hg)
      have HS1 := Lib.hid (range_below HB.out HR.out hsz)
      have HL2 := Lib.hid (show (Try.prog.info? 37).map (·.size) = some (bv (l.getD k [])).length by rw [bv, List.length_map, hql]; kernel_rfl)
      have heq := fun W => ids_eq (l.getD k []) p hql HP.out W
      rw [HD.out] at heq
      have hk0 : (0 : Int) ≤ (k : Int) := by omega
      have hk1 : (k : Int) < (n : Int) := by omega
      have hkn2 : k < n := hlt
      clear hc hql
      by_cases hpq : l.getD k [] = p
      · rw [decide_eq_true hpq] at heq
        have HM : Hid (decide (p ∈ l) = true) := Lib.hid (decide_eq_true (by rw [← hpq]; exact getD_mem (by have := HI.out.len; omega)))
        clear hpq
        generalize bv (l.getD k []) = DQ at *
        go_wp2_with fail
        refine wp_region_noPanic ?_
        refine wp_region_held_drew (S := (fun wS => wS.rangeAt X 0 DP ∧ wS.rangeAt g (o + k * 32) DQ)) (by kernel_rfl) ?_ (fun hHeld => ?_)
        · ((try dsimp only); exact ⟨HS1.out, HS2.out⟩)
        refine wpAnyH_take (i := 0) (oi := { dst := some 12, op := Op.move (Operand.tmp 0), type := 38, pos := "ref.go:163", after := #[], guard := none }) (v := ?_) rfl (by kernel_rfl) (by kernel_rfl) (by kernel_rfl) (fun _ _ _ h => h) (Or.inl ⟨by rfl, ?_⟩) (by assumption) ?_
        rotate_left 1
        · ((intro w hSw; (try dsimp only at hSw); go_simp) <;> with_reducible rfl)
        (try simp only [Act.put, List.setIfInBounds_toArray, List.set_cons_zero, List.set_cons_succ])
        refine wpAnyH_take (i := 1) (oi := { dst := some 13, op := Op.move (Operand.tmp 5), type := 3, pos := "ref.go:163", after := #[], guard := none }) (v := ?_) rfl (by kernel_rfl) (by kernel_rfl) (by kernel_rfl) (fun _ _ _ h => h) (Or.inl ⟨by rfl, ?_⟩) (by assumption) ?_
        rotate_left 1
        · ((intro w hSw; (try dsimp only at hSw); go_simp) <;> with_reducible rfl)
        (try simp only [Act.put, List.setIfInBounds_toArray, List.set_cons_zero, List.set_cons_succ])
        refine wpAnyH_take (i := 2) (oi := { dst := some 14, op := Op.indexAddr 38 (Operand.tmp 12) (Operand.tmp 13), type := 0, pos := "ref.go:163", after := #[{ on := 0, ground := Ground.data }, { on := 1, ground := Ground.data }], guard := none }) (v := ?_) rfl (by kernel_rfl) (by kernel_rfl) (by kernel_rfl) (fun _ _ _ h => h) (Or.inl ⟨by rfl, ?_⟩) (by assumption) ?_
        rotate_left 1
        · ((intro w hSw; (try dsimp only at hSw); go_simp) <;> with_reducible rfl)
        (try simp only [Act.put, List.setIfInBounds_toArray, List.set_cons_zero, List.set_cons_succ])
        refine' wpAnyH_take (i := 3) (oi := { dst := some 15, op := Op.load 37 (Operand.tmp 14), type := 37, pos := "ref.go:163", after := #[{ on := 2, ground := Ground.data }], guard := none }) (v := _) rfl (by kernel_rfl) (by kernel_rfl) (by kernel_rfl) (fun _ _ _ h => h) (yieldsIf_load_mid (by rfl) _ _ rfl _ _ rfl DQ _ (fun w hSw => hSw.2) Try.underlying37 rfl HL2.out) (by assumption) ?_
        (try simp only [Act.put, List.setIfInBounds_toArray, List.set_cons_zero, List.set_cons_succ])
        refine' wpAnyH_take (i := 4) (oi := { dst := some 16, op := Op.load 37 (Operand.tmp 3), type := 37, pos := "ref.go:163", after := #[], guard := none }) (v := _) rfl (by kernel_rfl) (by kernel_rfl) (by kernel_rfl) (fun _ _ _ h => h) (yieldsIf_load_mid (by rfl) _ _ rfl _ _ rfl DP _ (fun w hSw => hSw.1) Try.underlying37 rfl HL.out) (by assumption) ?_
        (try simp only [Act.put, List.setIfInBounds_toArray, List.set_cons_zero, List.set_cons_succ])
        refine wpAnyH_take (i := 5) (oi := { dst := some 17, op := Op.binOp BinOp.eql 37 (Operand.tmp 15) (Operand.tmp 16) 37, type := 4, pos := "ref.go:163", after := #[{ on := 3, ground := Ground.data }, { on := 4, ground := Ground.data }], guard := none }) (v := ?_) rfl (by kernel_rfl) (by kernel_rfl) (by kernel_rfl) (fun _ _ _ h => h) (Or.inl ⟨by rfl, ?_⟩) (by assumption) ?_
        rotate_left 1
        · ((intro w hSw; (try dsimp only at hSw); go_simp) <;> with_reducible rfl)
        (try simp only [Act.put, List.setIfInBounds_toArray, List.set_cons_zero, List.set_cons_succ])
        refine wpAnyH_done (by kernel_rfl) ?_ _
        refine NoPanic.normal ?_
        skip
        go_wp2_with fail
        go_ret
        rw [HM.out]
        exact ⟨rfl, by rw [HX.out]; exact HB0.out.trans ((HB.out.mono (by omega)).drew)⟩
      · rw [decide_eq_false hpq] at heq
        have HM : Hid (l.getD k [] ≠ p) := Lib.hid (fun e => hpq e)
        clear hpq
        generalize hDQ : bv (l.getD k []) = DQ at *
        clear hDQ
        go_wp2_with fail
        refine wp_region_noPanic ?_
        refine wp_region_held_drew (S := (fun wS => wS.rangeAt X 0 DP ∧ wS.rangeAt g (o + k * 32) DQ)) (by kernel_rfl) ?_ (fun hHeld => ?_)
        · ((try dsimp only); exact ⟨HS1.out, HS2.out⟩)
        refine wpAnyH_take (i := 0) (oi := { dst := some 12, op := Op.move (Operand.tmp 0), type := 38, pos := "ref.go:163", after := #[], guard := none }) (v := ?_) rfl (by kernel_rfl) (by kernel_rfl) (by kernel_rfl) (fun _ _ _ h => h) (Or.inl ⟨by rfl, ?_⟩) (by assumption) ?_
        rotate_left 1
        · ((intro w hSw; (try dsimp only at hSw); go_simp) <;> with_reducible rfl)
        (try simp only [Act.put, List.setIfInBounds_toArray, List.set_cons_zero, List.set_cons_succ])
        refine wpAnyH_take (i := 1) (oi := { dst := some 13, op := Op.move (Operand.tmp 5), type := 3, pos := "ref.go:163", after := #[], guard := none }) (v := ?_) rfl (by kernel_rfl) (by kernel_rfl) (by kernel_rfl) (fun _ _ _ h => h) (Or.inl ⟨by rfl, ?_⟩) (by assumption) ?_
        rotate_left 1
        · ((intro w hSw; (try dsimp only at hSw); go_simp) <;> with_reducible rfl)
        (try simp only [Act.put, List.setIfInBounds_toArray, List.set_cons_zero, List.set_cons_succ])
        refine wpAnyH_take (i := 2) (oi := { dst := some 14, op := Op.indexAddr 38 (Operand.tmp 12) (Operand.tmp 13), type := 0, pos := "ref.go:163", after := #[{ on := 0, ground := Ground.data }, { on := 1, ground := Ground.data }], guard := none }) (v := ?_) rfl (by kernel_rfl) (by kernel_rfl) (by kernel_rfl) (fun _ _ _ h => h) (Or.inl ⟨by rfl, ?_⟩) (by assumption) ?_
        rotate_left 1
        · ((intro w hSw; (try dsimp only at hSw); go_simp) <;> with_reducible rfl)
        (try simp only [Act.put, List.setIfInBounds_toArray, List.set_cons_zero, List.set_cons_succ])
        refine' wpAnyH_take (i := 3) (oi := { dst := some 15, op := Op.load 37 (Operand.tmp 14), type := 37, pos := "ref.go:163", after := #[{ on := 2, ground := Ground.data }], guard := none }) (v := _) rfl (by kernel_rfl) (by kernel_rfl) (by kernel_rfl) (fun _ _ _ h => h) (yieldsIf_load_mid (by rfl) _ _ rfl _ _ rfl DQ _ (fun w hSw => hSw.2) Try.underlying37 rfl HL2.out) (by assumption) ?_
        (try simp only [Act.put, List.setIfInBounds_toArray, List.set_cons_zero, List.set_cons_succ])
        refine' wpAnyH_take (i := 4) (oi := { dst := some 16, op := Op.load 37 (Operand.tmp 3), type := 37, pos := "ref.go:163", after := #[], guard := none }) (v := _) rfl (by kernel_rfl) (by kernel_rfl) (by kernel_rfl) (fun _ _ _ h => h) (yieldsIf_load_mid (by rfl) _ _ rfl _ _ rfl DP _ (fun w hSw => hSw.1) Try.underlying37 rfl HL.out) (by assumption) ?_
        (try simp only [Act.put, List.setIfInBounds_toArray, List.set_cons_zero, List.set_cons_succ])
        refine wpAnyH_take (i := 5) (oi := { dst := some 17, op := Op.binOp BinOp.eql 37 (Operand.tmp 15) (Operand.tmp 16) 37, type := 4, pos := "ref.go:163", after := #[{ on := 3, ground := Ground.data }, { on := 4, ground := Ground.data }], guard := none }) (v := ?_) rfl (by kernel_rfl) (by kernel_rfl) (by kernel_rfl) (fun _ _ _ h => h) (Or.inl ⟨by rfl, ?_⟩) (by assumption) ?_
        rotate_left 1
        · ((intro w hSw; (try dsimp only at hSw); go_simp) <;> with_reducible rfl)
        (try simp only [Act.put, List.setIfInBounds_toArray, List.set_cons_zero, List.set_cons_succ])
        refine wpAnyH_done (by kernel_rfl) ?_ _
        refine NoPanic.normal ?_
        skip
        go_wp2_with fail
        go_roundw
        case rel => exact ⟨k + 1, by go_num, by omega, Lib.hid (fun i hi => by
          rcases Nat.lt_or_ge i k with h1 | h1
          · exact HN.out i h1
          · rw [show i = k by omega]; exact HM.out), Lib.hid (HB.out.drew)⟩
        case measure => simp [intOf]; omega
    · have hkn : k = n := by omega
      have hd : decide ((k : Int) < (n : Int)) = false := by simp; omega
      have hd2 : ¬ k < n := hlt
      go_wp2_with fail
      go_ret
      have hno : decide (p ∈ l) = false := decide_eq_false (fun hm => ?_)
      · rw [hno]
        exact ⟨rfl, by rw [HX.out]; exact HB0.out.trans (HB.out.mono (by omega))⟩
      · obtain ⟨i, hi, e⟩ := List.mem_iff_getElem.1 hm
        refine HN.out i (by have := HI.out.len; omega) ?_
        rw [List.getD_eq_getElem?_getD, List.getElem?_eq_getElem hi]; exact e
end Go.Proofs.Ytmcmapgllaopmaa.Cd
