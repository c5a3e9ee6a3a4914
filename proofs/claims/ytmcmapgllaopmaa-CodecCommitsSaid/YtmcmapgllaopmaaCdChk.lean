/- codec.checkCommit at any commit. -/
import Derived.Test.YtmcmapgllaopmaaCdRPc
namespace Go.Proofs.Ytmcmapgllaopmaa.Cd
open Go.RowKit
set_option linter.unusedVariables false

/-- why some parents may not stand behind others -/
def pwF : List (List Int) → List (List Int) → Int
  | _, [] => 0
  | ahead, p :: r => if cp p ahead = 0 then pwF (ahead ++ [p]) r else cp p ahead
/-- why a commit may not be -/
def wE (tr : List Int) (ids : List (List Int)) (au ms : ByteArray) : Int :=
  if tr = List.replicate 32 0 then 1 else if 8 < ids.length then 4 else if pwF [] ids = 0 then (if 1000 < au.size ∨ 1000 < ms.size then 5 else 0) else pwF [] ids
theorem pwF_step (ids : List (List Int)) (k : Nat) (hk : k < ids.length) : pwF (ids.take k) (ids.drop k) = if cp (ids.getD k []) (ids.take k) = 0 then pwF (ids.take (k + 1)) (ids.drop (k + 1)) else cp (ids.getD k []) (ids.take k) := by
  have hx : ids.getD k [] = ids[k] := by simp [List.getD, hk]
  rw [List.drop_eq_getElem_cons hk, pwF, ← hx, List.take_succ_eq_append_getElem hk, ← hx]
theorem RdIds.take {w : World} {A : Option Addr} {n C : Nat} {l : List (List Int)} (h : RdIds w A n C l) (k : Nat) (hk : k ≤ n) : RdIds w A k C (l.take k) :=
  ⟨by have := h.cap; omega, h.max, by have := h.big; omega, by rw [List.length_take, h.len]; omega, fun x hx => h.ids x (List.mem_of_mem_take hx), fun h0 => by
    obtain ⟨g, o, h1, h2, h3⟩ := h.cell (by omega)
    refine ⟨g, o, h1, h2, fun i hi => ?_⟩
    have : (l.take k).getD i [] = l.getD i [] := by simp [List.getD, hi]
    rw [this]
    exact h3 i (by omega)⟩
/-- a commit's own cells -/
theorem cm_row (w : World) (tr : List Int) (ps : Value) (au : ByteArray) (tm : Int) (ms : ByteArray) (hl : tr.length = 32) : (w.alloc (.cells (cm tr ps au tm ms).toArray 40)).rowIs w.heap.size 40 36 (cmF tr ps au tm ms) := by
  have hr := row_new w (cm tr ps au tm ms).toArray 40
  have hs : (cm tr ps au tm ms).toArray.size = 36 := by rw [List.size_toArray, cm_len _ _ _ _ _ hl]
  rw [hs] at hr
  exact hr.congr (fun j hj => by
    have := cm_get tr ps au tm ms hl j hj
    simp [this])
theorem cm_tree {w : World} {X : Nat} {tr : List Int} {ps : Value} {au : ByteArray} {tm : Int} {ms : ByteArray} (h : w.rowIs X 40 36 (cmF tr ps au tm ms)) (hl : tr.length = 32) : w.rangeAt X 0 (bv tr) := fun j v hj => by
  have hl2 := (List.getElem?_eq_some_iff.1 hj).1
  have hl3 : j < 32 := by rw [bv_len, hl] at hl2; exact hl2
  rw [Nat.zero_add, h.cell (show j < 36 by omega), cmF, if_neg (by omega), if_neg (by omega), if_neg (by omega), if_neg (by omega), ← hj]
  simp [bv, List.getD, show j < tr.length by omega]
theorem row_drew {w : World} {b : Nat} {t : TypeId} {n : Nat} {f : Nat → Value} (h : w.rowIs b t n f) : w.drew.rowIs b t n f := h

set_option maxRecDepth 100000 in
set_option maxHeartbeats 2000000 in
theorem checkCommit_any (tr : List Int) (hl : tr.length = 32) (A : Option Addr) (n C : Nat) (ids : List (List Int)) (au : ByteArray) (tm : Int) (ms : ByteArray) (w : World) (h : RdIds w A n C ids) :
    Calls Try.prog 50 #[.agg (cm tr (.slice A n C) au tm ms).toArray] w fun e w' => e = .returned (.int .i64 (wE tr ids au ms)) ∧ Below w.heap.size w w' := by
  have hX := cm_row w tr (.slice A n C) au tm ms hl
  have hb0 := (Below.refl w.heap.size w).alloc (Nat.le_refl _) (.cells (cm tr (.slice A n C) au tm ms).toArray 40)
  have HI := Lib.hid (h.below hb0)
  have HB := Lib.hid hb0
  have HX := Lib.hid hX
  have hsX := hX.lt
  have HRg := Lib.hid (cm_tree hX hl)
  have HSz := Lib.hid (show (Try.prog.info? 37).map (·.size) = some (bv tr).length by rw [bv_len, hl]; kernel_rfl)
  have hq : ∀ W, (Op.equalIn 10000 37 (.agg (bv tr).toArray) (.agg (bv (List.replicate 32 0)).toArray)).run Try.prog W = .ok (decide (tr = List.replicate 32 0)) W := fun W => ids_none tr hl W
  have hz32 := zero32
  have hcap := h.cap
  have hmax := h.max
  have hbig := h.big
  have HLn := Lib.hid h.len
  have hw0 := wE tr ids au ms
  clear hw0
  have HW := Lib.hid (show wE tr ids au ms = if tr = List.replicate 32 0 then 1 else if 8 < ids.length then 4 else if pwF [] ids = 0 then (if 1000 < au.size ∨ 1000 < ms.size then 5 else 0) else pwF [] ids from rfl)
  clear hX hb0 h
  generalize hZI : (bv (List.replicate 32 0)).toArray = ZI at *
  have HZI := Lib.hid hZI
  clear hZI
  have hZl : ZI.size = 32 := by rw [← HZI.out]; simp [bv]
  have HZl := Lib.hid hZl
  clear hZl
  have hc32 : (w.alloc (.cells (cm tr (.slice A n C) au tm ms).toArray 40)).cell? ⟨w.heap.size, 32, none⟩ = some (.slice A n C) := HX.out.cell (i := 32) (by omega)
  have hc33 : (w.alloc (.cells (cm tr (.slice A n C) au tm ms).toArray 40)).cell? ⟨w.heap.size, 33, none⟩ = some (.string au) := HX.out.cell (i := 33) (by omega)
  have hc35 : (w.alloc (.cells (cm tr (.slice A n C) au tm ms).toArray 40)).cell? ⟨w.heap.size, 35, none⟩ = some (.string ms) := HX.out.cell (i := 35) (by omega)
  generalize hCM : cm tr (.slice A n C) au tm ms = CM at *
  clear hCM
  generalize hDI : bv tr = DI at *
  clear hDI
  go_enter Try.func50, Try.ntmps50
  have hag : (Value.agg CM.toArray).cells = CM.toArray := rfl
  go_upto_region 1 with (fail)
  generalize w.alloc (.cells CM.toArray 40) = w1 at *
  obtain ⟨X, hX⟩ : ∃ X, X = w.heap.size := ⟨_, rfl⟩
  rw [← hX] at HX HRg hsX hc32 hc33 hc35 HB ⊢
  have HXw := Lib.hid hX
  clear hX
  by_cases hz0 : tr = List.replicate 32 0
  · rw [decide_eq_true hz0] at hq
    have hw := HW.out
    rw [if_pos hz0] at hw
    have HW3 := Lib.hid hw
    clear hz0 HW hw
    go_wp2_with (refine wpList_load_mid rfl _ _ rfl X 0 rfl DI _ HRg.out Try.underlying37 rfl HSz.out ?_)
    go_ret
    exact ⟨by rw [HW3.out]; rfl, by rw [← HXw.out]; exact HB.out⟩
  · rw [decide_eq_false hz0] at hq
    by_cases h8 : 8 < n
    · have hw := HW.out
      rw [if_neg hz0, if_pos (by rw [HLn.out]; exact h8)] at hw
      have hd : decide ((8 : Int) < (n : Int)) = true := by simp; omega
      have HW3 := Lib.hid hw
      clear hz0 HW hw
      go_wp2_with (refine wpList_load_mid rfl _ _ rfl X 0 rfl DI _ HRg.out Try.underlying37 rfl HSz.out ?_)
      go_ret
      exact ⟨by rw [HW3.out]; rfl, by rw [← HXw.out]; exact HB.out⟩
    · have hw := HW.out
      rw [if_neg hz0, if_neg (by rw [HLn.out]; exact h8)] at hw
      have HW2 := Lib.hid hw
      have hd : decide ((8 : Int) < (n : Int)) = false := by simp; omega
      clear hz0 HW hw
      go_wp2_with (refine wpList_load_mid rfl _ _ rfl X 0 rfl DI _ HRg.out Try.underlying37 rfl HSz.out ?_)
      clear hc32 hc33 hc35 hq HRg
      go_loopw [19] (fun s wr => ∃ k : Nat, s = .int .i64 k ∧ k ≤ n ∧ Hid (pwF (ids.take k) (ids.drop k) = pwF [] ids) ∧ Hid (RdIds wr A n C ids) ∧ Hid (wr.rowIs X 40 36 (cmF tr (.slice A n C) au tm ms)) ∧ Hid (Below X w wr)) (fun s _ => n - (intOf s).toNat)
      case atStart => exact ⟨0, rfl, Nat.zero_le _, Lib.hid rfl, HI, HX, HB⟩
      case round =>
        clear HI HX HB
        obtain ⟨k, rfl, hk, HF, HI, HX, HB⟩ := hrel
        have hXw : X < wr.heap.size := HX.out.lt
        by_cases hlt : k < n
        · obtain ⟨g, o, rfl, hg, hc⟩ := HI.out.cell (by omega)
          have hst := pwF_step ids k (by have := HLn.out; omega)
          rw [HF.out] at hst
          have hpl := HI.out.ids _ (getD_mem (k := k) (by have := HLn.out; omega))
          have hpr := hc k hlt
          obtain ⟨p, hp⟩ : ∃ p, p = ids.getD k [] := ⟨_, rfl⟩
          rw [← hp] at hst hpl hpr
          have Hpl := Lib.hid hpl
          have HSt := Lib.hid hst
          have HPr := Lib.hid hpr
          have HES : Hid ((Try.prog.info? 37).map (·.size) = some (bv p).length) := Lib.hid (by rw [bv_len, hpl]; kernel_rfl)
          have hyr := row_new wr ZI 37
          rw [HZl.out] at hyr
          have HTh : Hid ((wr.alloc (.cells ZI 37)).there wr.heap.size 0 (bv p).toArray.size) := Lib.hid (fun j hj => by
            rw [List.size_toArray, bv_len, hpl] at hj
            rw [Nat.zero_add]
            exact ⟨by rw [hyr.cell hj]; rfl, hyr.frozen _⟩)
          have HSz2 : Hid ((Try.prog.info? 37).map (·.size) = some (bv p).toArray.size) := Lib.hid (by rw [List.size_toArray]; exact HES.out)
          have HOne := Lib.hid (all_oneCell_toArray (bv_one p))
          have HRy : Hid (((wr.alloc (.cells ZI 37)).setCells wr.heap.size 0 (bv p)).rangeAt wr.heap.size 0 (bv p)) := Lib.hid (World.rangeAt_setCells_same _ _ _ _ (by have := HTh.out; rwa [List.size_toArray] at this))
          have hb4 := below_cells (Nat.le_refl wr.heap.size) (bv p) 0 _ ((Below.refl wr.heap.size wr).alloc (Nat.le_refl _) (.cells ZI 37))
          have HI4 := Lib.hid (HI.out.below hb4)
          have HX4 := Lib.hid (World.rowIs.of_block HX.out (hb4.block X hXw))
          have HB4 := Lib.hid (HB.out.trans (hb4.mono (Nat.le_of_lt hXw)))
          have hYs : wr.heap.size < ((wr.alloc (.cells ZI 37)).setCells wr.heap.size 0 (bv p)).heap.size := HRy.out.lt_of (by rw [bv_len, hpl]; decide)
          have hk0 : (0 : Int) ≤ (k : Int) := by omega
          have hk1 : (k : Int) < (n : Int) := by omega
          have hkC : k ≤ C := by omega
          have hkC2 : (k : Int) ≤ (C : Int) := by omega
          clear hyr hb4 hst hpl hpr hp hc HF HI HX HB hg
          go_upto_region 8 with (first
            | (refine wpList_load_mid rfl _ _ rfl g (o + k * 32) rfl (bv p) _ HPr.out Try.underlying37 rfl HES.out ?_)
            | (refine wpList_store_mid rfl _ _ _ rfl wr.heap.size 0 (bv p).toArray rfl rfl HTh.out HSz2.out HOne.out ?_))
          change Code.wp _ _ _ _ ((wr.alloc (.cells ZI 37)).setCells wr.heap.size 0 (bv p))
          clear HTh HSz2 HOne HPr
          generalize (wr.alloc (.cells ZI 37)).setCells wr.heap.size 0 (bv p) = w4 at *
          generalize wr.heap.size = Y at *
          have HIt : Hid (RdIds w4.drew (some ⟨g, o, none⟩) k C (ids.take k)) := Lib.hid (by
            have h := HI4.out.take k hk
            exact ⟨h.cap, h.max, h.big, h.len, h.ids, h.cell⟩)
          have dX := Lib.hid ((World.rangeAt_drew _ _ _ _).2 HRy.out)
          have dR := Lib.hid (row_drew HX4.out)
          have dI : Hid (RdIds w4.drew (some ⟨g, o, none⟩) n C ids) := Lib.hid ⟨HI4.out.cap, HI4.out.max, HI4.out.big, HI4.out.len, HI4.out.ids, HI4.out.cell⟩
          have dB := Lib.hid HB4.out.drew
          have dC : Hid (w4.drew.cell? ⟨X, 32, none⟩ = some (.slice (some ⟨g, o, none⟩) n C)) := Lib.hid (dR.out.cell (i := 32) (by omega))
          have hYd : Y < w4.drew.heap.size := hYs
          clear HI4 HX4 HB4 HRy hYs
          refine wp_region_noPanic ?_
          refine wp_region_held_drew (S := (fun wS => wS.rangeAt Y 0 (bv p) ∧ wS.cell? ⟨X, 32, none⟩ = some (.slice (some ⟨g, o, none⟩) n C))) (by kernel_rfl) ?_ (fun hHeld => ?_)
          · ((try dsimp only); exact ⟨dX.out, dC.out⟩)
          refine' wpAnyH_take (i := 0) (oi := { dst := some 24, op := Op.load 37 (Operand.tmp 4), type := 37, pos := "commit.go:32", after := #[], guard := none }) (v := _) rfl (by kernel_rfl) (by kernel_rfl) (by kernel_rfl) (fun _ _ _ h => h) (yieldsIf_load_mid (by rfl) _ _ rfl _ _ rfl (bv p) _ (fun w hSw => hSw.1) Try.underlying37 rfl HES.out) (by assumption) ?_
          (try simp only [Act.put, List.setIfInBounds_toArray, List.set_cons_zero, List.set_cons_succ])
          refine wpAnyH_take (i := 1) (oi := { dst := some 25, op := Op.fieldAddr 40 (Operand.tmp 1) 1, type := 0, pos := "commit.go:32", after := #[], guard := none }) (v := ?_) rfl (by kernel_rfl) (by kernel_rfl) (by kernel_rfl) (fun _ _ _ h => h) (Or.inl ⟨by rfl, ?_⟩) (by assumption) ?_
          rotate_left 1
          · ((intro w hSw; (try dsimp only at hSw); go_simp) <;> with_reducible rfl)
          (try simp only [Act.put, List.setIfInBounds_toArray, List.set_cons_zero, List.set_cons_succ])
          refine wpAnyH_take (i := 2) (oi := { dst := some 26, op := Op.load 38 (Operand.tmp 25), type := 38, pos := "commit.go:32", after := #[{ on := 1, ground := Ground.data }], guard := none }) (v := ?_) rfl (by kernel_rfl) (by kernel_rfl) (by kernel_rfl) (fun _ _ _ h => h) (Or.inl ⟨by rfl, ?_⟩) (by assumption) ?_
          rotate_left 1
          · ((intro w hSw; (try dsimp only at hSw); go_simp) <;> with_reducible rfl)
          (try simp only [Act.put, List.setIfInBounds_toArray, List.set_cons_zero, List.set_cons_succ])
          refine wpAnyH_take (i := 3) (oi := { dst := some 27, op := Op.move (Operand.tmp 3), type := 3, pos := "commit.go:32", after := #[], guard := none }) (v := ?_) rfl (by kernel_rfl) (by kernel_rfl) (by kernel_rfl) (fun _ _ _ h => h) (Or.inl ⟨by rfl, ?_⟩) (by assumption) ?_
          rotate_left 1
          · ((intro w hSw; (try dsimp only at hSw); go_simp) <;> with_reducible rfl)
          (try simp only [Act.put, List.setIfInBounds_toArray, List.set_cons_zero, List.set_cons_succ])
          refine wpAnyH_take (i := 4) (oi := { dst := some 28, op := Op.slice 38 (Operand.tmp 26) none (some (Operand.tmp 27)) none, type := 38, pos := "commit.go:32", after := #[{ on := 2, ground := Ground.data }, { on := 3, ground := Ground.data }], guard := none }) (v := ?_) rfl (by kernel_rfl) (by kernel_rfl) (by kernel_rfl) (fun _ _ _ h => h) (Or.inl ⟨by rfl, ?_⟩) (by assumption) ?_
          rotate_left 1
          · ((intro w hSw; (try dsimp only at hSw); go_simp) <;> with_reducible rfl)
          (try simp only [Act.put, List.setIfInBounds_toArray, List.set_cons_zero, List.set_cons_succ])
          refine wpAnyH_ready (rs := [5]) (by kernel_rfl) (by simp) ?_
          refine AllReadyH.cons (o := { dst := some 29, op := Op.call { callee := Callee.value (Operand.func 87), args := #[Operand.tmp 24, Operand.tmp 28], argTypes := #[37, 38] }, type := 25, pos := "commit.go:32", after := #[{ on := 0, ground := Ground.data }, { on := 4, ground := Ground.data }], guard := none }) rfl (fun K hK => ?_) ?_
          · go_simp
            refine (parent_any p Hpl.out (some ⟨g, o, none⟩) k C (ids.take k) _ HIt.out).mono ?_
            rintro e w7 ⟨rfl, hb7⟩
            have eX := Lib.hid (range_below hb7 dX.out hYd)
            have eR := Lib.hid (World.rowIs.of_block dR.out (hb7.block X dR.out.lt))
            have eI := Lib.hid (dI.out.below hb7)
            have eB := Lib.hid (dB.out.trans (hb7.mono (Nat.le_of_lt dR.out.lt)))
            have eC : Hid (w7.cell? ⟨X, 32, none⟩ = some (.slice (some ⟨g, o, none⟩) n C)) := Lib.hid (eR.out.cell (i := 32) (by omega))
            clear dX dR dI dB dC hb7 hYd
            have dX := eX
            have dR := eR
            have dI := eI
            have dB := eB
            have dC := eC
            clear eX eR eI eB eC
            (try go_wp2_with fail)
            refine hK.out _ _ ?_ (fun hNew => ?_)
            · ((try dsimp only); exact ⟨dX.out, dC.out⟩)
            clear hK K hHeld
            have hHeld := hNew
            clear hNew
            (try simp only [Act.put, List.setIfInBounds_toArray, List.set_cons_zero, List.set_cons_succ])
            refine wpAnyH_take (i := 6) (oi := { dst := some 5, op := Op.assign (Operand.tmp 29), type := 25, pos := "commit.go:32", after := #[{ on := 5, ground := Ground.data }, { on := 5, ground := Ground.chain }, { on := 0, ground := Ground.phase }, { on := 1, ground := Ground.phase }, { on := 2, ground := Ground.phase }, { on := 3, ground := Ground.phase }, { on := 4, ground := Ground.phase }, { on := 5, ground := Ground.phase }], guard := none }) (v := ?_) rfl (by kernel_rfl) (by kernel_rfl) (by kernel_rfl) (fun _ _ _ h => h) (Or.inl ⟨by rfl, ?_⟩) (by assumption) ?_
            rotate_left 1
            · ((intro w hSw; (try dsimp only at hSw); go_simp) <;> with_reducible rfl)
            (try simp only [Act.put, List.setIfInBounds_toArray, List.set_cons_zero, List.set_cons_succ])
            refine wpAnyH_done (by kernel_rfl) ?_ _
            refine NoPanic.normal ?_
            clear hHeld
            obtain ⟨E, hE⟩ : ∃ E, E = cp p (ids.take k) := ⟨_, rfl⟩
            have hst := HSt.out
            rw [← hE] at hst ⊢
            by_cases h0 : E = 0
            · have hE0 : (E != 0) = false := by simp [h0]
              rw [if_pos h0] at hst
              have HF2 := Lib.hid hst.symm
              clear hE hst h0 HSt dX dC
              go_wp2_with fail
              go_roundw
              case rel => exact ⟨k + 1, by go_num, by omega, HF2, dI, dR, dB⟩
              case measure => simp [intOf]; omega
            · have hE0 : (E != 0) = true := by simp [h0]
              rw [if_neg h0] at hst
              have hw := HW2.out
              rw [if_neg (by rw [hst]; exact h0), hst] at hw
              have HW3 := Lib.hid hw
              clear hE hst h0 HSt dX dC HW2 hw
              go_wp2_with fail
              go_ret
              exact ⟨by rw [HW3.out]; rfl, by rw [← HXw.out]; exact dB.out⟩
          exact AllReadyH.nil
        · have ek : k = n := by omega
          have hd2 : decide ((k : Int) < (n : Int)) = false := by simp; omega
          have hp0 : pwF [] ids = 0 := by
            rw [← HF.out, ek, List.drop_of_length_le (by rw [HLn.out]; omega)]
            cases ids.take n <;> rfl
          have hw := HW2.out
          rw [if_pos hp0] at hw
          have hc33 : wr.cell? ⟨X, 33, none⟩ = some (.string au) := HX.out.cell (i := 33) (by omega)
          have hc35 : wr.cell? ⟨X, 35, none⟩ = some (.string ms) := HX.out.cell (i := 35) (by omega)
          have HW3 := Lib.hid hw
          clear hp0 HF HI HX ek HW2 hw
          by_cases ha : 1000 < au.size
          · have hda : decide ((1000 : Int) < (au.size : Int)) = true := by simp; omega
            have HA := Lib.hid ha
            clear ha
            go_wp2_with fail
            go_ret
            exact ⟨by rw [HW3.out, if_pos (.inl HA.out)]; rfl, by rw [← HXw.out]; exact HB.out⟩
          · have hda : decide ((1000 : Int) < (au.size : Int)) = false := by simp; omega
            by_cases hm : 1000 < ms.size
            · have hdm : decide ((1000 : Int) < (ms.size : Int)) = true := by simp; omega
              have HM := Lib.hid hm
              clear hm
              go_wp2_with fail
              go_ret
              exact ⟨by rw [HW3.out, if_pos (.inr HM.out)]; rfl, by rw [← HXw.out]; exact HB.out⟩
            · have hdm : decide ((1000 : Int) < (ms.size : Int)) = false := by simp; omega
              have HN := Lib.hid (show ¬ (1000 < au.size ∨ 1000 < ms.size) from fun h => h.elim ha hm)
              clear ha hm
              go_wp2_with fail
              go_ret
              exact ⟨by rw [HW3.out, if_neg HN.out]; rfl, by rw [← HXw.out]; exact HB.out⟩
end Go.Proofs.Ytmcmapgllaopmaa.Cd
