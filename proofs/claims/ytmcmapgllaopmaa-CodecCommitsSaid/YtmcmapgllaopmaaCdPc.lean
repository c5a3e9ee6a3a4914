/- ParseCommit of any bytes. -/
import Derived.Test.YtmcmapgllaopmaaCdCommit
namespace Go.Proofs.Ytmcmapgllaopmaa.Cd
open Go.RowKit
set_option linter.unusedVariables false

theorem results_cell2 {P : Program} {fn : Func} {p q : Tmp} {ty : TypeId} (h : fn.results = #[.cell p ty, .tmp q]) (tmps : Array Value) (w : World) (g : Nat) (t : TypeId) (cs : Array Value) (fr : Nat × Nat) (d : TypeDesc)
    (hp : tmps.getD p undef = .pointer (some ⟨g, 0, none⟩)) (hg : w.heap[g]? = some (.cells cs t fr))
    (hu : P.underlying ty = some d) (hd : (match d with | .struct _ | .array _ _ => true | _ => false) = true) (hi : (P.info? ty).map (·.size) = some cs.size) (v : Value) (hv : tmps.getD q undef = v) :
    (results fn tmps).run P w = .ok (.tuple #[.agg cs, v]) w := by
  have hp' : tmps[p]?.getD undef = .pointer (some ⟨g, 0, none⟩) := by simpa using hp
  have hv' : tmps[q]?.getD undef = v := by simpa using hv
  simp [results, h, hp', hv', asAddr, run_loadVar_row w g t ty cs fr d hg hu hd hi]

/-- no commit -/
def cm0 : List Value := cm (List.replicate 32 0) (.slice none 0 0) ByteArray.empty 0 ByteArray.empty

/-- what ParseCommit hands back -/
def PcRet (l : List Int) (L : Nat) (w : World) (e : Ending) (w' : World) : Prop :=
  Below w.heap.size w w' ∧
  ((cF7 0 l 0 L ≠ 0 ∧ e = .returned (.tuple #[.agg cm0.toArray, .int .i64 (cF7 0 l 0 L)])) ∨
   (cF7 0 l 0 L = 0 ∧ (∀ x ∈ (cQ 0 l 0 L).2.2, x.length = 32) ∧ ∃ Ai Ci, e = .returned (.tuple #[.agg (cm (cT 0 l 0 L) (.slice Ai (cQ 0 l 0 L).2.2.length Ci) (cAu 0 l 0 L) (tv (cB 0 l 0 L)) (cMs 0 l 0 L)).toArray, .int .i64 0]) ∧ w'.ownsRow w.heap.size 37 32 (.slice Ai (cQ 0 l 0 L).2.2.length Ci) (cQ 0 l 0 L).2.2.length (idsV (cQ 0 l 0 L).2.2)))

theorem step_store_mid {ops : Array Oper} {o : Oper} {a : Act} {w : World} {K : Act → World → Prop} {Q : Exit → Act → World → Prop} {E : Prop} (hgd : o.guard = none) (ty : TypeId) (x y : Operand) (ho : o.op = .store ty x y)
    (b off : Nat) (cells : Array Value) (hx : a.eval x = .pointer (some ⟨b, off, none⟩)) (hy : a.eval y = .agg cells)
    (ht : w.there b off cells.size) (hi : (Try.prog.info? ty).map (·.size) = some cells.size) (h1 : cells.all (·.oneCell') = true)
    (h : K (a.put o.dst undef) (w.setCells b off cells.toList)) : if Region.wanted o (yielded ops a.tmps) = true then Oper.wp Try.prog o a w K Q else E := by
  have hw : Region.wanted o (yielded ops a.tmps) = true := by simp [Region.wanted, hgd]
  rw [if_pos hw]
  exact wp_store_mid ty x y ho b off cells hx hy ht hi h1 h

/-- a pointer's block's cells, all of them, stored: what the store and the result ask -/
structure Fin (w0 : World) (B : Nat) (w : World) (O : Nat) (ty : TypeId) (D : List Value) : Prop where
  there : w.there O 0 D.toArray.size
  size : (Try.prog.info? ty).map (·.size) = some D.toArray.size
  one : D.toArray.all (·.oneCell') = true
  stored : (w.setCells O 0 D).heap[O]? = some (.cells D.toArray ty (0, 0))
  bel : Below B w0 (w.setCells O 0 D)
theorem below_cells {B O : Nat} {w0 : World} (hO : B ≤ O) : ∀ (vs : List Value) (o : Nat) (w : World), Below B w0 w → Below B w0 (w.setCells O o vs)
  | [], _, _, h => h
  | v :: vs, o, w, h => below_cells hO vs (o + 1) _ (h.setCell (p := ⟨O, o, none⟩) hO v)
theorem Fin.mk' {w0 w : World} {B O : Nat} {D : List Value} {f : Nat → Value} (hl : D.length = 36) (h1 : ∀ v ∈ D, v.oneCell' = true) (hr : w.rowIs O 40 36 f) (hb : Below B w0 w) (hO : B ≤ O) : Fin w0 B w O 40 D :=
  ⟨fun j hj => by
    rw [List.size_toArray, hl] at hj
    rw [Nat.zero_add]
    exact ⟨by rw [hr.cell hj]; rfl, hr.frozen _⟩, by rw [List.size_toArray, hl]; kernel_rfl, all_oneCell_toArray h1, row_stored hr D hl, below_cells hO D 0 w hb⟩
theorem _root_.Go.World.rangeAt.lt_of {w : World} {b o : Nat} {cs : List Value} (h : w.rangeAt b o cs) (h0 : 0 < cs.length) : b < w.heap.size := by
  obtain ⟨v, hv⟩ : ∃ v, cs[0]? = some v := ⟨cs[0], List.getElem?_eq_getElem h0⟩
  have := h 0 v hv
  exact block_lt_of_cell this
theorem cm0_len : cm0.length = 36 := by simp [cm0, cm, bv]
theorem cm0_one : ∀ v ∈ cm0, v.oneCell' = true := cm_one _ _ _ _ _ rfl

set_option maxRecDepth 100000 in
set_option maxHeartbeats 2000000 in
theorem parseCommit_any (A : Option Addr) (L C : Nat) (l : List Int) (w : World) (h : RdB w A L C l) :
    Calls Try.prog 19 #[.slice A L C] w (PcRet l L w) := by
  have hz : ∀ w : World, (zeroValue 40).run Try.prog w = .ok (.agg cm0.toArray) w := zeroCm
  have hZl : cm0.toArray.size = 36 := by rw [List.size_toArray, cm0_len]
  have HZ0 := Lib.hid (show cm0.toArray.toList = cm0 by simp)
  generalize hZC : cm0.toArray = ZC at *
  have HZC := Lib.hid hZC
  have HZl := Lib.hid hZl
  have HRd := Lib.hid h
  have HB0 := Lib.hid (Below.refl w.heap.size w)
  clear hZl h hZC
  go_enter Try.func19, Try.ntmps19
  go_upto_region 1 with (fail)
  have hro := row_new w ZC 40
  rw [HZl.out] at hro
  have HO1 := Lib.hid hro
  have hX1 : (w.alloc (.cells ZC 40)).heap.size = w.heap.size + 1 := by show (w.heap.push _).size = _; simp
  have HB1 := Lib.hid (HB0.out.alloc (Nat.le_refl _) (.cells ZC 40))
  have HRd1 := Lib.hid (HRd.out.below HB1.out)
  have HLt : Hid (∀ x, A = some x → 0 < L → x.block < w.heap.size) := Lib.hid (fun x hx h0 => (HRd.out.cell x hx).1 h0)
  clear hro HB0 HRd
  generalize w.alloc (.cells ZC 40) = w1 at *
  go_upto_region 2 with (fail)
  have HB2 := Lib.hid (HB1.out.alloc (show w.heap.size ≤ w1.heap.size by omega) (.cells #[.slice A L C, .int .i64 0, .int .i64 0] 110))
  have HO2 := Lib.hid (World.rowIs.alloc HO1.out (.cells #[.slice A L C, .int .i64 0, .int .i64 0] 110))
  have hr2 := row_new w1 #[.slice A L C, .int .i64 0, .int .i64 0] 110
  have HR2 : Hid (Rdr (w1.alloc (.cells #[.slice A L C, .int .i64 0, .int .i64 0] 110)) w1.heap.size 3 110 A L C l 0 0 (fun _ => undef)) := Lib.hid ⟨hr2.congr (fun j hj => by
      match j, hj with
      | 0, _ => rfl
      | 1, _ => rfl
      | 2, _ => rfl), by decide, HRd1.out.below ((Below.refl w1.heap.size w1).alloc (Nat.le_refl _) _), fun x hx h0 => by have := HLt.out x hx h0; omega, Nat.zero_le _⟩
  clear hr2 HO1 HB1 HRd1
  obtain ⟨R, hR⟩ : ∃ R, R = w.heap.size + 1 := ⟨_, rfl⟩
  obtain ⟨O, hO⟩ : ∃ O, O = w.heap.size := ⟨_, rfl⟩
  rw [hX1, ← hR] at HR2
  rw [← hR]
  rw [← hO] at HO2 HLt ⊢
  have hRO : O < R := by omega
  clear hX1
  generalize w1.alloc (.cells #[.slice A L C, .int .i64 0, .int .i64 0] 110) = w2 at *
  have HOw := Lib.hid hO
  clear hR hO
  have HCm := Lib.hid (commit_r R A L C l 0 0 (fun _ => undef) w2 HR2.out)
  have hRs := HR2.out.row.lt
  clear HR2
  go_wp2_with fail
  refine HCm.out.mono ?_
  rintro e w3 ⟨h32, hR3, hg3, Ai, Ci, rfl, ho3⟩
  have HB3 : Hid (Below w.heap.size w w3) := Lib.hid (HB2.out.grown hg3 (by have := HOw.out; omega) (fun k hk => by have := Option.some.inj hk; have := HOw.out; omega))
  have HO3 := Lib.hid (World.rowIs.of_block HO2.out (hg3.block O HO2.out.lt (fun e => by have := Option.some.inj e; omega)))
  have hw2 : w2.heap.size ≤ w3.heap.size := hg3.size
  obtain ⟨q, hq⟩ : ∃ q, q = cQ 0 l 0 L := ⟨_, rfl⟩
  obtain ⟨F, hF⟩ : ∃ F, F = cF7 0 l 0 L := ⟨_, rfl⟩
  rw [← hF] at hR3
  have HQ := Lib.hid hq
  rw [← hq] at h32 ho3 ⊢
  have hcl : (cm (cT 0 l 0 L) (.slice Ai q.2.2.length Ci) (cAu 0 l 0 L) (tv (cB 0 l 0 L)) (cMs 0 l 0 L)).length = 36 := cm_len _ _ _ _ _ (by
    unfold cT
    refine idv_len _ ?_
    unfold tkL
    split
    · rw [List.length_take]; omega
    · simp)
  have hco := cm_one (cT 0 l 0 L) (.slice Ai q.2.2.length Ci) (cAu 0 l 0 L) (tv (cB 0 l 0 L)) (cMs 0 l 0 L) rfl
  generalize hCM : cm (cT 0 l 0 L) (.slice Ai q.2.2.length Ci) (cAu 0 l 0 L) (tv (cB 0 l 0 L)) (cMs 0 l 0 L) = CM at *
  have HCM := Lib.hid hCM
  have H32 := Lib.hid h32
  have hxr := row_new w3 ZC 40
  rw [HZl.out] at hxr
  have hb4 := HB3.out.alloc (show w.heap.size ≤ w3.heap.size by have := HOw.out; omega) (.cells ZC 40)
  have hb34 := (Below.refl w3.heap.size w3).alloc (Nat.le_refl _) (.cells ZC 40)
  have HFx := Lib.hid (Fin.mk' hcl hco hxr hb4 (show w.heap.size ≤ w3.heap.size by have := HOw.out; omega))
  have HXr : Hid (((w3.alloc (.cells ZC 40)).setCells w3.heap.size 0 CM).rangeAt w3.heap.size 0 CM) := Lib.hid (World.rangeAt_setCells_same _ _ _ _ (by have := HFx.out.there; rwa [List.size_toArray] at this))
  have HO4 := Lib.hid (row_apart (b := O) (E := w3.heap.size) (by have := HO3.out.lt; omega) CM 0 _ (HO3.out.alloc (.cells ZC 40)))
  have HR4 := Lib.hid (Rdr.laid (X := w3.heap.size) (by omega) CM 0 _ (fun x hx h0 => by have := HLt.out x hx h0; have := HO3.out.lt; omega) (hR3.below hb34))
  have HOx := Lib.hid (own_grown (own_keep ho3 hb34) (grown_cells _ w3.heap.size CM 0) (fun e => by have := (ho3.lt _ e).2; omega))
  have HSz : Hid ((Try.prog.info? 40).map (·.size) = some CM.length) := Lib.hid (by rw [hcl]; kernel_rfl)
  have HCl := Lib.hid hcl
  have HCo := Lib.hid hco
  have hOX : O < w3.heap.size := HO3.out.lt
  clear h32 hR3 hg3 hq hcl hco hCM ho3 hxr hb4 hb34 HB2 HO2 HO3 HB3 HCm
  go_upto_region 3 with (refine wpList_store_mid rfl _ _ _ rfl w3.heap.size 0 CM.toArray rfl rfl HFx.out.there HFx.out.size HFx.out.one ?_)
  change Code.wp _ _ _ _ ((w3.alloc (.cells ZC 40)).setCells w3.heap.size 0 CM)
  have HBx := Lib.hid HFx.out.bel
  have hXs := HO4.out.lt
  have hXl : w3.heap.size < ((w3.alloc (.cells ZC 40)).setCells w3.heap.size 0 CM).heap.size := HXr.out.lt_of (by rw [HCl.out]; decide)
  clear HFx
  generalize (w3.alloc (.cells ZC 40)).setCells w3.heap.size 0 CM = w4 at *
  have ho2 : O ≤ w3.heap.size := Nat.le_of_lt hOX
  have hR3 : R < w3.heap.size := by omega
  generalize w3.heap.size = X at *
  have HOk := Lib.hid (ok_any R 3 110 A L C l _ F _ w4 HR4.out)
  by_cases h0 : F = 0
  · have hd : (F == 0) = true := by simp [h0]
    have HFo := Lib.hid (Fin.mk' HCl.out HCo.out HO4.out HBx.out (show w.heap.size ≤ O by have := HOw.out; omega))
    have HOz := Lib.hid (own_grown HOx.out (grown_cells w4 O CM 0) (fun e => by have := (HOx.out.lt O e).1; omega))
    have H0 := Lib.hid (hF.symm.trans h0)
    clear hF h0
    go_wp2_with fail
    refine HOk.out.mono ?_
    rintro e w5 ⟨rfl, rfl⟩
    clear HOk
    go_wp2_with (first
      | (refine wpList_load_mid rfl _ _ rfl X 0 rfl CM _ HXr.out Try.underlying40 rfl HSz.out ?_)
      | (refine wpList_store_mid rfl _ _ _ rfl O 0 CM.toArray rfl rfl HFo.out.there HFo.out.size HFo.out.one ?_))
    refine bodyPost_ret (results_cell2 rfl _ _ O _ _ _ _ rfl HFo.out.stored Try.underlying40 rfl HFo.out.size (.int .i64 0) rfl) rfl ?_
    refine ⟨HFo.out.bel, .inr ⟨H0.out, by rw [← HQ.out]; exact H32.out, Ai, Ci, by rw [← HQ.out, HCM.out], ?_⟩⟩
    rw [← HQ.out]
    exact own_base HOz.out (by have := HOw.out; omega)
  · have hd : (F == 0) = false := by simp [h0]
    have HFz := Lib.hid (Fin.mk' cm0_len cm0_one (World.rowIs.drew HO4.out) HBx.out.drew (show w.heap.size ≤ O by have := HOw.out; omega))
    have HcF : Hid (w4.drew.cell? ⟨R, 2, none⟩ = some (.int .i64 F)) := Lib.hid HR4.out.c2
    have HcF2 : Hid ((w4.drew.setCells O 0 cm0.toArray.toList).cell? ⟨R, 2, none⟩ = some (.int .i64 F)) := Lib.hid (Rdr.laid (X := O) (by omega) cm0 0 _ (fun x hx h0 => by have := HLt.out x hx h0; omega) (HR4.out.drewN 1)).c2
    have H0 : Hid (cF7 0 l 0 L ≠ 0) := Lib.hid (fun e => h0 (hF.trans e))
    have HF := Lib.hid hF
    clear hF h0
    go_wp2_with fail
    refine HOk.out.mono ?_
    rintro e w5 ⟨rfl, rfl⟩
    clear HOk
    go_wp2_with fail
    refine wp_region_noPanic ?_
    refine wp_region_held_drew (S := (fun wS => wS.cell? ⟨R, 2, none⟩ = some (.int .i64 F))) (by kernel_rfl) ?_ (fun hHeld => ?_)
    · ((try dsimp only); exact HcF.out)
    refine wpAnyH_take (i := 0) (oi := { dst := some 17, op := Op.build 40 #[], type := 40, pos := "commit.go:58", after := #[], guard := none }) (v := ?_) rfl (by kernel_rfl) (by kernel_rfl) (by kernel_rfl) (fun _ _ _ h => h) (Or.inl ⟨by rfl, ?_⟩) (by assumption) ?_
    rotate_left 1
    · ((intro w hSw; (try dsimp only at hSw); go_simp) <;> with_reducible rfl)
    (try simp only [Act.put, List.setIfInBounds_toArray, List.set_cons_zero, List.set_cons_succ])
    refine wpAnyH_take (i := 1) (oi := { dst := some 18, op := Op.move (Operand.tmp 4), type := 108, pos := "commit.go:58", after := #[{ on := 6, ground := Ground.gcOnly Departure.lateStores }], guard := none }) (v := ?_) rfl (by kernel_rfl) (by kernel_rfl) (by kernel_rfl) (fun _ _ _ h => h) (Or.inl ⟨by rfl, ?_⟩) (by assumption) ?_
    rotate_left 1
    · ((intro w hSw; (try dsimp only at hSw); go_simp) <;> with_reducible rfl)
    (try simp only [Act.put, List.setIfInBounds_toArray, List.set_cons_zero, List.set_cons_succ])
    refine wpAnyH_take (i := 2) (oi := { dst := some 19, op := Op.nilCheck (Operand.tmp 18), type := 0, pos := "commit.go:58", after := #[{ on := 1, ground := Ground.data }, { on := 6, ground := Ground.gcOnly Departure.lateStores }], guard := none }) (v := ?_) rfl (by kernel_rfl) (by kernel_rfl) (by kernel_rfl) (fun _ _ _ h => h) (Or.inl ⟨by rfl, ?_⟩) (by assumption) ?_
    rotate_left 1
    · ((intro w hSw; (try dsimp only at hSw); go_simp) <;> with_reducible rfl)
    (try simp only [Act.put, List.setIfInBounds_toArray, List.set_cons_zero, List.set_cons_succ])
    refine wpAnyH_take (i := 3) (oi := { dst := some 20, op := Op.fieldAddr 110 (Operand.tmp 19) 0, type := 0, pos := "commit.go:58", after := #[{ on := 2, ground := Ground.data }, { on := 6, ground := Ground.gcOnly Departure.lateStores }], guard := none }) (v := ?_) rfl (by kernel_rfl) (by kernel_rfl) (by kernel_rfl) (fun _ _ _ h => h) (Or.inl ⟨by rfl, ?_⟩) (by assumption) ?_
    rotate_left 1
    · ((intro w hSw; (try dsimp only at hSw); go_simp) <;> with_reducible rfl)
    (try simp only [Act.put, List.setIfInBounds_toArray, List.set_cons_zero, List.set_cons_succ])
    refine wpAnyH_take (i := 4) (oi := { dst := some 21, op := Op.fieldAddr 94 (Operand.tmp 20) 2, type := 0, pos := "commit.go:58", after := #[{ on := 3, ground := Ground.data }, { on := 6, ground := Ground.gcOnly Departure.lateStores }], guard := none }) (v := ?_) rfl (by kernel_rfl) (by kernel_rfl) (by kernel_rfl) (fun _ _ _ h => h) (Or.inl ⟨by rfl, ?_⟩) (by assumption) ?_
    rotate_left 1
    · ((intro w hSw; (try dsimp only at hSw); go_simp) <;> with_reducible rfl)
    (try simp only [Act.put, List.setIfInBounds_toArray, List.set_cons_zero, List.set_cons_succ])
    refine wpAnyH_take (i := 5) (oi := { dst := some 22, op := Op.load 25 (Operand.tmp 21), type := 25, pos := "commit.go:58", after := #[{ on := 4, ground := Ground.data }, { on := 6, ground := Ground.gcOnly Departure.lateStores }], guard := none }) (v := ?_) rfl (by kernel_rfl) (by kernel_rfl) (by kernel_rfl) (fun _ _ _ h => h) (Or.inl ⟨by rfl, ?_⟩) (by assumption) ?_
    rotate_left 1
    · ((intro w hSw; (try dsimp only at hSw); go_simp) <;> with_reducible rfl)
    (try simp only [Act.put, List.setIfInBounds_toArray, List.set_cons_zero, List.set_cons_succ])
    refine wpAnyH_ready (rs := [6]) (by kernel_rfl) (by simp) ?_
    refine AllReadyH.cons (o := { dst := none, op := Op.store 40 (Operand.tmp 2) (Operand.tmp 17), type := 0, pos := "commit.go:58", after := #[{ on := 0, ground := Ground.data }, { on := 0, ground := Ground.phase }, { on := 1, ground := Ground.textOnly Departure.lateStores }, { on := 2, ground := Ground.textOnly Departure.lateStores }, { on := 3, ground := Ground.textOnly Departure.lateStores }, { on := 4, ground := Ground.textOnly Departure.lateStores }, { on := 5, ground := Ground.textOnly Departure.lateStores }], guard := none }) rfl (fun K hK => ?_) ?_
    · refine step_store_mid rfl _ _ _ rfl O 0 cm0.toArray rfl (show _ = _ from congrArg Value.agg HZC.out.symm) HFz.out.there HFz.out.size HFz.out.one ?_
      (try go_wp2_with fail)
      refine hK.out _ _ ?_ (fun hNew => ?_)
      · ((try dsimp only); exact HcF2.out)
      clear hK K hHeld
      have hHeld := hNew
      clear hNew
      (try simp only [Act.put, List.setIfInBounds_toArray, List.set_cons_zero, List.set_cons_succ])
      refine wpAnyH_take (i := 7) (oi := { dst := some 3, op := Op.assign (Operand.tmp 22), type := 25, pos := "commit.go:58", after := #[{ on := 5, ground := Ground.data }, { on := 6, ground := Ground.chain }, { on := 0, ground := Ground.phase }, { on := 1, ground := Ground.phase }, { on := 2, ground := Ground.phase }, { on := 3, ground := Ground.phase }, { on := 4, ground := Ground.phase }, { on := 5, ground := Ground.phase }, { on := 6, ground := Ground.phase }], guard := none }) (v := ?_) rfl (by kernel_rfl) (by kernel_rfl) (by kernel_rfl) (fun _ _ _ h => h) (Or.inl ⟨by rfl, ?_⟩) (by assumption) ?_
      rotate_left 1
      · ((intro w hSw; (try dsimp only at hSw); go_simp) <;> with_reducible rfl)
      (try simp only [Act.put, List.setIfInBounds_toArray, List.set_cons_zero, List.set_cons_succ])
      refine wpAnyH_done (by kernel_rfl) ?_ _
      refine NoPanic.normal ?_
      clear hHeld
      go_wp2_with fail
      refine bodyPost_ret (results_cell2 rfl _ _ O _ _ _ _ rfl HFz.out.stored Try.underlying40 rfl HFz.out.size (.int .i64 F) rfl) rfl ?_
      exact ⟨HFz.out.bel, .inl ⟨H0.out, by rw [HF.out]⟩⟩
    exact AllReadyH.nil
end Go.Proofs.Ytmcmapgllaopmaa.Cd
