/- Texts of one's own, merged: CdTxSq, CdTreeN, CdSame, CdRPc, CdEc, CdOne, CdPo, CdBCl, CdTxT, CdTxU, CdTxV. -/
import Derived.Test.YtmcmapgllaopmaaMb

section
namespace Go.Proofs.Ytmcmapgllaopmaa.Cd
open Go.RowKit
set_option linter.unusedVariables false
theorem sqV_set {k : Int} {br : ByteArray} {og cu : List Int} {td : Value} {dn md : Int} {st : Bool} (ho : og.length = 32) (hc : cu.length = 32) :
    (∀ b, (sqV k br og cu td dn md st).set 1 (.string b) = sqV k b og cu td dn md st) ∧ (∀ v, (sqV k br og cu td dn md st).set 66 v = sqV k br og cu v dn md st) ∧
    (∀ x : Int, (sqV k br og cu td dn md st).set 67 (.int .i64 x) = sqV k br og cu td x md st) ∧ (∀ x : Int, (sqV k br og cu td dn md st).set 68 (.int .i64 x) = sqV k br og cu td dn x st) ∧ (∀ x : Bool, (sqV k br og cu td dn md st).set 69 (.bool x) = sqV k br og cu td dn md x) := by
  refine ⟨fun b => rfl, fun v => ?_, fun x => ?_, fun x => ?_, fun x => ?_⟩ <;>
    simp [sqV, List.set_append_right, bv_len, ho, hc]
theorem sqV_td {k : Int} {br : ByteArray} {og cu : List Int} {td : Value} {dn md : Int} {st : Bool} (ho : og.length = 32) (hc : cu.length = 32) : (sqV k br og cu td dn md st).getD 66 undef = td := by
  simp [sqV, List.getD, bv_len, ho, hc]
theorem sqV_lay {k : Int} {br : ByteArray} {og cu : List Int} {td : Value} {dn md : Int} {st : Bool} (ho : og.length = 32) (hc : cu.length = 32) {x : List Int} (hx : x.length = 32) :
    layL (sqV k br og cu td dn md st) 2 (bv x) = sqV k br x cu td dn md st ∧ layL (sqV k br og cu td dn md st) 34 (bv x) = sqV k br og x td dn md st := by
  constructor <;> simp [layL, sqV, bv_len, hx, List.take_append, List.drop_append, ho, hc]
theorem wpList_buildT {ops : Array Oper} {rest : List Oper} {o : Oper} {a : Act} {w : World} {Q : Exit → Act → World → Prop} (hgd : o.guard = none) (t : TypeId) (i : Nat) (x : Operand) (ho : o.op = .build t #[(i, x)]) (v : Value) (hx : a.eval x = v) (cs : Array Value) (hb : Try.prog.built t [(i, v)] = some cs)
    (h : wpList Try.prog ops Q rest (a.put o.dst (.agg cs)) w) : wpList Try.prog ops Q (o :: rest) a w := by
  refine wpList_build hgd t #[(i, x)] ho ?_ ?_
  · simp [hx, hb]
  · simpa [hx, hb] using h
def sqN (k : Nat) : List Value := sqV k ByteArray.empty (List.replicate 32 0) (List.replicate 32 0) (.slice none 0 0) 0 0 false
theorem sqN_len (k : Nat) : (sqN k).length = 70 := sqV_len (by simp) (by simp)
set_option maxRecDepth 100000 in
theorem built_sq (k : Nat) : Try.prog.built 65 [(0, .int .i64 (k : Int))] = some (sqN k).toArray := by rfl
set_option maxRecDepth 100000 in
set_option maxHeartbeats 4000000 in
theorem seq_r (R : Nat) (A : Option Addr) (L C : Nat) (l : List Int) (p : Pl) (E : Nat → Value) (w : World) (h : At w R 3 136 A L C l p E) :
    Calls Try.prog 97 #[.pointer (some ⟨R, 0, none⟩)] w (SqRet R A L C l p E w) := by
  have hz := zeroSq
  have hZl : sq0.toArray.size = 70 := by rw [List.size_toArray]; exact sq0_len
  have HZ0 : Hid (sq0 = sqV 0 ByteArray.empty (List.replicate 32 0) (List.replicate 32 0) (.slice none 0 0) 0 0 false) := Lib.hid rfl
  generalize hZA : sq0.toArray = ZS at *
  have HZA := Lib.hid hZA
  have HZl := Lib.hid hZl
  have HR0 := Lib.hid h
  have hRl := h.row.lt
  have HAB : Hid (∀ x, A = some x → 0 < L → x.block < w.heap.size) := Lib.hid (fun x hx h0 => (h.rd.cell x hx).1 h0)
  have HB1 := Lib.hid h.rd.byte
  have HLl := Lib.hid h.rd.len
  clear hZl h hZA
  go_enter Try.func97, Try.ntmps97
  go_upto_region 1 with (fail)
  have hb1 := (Below.refl w.heap.size w).alloc (Nat.le_refl _) (.cells ZS 65)
  have hro := row_new w ZS 65
  rw [HZl.out] at hro
  have HR1 : Hid (At (w.alloc (.cells ZS 65)) R 3 136 A L C l p E) := Lib.hid (HR0.out.below hb1)
  have HG1 : Hid (w.grownBy (w.alloc (.cells ZS 65)) (some R)) := Lib.hid ⟨hb1.os, hb1.tape, hb1.output, hb1.size, fun i hi _ => hb1.block i hi⟩
  have HO1 := Lib.hid hro
  clear hro hb1 HR0
  generalize w.alloc (.cells ZS 65) = w1 at *
  have HNu := Lib.hid (number_p R 3 136 A L C l p E 1 w1 HR1.out (by decide))
  rw [show ((1 : Nat) : Int) = 1 from rfl] at HNu
  obtain ⟨k, hk⟩ : ∃ k, k = geN l L p 1 := ⟨_, rfl⟩
  obtain ⟨p1, hp1⟩ : ∃ p1, p1 = atN l L p 1 := ⟨_, rfl⟩
  rw [← hk, ← hp1] at HNu
  have HK := Lib.hid hk
  have HP1 := Lib.hid hp1
  clear hk hp1
  go_wp2_with fail
  refine HNu.out.mono ?_
  rintro e w2 ⟨rfl, hR2, hg2⟩
  have HBu := Lib.hid (built_sq k)
  have hD : (sqN k).length = 70 := sqN_len k
  have hro2 := HO1.out.of_block (hg2.block w.heap.size HO1.out.lt (fun e => by have := Option.some.inj e; omega))
  have HWs0 := Lib.hid (Ws.of (D := sqN k) hR2 hro2 (grown_trans HG1.out hg2) hRl HAB.out (Nat.le_refl _) HZl.out hD)
  obtain ⟨hf, hrn⟩ := lay_new w2 65 70 ZS (sqN k) infoSq HZl.out hD (sqV_one rfl)
  have HF := Lib.hid hf
  clear hR2 hg2 hro2 hf hrn HO1 HG1 HR1 HNu hD
  generalize hDD : sqN k = DD at *
  have HDD := Lib.hid hDD
  clear hDD
  go_upto_region 2 with (first
    | (refine wpList_buildT rfl 65 0 _ rfl _ rfl DD.toArray HBu.out ?_)
    | (refine wpList_store_mid rfl _ _ _ rfl w2.heap.size 0 DD.toArray rfl rfl HF.out.there HF.out.size HF.out.one ?_))
  change Code.wp _ _ _ _ ((w2.alloc (.cells ZS 65)).setCells w2.heap.size 0 DD)
  generalize (w2.alloc (.cells ZS 65)).setCells w2.heap.size 0 DD = w3 at *
  clear HBu HF
  generalize w2.heap.size = X at *
  have hc0 := HWs0.out.cell 0 (by decide)
  rw [← HDD.out, show (sqN k).getD 0 undef = .int .i64 (k : Int) from rfl] at hc0
  by_cases hk0 : k = 0
  · have hd : ((k : Int) == 0) = true := by simp [hk0]
    have HLd := Lib.hid HWs0.out.range
    have hl : DD.length = 70 := HWs0.out.dl
    obtain ⟨f1, f2, f3, f4, -⟩ := HWs0.out.fin (B := 0) (e := 0) (sz := 0) (n := 0) (v := .slice none 0 0) (xs := [])
    have HF1 := Lib.hid f1
    have HF2 := Lib.hid f2
    have HF3 := Lib.hid f3
    have HF4 := Lib.hid f4
    have HLs : Hid ((Try.prog.info? 65).map (·.size) = some DD.length) := Lib.hid (by rw [hl]; exact infoSq)
    have HLs2 : Hid ((Try.prog.info? 65).map (·.size) = some DD.toArray.size) := Lib.hid (by rw [List.size_toArray]; exact HLs.out)
    have HOn := Lib.hid (all_oneCell_toArray (cs := DD) (by rw [← HDD.out]; exact sqV_one rfl))
    have HK0 := Lib.hid hk0
    clear f1 f2 f3 f4 hl HWs0 hk0
    go_wp2_with (first
      | (refine wpList_load_mid rfl _ _ rfl X 0 rfl DD _ HLd.out Try.underlying65 rfl HLs.out ?_)
      | (refine wpList_store_mid rfl _ _ _ rfl w.heap.size 0 DD.toArray rfl rfl HF4.out HLs2.out HOn.out ?_))
    refine bodyPost_ret (results_cell_row rfl _ _ w.heap.size _ _ _ _ rfl HF3.out Try.underlying65 rfl HLs2.out) rfl ?_
    have e0 : sK l L p = 0 := HK.out.symm.trans HK0.out
    have e1 : sqE l L p = p1 := by unfold sqE; rw [if_pos e0]; exact HP1.out.symm
    have e2 : sqP l L p = Sq.nil 0 := by unfold sqP; rw [if_pos e0]
    unfold SqRet
    rw [e1, e2]
    exact ⟨HF1.out, HF2.out, none, 0, by rw [← HDD.out, HK0.out]; rfl, ⟨by simp [Sq.nil, tdsV], .inl ⟨rfl, rfl⟩⟩⟩
  · have hd : ((k : Int) == 0) = false := by simp; omega
    have HKn := Lib.hid hk0
    clear hk0
    have HTx := Lib.hid (text_p R 3 136 A L C l p1 E 1 255 w3 HWs0.out.rd (by decide))
    rw [show ((1 : Nat) : Int) = 1 from rfl, show ((255 : Nat) : Int) = 255 from rfl] at HTx
    obtain ⟨br, hbr⟩ : ∃ br, br = geT l L p1 1 255 := ⟨_, rfl⟩
    obtain ⟨p2, hp2⟩ : ∃ p2, p2 = atT l L p1 1 255 := ⟨_, rfl⟩
    rw [← hbr, ← hp2] at HTx
    have HBr := Lib.hid hbr
    have HP2 := Lib.hid hp2
    clear hbr hp2
    go_wp2_with fail
    refine HTx.out.mono ?_
    rintro e w4 ⟨rfl, hR4, hg4⟩
    have HW4 := Lib.hid (HWs0.out.call hR4 hg4)
    have hc : w4.cell? ⟨X, 1, none⟩ = some _ := HW4.out.cell 1 (by decide)
    have hf : w4.frozen? ⟨X, 1, none⟩ = false := HW4.out.rx.frozen _
    have HW5 := Lib.hid (HW4.out.set 1 (.string br))
    rw [← HDD.out, show (sqN k).set 1 (.string br) = sqV k br (List.replicate 32 0) (List.replicate 32 0) (.slice none 0 0) 0 0 false from rfl] at HW5
    clear hR4 hg4 HTx HW4 HWs0 hc0
    go_upto_region 5 with (fail)
    clear hc hf
    generalize w4.setCell ⟨X, 1, none⟩ (.string br) = w5 at *
    have HId := Lib.hid (id_p R 3 136 A L C l p2 E w5.drew (HW5.out.drew 1).rd)
    obtain ⟨og, hog⟩ : ∃ og, og = geI l L p2 := ⟨_, rfl⟩
    obtain ⟨p3, hp3⟩ : ∃ p3, p3 = atN l L p2 32 := ⟨_, rfl⟩
    rw [← hog, ← hp3] at HId
    have hol : og.length = 32 := by rw [hog]; exact geI_len l L p2
    have HOg := Lib.hid hog
    have HP3 := Lib.hid hp3
    clear hog hp3
    have dW := Lib.hid (HW5.out.drew 1)
    clear HW5
    refine wp_region_noPanic ?_
    refine wp_region_held_drew (S := (fun _ => True)) (by kernel_rfl) ?_ (fun hHeld => ?_)
    · ((try dsimp only); done)
    refine wpAnyH_take (i := 0) (oi := { dst := some 21, op := Op.move (Operand.tmp 0), type := 135, pos := "tx.go:158", after := #[], guard := none }) (v := ?_) rfl (by kernel_rfl) (by kernel_rfl) (by kernel_rfl) (fun _ _ _ h => h) (Or.inl ⟨by rfl, ?_⟩) (by assumption) ?_
    rotate_left 1
    · ((intro w hSw; (try dsimp only at hSw); go_simp) <;> with_reducible rfl)
    (try simp only [Act.put, List.setIfInBounds_toArray, List.set_cons_zero, List.set_cons_succ])
    refine wpAnyH_take (i := 1) (oi := { dst := some 22, op := Op.nilCheck (Operand.tmp 21), type := 0, pos := "tx.go:158", after := #[{ on := 0, ground := Ground.data }], guard := none }) (v := ?_) rfl (by kernel_rfl) (by kernel_rfl) (by kernel_rfl) (fun _ _ _ h => h) (Or.inl ⟨by rfl, ?_⟩) (by assumption) ?_
    rotate_left 1
    · ((intro w hSw; (try dsimp only at hSw); go_simp) <;> with_reducible rfl)
    (try simp only [Act.put, List.setIfInBounds_toArray, List.set_cons_zero, List.set_cons_succ])
    refine wpAnyH_take (i := 2) (oi := { dst := some 23, op := Op.fieldAddr 136 (Operand.tmp 22) 0, type := 0, pos := "tx.go:158", after := #[{ on := 1, ground := Ground.data }], guard := none }) (v := ?_) rfl (by kernel_rfl) (by kernel_rfl) (by kernel_rfl) (fun _ _ _ h => h) (Or.inl ⟨by rfl, ?_⟩) (by assumption) ?_
    rotate_left 1
    · ((intro w hSw; (try dsimp only at hSw); go_simp) <;> with_reducible rfl)
    (try simp only [Act.put, List.setIfInBounds_toArray, List.set_cons_zero, List.set_cons_succ])
    refine wpAnyH_take (i := 4) (oi := { dst := some 25, op := Op.move (Operand.tmp 0), type := 135, pos := "tx.go:158", after := #[], guard := none }) (v := ?_) rfl (by kernel_rfl) (by kernel_rfl) (by kernel_rfl) (fun _ _ _ h => h) (Or.inl ⟨by rfl, ?_⟩) (by assumption) ?_
    rotate_left 1
    · ((intro w hSw; (try dsimp only at hSw); go_simp) <;> with_reducible rfl)
    (try simp only [Act.put, List.setIfInBounds_toArray, List.set_cons_zero, List.set_cons_succ])
    refine wpAnyH_take (i := 5) (oi := { dst := some 26, op := Op.nilCheck (Operand.tmp 25), type := 0, pos := "tx.go:158", after := #[{ on := 4, ground := Ground.data }], guard := none }) (v := ?_) rfl (by kernel_rfl) (by kernel_rfl) (by kernel_rfl) (fun _ _ _ h => h) (Or.inl ⟨by rfl, ?_⟩) (by assumption) ?_
    rotate_left 1
    · ((intro w hSw; (try dsimp only at hSw); go_simp) <;> with_reducible rfl)
    (try simp only [Act.put, List.setIfInBounds_toArray, List.set_cons_zero, List.set_cons_succ])
    refine wpAnyH_take (i := 6) (oi := { dst := some 27, op := Op.fieldAddr 136 (Operand.tmp 26) 0, type := 0, pos := "tx.go:158", after := #[{ on := 5, ground := Ground.data }], guard := none }) (v := ?_) rfl (by kernel_rfl) (by kernel_rfl) (by kernel_rfl) (fun _ _ _ h => h) (Or.inl ⟨by rfl, ?_⟩) (by assumption) ?_
    rotate_left 1
    · ((intro w hSw; (try dsimp only at hSw); go_simp) <;> with_reducible rfl)
    (try simp only [Act.put, List.setIfInBounds_toArray, List.set_cons_zero, List.set_cons_succ])
    refine wpAnyH_ready (rs := [3]) (by kernel_rfl) (by simp) ?_
    refine AllReadyH.cons (o := { dst := some 24, op := Op.call { callee := Callee.value (Operand.func 84), args := #[Operand.tmp 23], argTypes := #[94] }, type := 37, pos := "tx.go:158", after := #[{ on := 2, ground := Ground.data }], guard := none }) rfl (fun K hK => ?_) ?_
    · go_simp
      refine HId.out.mono ?_
      rintro e wB ⟨rfl, hR, hg⟩
      have eW := Lib.hid (dW.out.call hR hg)
      clear hR hg HId dW
      have dW := eW
      clear eW
      have HIc := Lib.hid (id_p R 3 136 A L C l p3 E wB dW.out.rd)
      obtain ⟨cu, hcu⟩ : ∃ cu, cu = geI l L p3 := ⟨_, rfl⟩
      obtain ⟨p4, hp4⟩ : ∃ p4, p4 = atN l L p3 32 := ⟨_, rfl⟩
      rw [← hcu, ← hp4] at HIc
      have hcl : cu.length = 32 := by rw [hcu]; exact geI_len l L p3
      have HCu := Lib.hid hcu
      have HP4 := Lib.hid hp4
      clear hcu hp4
      (try go_wp2_with fail)
      refine hK.out _ _ ?_ (fun hNew => ?_)
      · ((try dsimp only); done)
      clear hK K hHeld
      have hHeld := hNew
      clear hNew
      (try simp only [Act.put, List.setIfInBounds_toArray, List.set_cons_zero, List.set_cons_succ])
      refine wpAnyH_take (i := 8) (oi := { dst := some 29, op := Op.fieldAddr 65 (Operand.tmp 3) 2, type := 0, pos := "tx.go:158", after := #[{ on := 0, ground := Ground.phase }, { on := 1, ground := Ground.phase }, { on := 2, ground := Ground.phase }, { on := 3, ground := Ground.phase }, { on := 4, ground := Ground.textOnly Departure.lateStores }, { on := 5, ground := Ground.textOnly Departure.lateStores }, { on := 6, ground := Ground.textOnly Departure.lateStores }, { on := 7, ground := Ground.textOnly Departure.lateStoresUnsure }], guard := none }) (v := ?_) rfl (by kernel_rfl) (by kernel_rfl) (by kernel_rfl) (fun _ _ _ h => h) (Or.inl ⟨by rfl, ?_⟩) (by assumption) ?_
      rotate_left 1
      · ((intro w hSw; (try dsimp only at hSw); go_simp) <;> with_reducible rfl)
      (try simp only [Act.put, List.setIfInBounds_toArray, List.set_cons_zero, List.set_cons_succ])
      refine wpAnyH_ready (rs := [7]) (by kernel_rfl) (by simp) ?_
      refine AllReadyH.cons (o := { dst := some 28, op := Op.call { callee := Callee.value (Operand.func 84), args := #[Operand.tmp 27], argTypes := #[94] }, type := 37, pos := "tx.go:158", after := #[{ on := 6, ground := Ground.data }, { on := 3, ground := Ground.chain }], guard := none }) rfl (fun K hK => ?_) ?_
      · go_simp
        refine HIc.out.mono ?_
        rintro e wC ⟨rfl, hR, hg⟩
        have eW := Lib.hid (dW.out.call hR hg)
        clear hR hg HIc dW
        have dW := eW
        clear eW
        have hbo : (bv og).length = 32 := by rw [bv_len, hol]
        have hbc : (bv cu).length = 32 := by rw [bv_len, hcl]
        have HT1 := Lib.hid (dW.out.there 2 (bv og) (by omega))
        have eW := dW.out.lay 2 (bv og) (by omega)
        rw [(sqV_lay (by simp) (by simp) hol).1] at eW
        have HT2 := Lib.hid (eW.there 34 (bv cu) (by omega))
        have fW := eW.lay 34 (bv cu) (by omega)
        rw [(sqV_lay hol (by simp) hcl).2] at fW
        have HW6 := Lib.hid fW
        have HS1 : Hid ((Try.prog.info? 37).map (·.size) = some (bv og).toArray.size) := Lib.hid (by rw [List.size_toArray, hbo]; exact infoId)
        have HS2 : Hid ((Try.prog.info? 37).map (·.size) = some (bv cu).toArray.size) := Lib.hid (by rw [List.size_toArray, hbc]; exact infoId)
        have HO1 := Lib.hid (all_oneCell_toArray (bv_one og))
        have HO2 := Lib.hid (all_oneCell_toArray (bv_one cu))
        clear eW fW dW hbo hbc
        generalize hDO : bv og = DO at *
        generalize hDC : bv cu = DC at *
        have HDO := Lib.hid hDO
        have HDC := Lib.hid hDC
        clear hDO hDC
        (try go_wp2_with fail)
        refine hK.out _ _ ?_ (fun hNew => ?_)
        · ((try dsimp only); done)
        clear hK K hHeld
        have hHeld := hNew
        clear hNew
        (try simp only [Act.put, List.setIfInBounds_toArray, List.set_cons_zero, List.set_cons_succ])
        refine wpAnyH_ready (rs := [9]) (by kernel_rfl) (by simp) ?_
        refine AllReadyH.cons (o := { dst := none, op := Op.store 37 (Operand.tmp 29) (Operand.tmp 24), type := 0, pos := "tx.go:158", after := #[{ on := 8, ground := Ground.data }, { on := 3, ground := Ground.data }, { on := 7, ground := Ground.chain }, { on := 0, ground := Ground.phase }, { on := 1, ground := Ground.phase }, { on := 2, ground := Ground.phase }, { on := 3, ground := Ground.phase }, { on := 4, ground := Ground.textOnly Departure.lateStores }, { on := 5, ground := Ground.textOnly Departure.lateStores }, { on := 6, ground := Ground.textOnly Departure.lateStores }, { on := 7, ground := Ground.textOnly Departure.lateStoresUnsure }], guard := none }) rfl (fun K hK => ?_) ?_
        · refine step_store_mid rfl _ _ _ rfl X 2 DO.toArray rfl rfl HT1.out HS1.out HO1.out ?_
          (try go_wp2_with fail)
          refine hK.out _ _ ?_ (fun hNew => ?_)
          · ((try dsimp only); done)
          clear hK K hHeld
          have hHeld := hNew
          clear hNew
          (try simp only [Act.put, List.setIfInBounds_toArray, List.set_cons_zero, List.set_cons_succ])
          refine wpAnyH_take (i := 10) (oi := { dst := some 30, op := Op.fieldAddr 65 (Operand.tmp 3) 3, type := 0, pos := "tx.go:158", after := #[{ on := 0, ground := Ground.phase }, { on := 1, ground := Ground.phase }, { on := 2, ground := Ground.phase }, { on := 3, ground := Ground.phase }, { on := 4, ground := Ground.phase }, { on := 5, ground := Ground.phase }, { on := 6, ground := Ground.phase }, { on := 7, ground := Ground.phase }, { on := 8, ground := Ground.phase }, { on := 9, ground := Ground.phase }], guard := none }) (v := ?_) rfl (by kernel_rfl) (by kernel_rfl) (by kernel_rfl) (fun _ _ _ h => h) (Or.inl ⟨by rfl, ?_⟩) (by assumption) ?_
          rotate_left 1
          · ((intro w hSw; (try dsimp only at hSw); go_simp) <;> with_reducible rfl)
          (try simp only [Act.put, List.setIfInBounds_toArray, List.set_cons_zero, List.set_cons_succ])
          refine wpAnyH_ready (rs := [11]) (by kernel_rfl) (by simp) ?_
          refine AllReadyH.cons (o := { dst := none, op := Op.store 37 (Operand.tmp 30) (Operand.tmp 28), type := 0, pos := "tx.go:158", after := #[{ on := 10, ground := Ground.data }, { on := 7, ground := Ground.data }, { on := 9, ground := Ground.chain }, { on := 0, ground := Ground.phase }, { on := 1, ground := Ground.phase }, { on := 2, ground := Ground.phase }, { on := 3, ground := Ground.phase }, { on := 4, ground := Ground.phase }, { on := 5, ground := Ground.phase }, { on := 6, ground := Ground.phase }, { on := 7, ground := Ground.phase }, { on := 8, ground := Ground.phase }, { on := 9, ground := Ground.phase }], guard := none }) rfl (fun K hK => ?_) ?_
          · refine step_store_mid rfl _ _ _ rfl X 34 DC.toArray rfl rfl HT2.out HS2.out HO2.out ?_
            (try go_wp2_with fail)
            refine hK.out _ _ ?_ (fun hNew => ?_)
            · ((try dsimp only); done)
            clear hK K hHeld
            have hHeld := hNew
            clear hNew
            (try simp only [Act.put, List.setIfInBounds_toArray, List.set_cons_zero, List.set_cons_succ])
            refine wpAnyH_done (by kernel_rfl) ?_ _
            refine NoPanic.normal ?_
            clear hHeld
            generalize (wC.setCells X 2 DO).setCells X 34 DC = w6 at *
            clear HT1 HT2 HS1 HS2 HO1 HO2 HDO HDC
            have HNm := Lib.hid (number_p R 3 136 A L C l p4 E 2 w6 HW6.out.rd (by decide))
            rw [show ((2 : Nat) : Int) = 2 from rfl] at HNm
            obtain ⟨m, hm⟩ : ∃ m, m = geN l L p4 2 := ⟨_, rfl⟩
            obtain ⟨p5, hp5⟩ : ∃ p5, p5 = atN l L p4 2 := ⟨_, rfl⟩
            rw [← hm, ← hp5] at HNm
            have hml : m < 65536 := by rw [hm]; exact geN_lt (by decide) HLl.out HB1.out
            have HM := Lib.hid hm
            have HP5 := Lib.hid hp5
            clear hm hp5
            go_wp2_with fail
            refine HNm.out.mono ?_
            rintro e w7 ⟨rfl, hR7, hg7⟩
            have HW7 := Lib.hid (HW6.out.call hR7 hg7)
            clear hR7 hg7 HNm HW6
            go_wp2_with fail
            obtain ⟨Q, hQ⟩ : ∃ Q, Q = tdL l L m p5 [] := ⟨_, rfl⟩
            have HQ := Lib.hid hQ
            clear hQ
            go_loopw [4, 5] (fun s4 s5 wr => ∃ (j : Nat) (q : Pl) (ts : List Td) (Ai : Option Addr) (Ci : Nat), s4 = .int .i64 j ∧ j ≤ m ∧ ts.length + j ≤ m ∧ Hid (∀ t ∈ ts, t.id.length = 32) ∧ Hid (tdL l L j q ts = Q) ∧ Hid (Ws w R w.heap.size X 65 70 (sqV k br og cu (.slice Ai ts.length Ci) 0 0 false) A L C l q E wr) ∧ Hid (wr.ownsRow (X + 1) 84 33 (.slice Ai ts.length Ci) ts.length (tdsV ts))) (fun s4 _ _ => (intOf s4).toNat)
            case atStart => exact ⟨m, p5, [], none, 0, rfl, Nat.le_refl _, by simp, Lib.hid (by simp), Lib.hid HQ.out.symm, HW7, Lib.hid ⟨by simp [tdsV], .inl ⟨rfl, rfl⟩⟩⟩
            case round =>
              clear HW7
              obtain ⟨j, q, ts, Ai, Ci, rfl, hj, hts, HTs, HTd, HWr, HOr⟩ := hrel
              by_cases hgo : 0 < j ∧ q.1 = 0
              · obtain ⟨hj0, hq0⟩ := hgo
                have hd : (0 : Int) < (j : Int) := by omega
                have hdq : (q.1 == 0) = true := by simp [hq0]
                have HOk := Lib.hid (ok_p R 3 136 A L C l q E wr HWr.out.rd)
                rw [hdq] at HOk
                have HN8 := Lib.hid (number_p R 3 136 A L C l q E 1 wr HWr.out.rd (by decide))
                rw [show ((1 : Nat) : Int) = 1 from rfl] at HN8
                obtain ⟨j', hj'⟩ : ∃ j', j = j' + 1 := ⟨j - 1, by omega⟩
                have htd := HTd.out
                rw [hj', tdL, if_pos hq0] at htd
                obtain ⟨dd, hdd⟩ : ∃ dd, dd = geN l L q 1 := ⟨_, rfl⟩
                obtain ⟨q1, hq1⟩ : ∃ q1, q1 = atN l L q 1 := ⟨_, rfl⟩
                rw [← hdd, ← hq1] at HN8 htd
                obtain ⟨di, hdi⟩ : ∃ di, di = geI l L q1 := ⟨_, rfl⟩
                obtain ⟨q2, hq2⟩ : ∃ q2, q2 = atN l L q1 32 := ⟨_, rfl⟩
                rw [← hdi, ← hq2] at htd
                have HTd2 := Lib.hid htd
                have hil : di.length = 32 := by rw [hdi]; exact geI_len l L q1
                have HDi := Lib.hid hdi
                have HQ2 := Lib.hid hq2
                have HJ' := Lib.hid hj'
                have hzt := zeroTdZ
                have HZt := Lib.hid tdZ_size
                generalize tdZ.toArray = ZT at *
                clear htd hdd hq1 hdi hq2 hj' hdq hq0 HTd hj0
                go_wp2_with fail
                refine HOk.out.mono ?_
                rintro e w8 ⟨rfl, rfl⟩
                clear HOk
                go_wp2_with fail
                refine HN8.out.mono ?_
                rintro e w9 ⟨rfl, hR9, hg9⟩
                have HW9 := HWr.out.call hR9 hg9
                have HO9 := HWr.out.own_call HOr.out (Nat.lt_succ_self X) hg9
                have HBt := Lib.hid (built_td dd)
                have HY0 := Lib.hid (Wy.new HW9 HO9 (Z := ZT) (tY := 84) HZt.out (tdN_len dd))
                obtain ⟨hf, hrn⟩ := lay_new w9 84 33 ZT (tdN dd) infoTd HZt.out (tdN_len dd) (Td.one _)
                have HFy := Lib.hid hf
                clear hR9 hg9 HN8 HW9 HO9 hf hrn HWr HOr HZt
                generalize hDT : tdN dd = DT at *
                have HDT := Lib.hid hDT
                clear hDT
                go_upto_region 10 with (first
                  | (refine wpList_buildT rfl 84 0 _ rfl _ rfl DT.toArray HBt.out ?_)
                  | (refine wpList_store_mid rfl _ _ _ rfl w9.heap.size 0 DT.toArray rfl rfl HFy.out.there HFy.out.size HFy.out.one ?_))
                change Code.wp _ _ _ _ ((w9.alloc (.cells ZT 84)).setCells w9.heap.size 0 DT)
                clear HBt HFy
                generalize (w9.alloc (.cells ZT 84)).setCells w9.heap.size 0 DT = w10 at *
                generalize w9.heap.size = Y at *
                have HIj := Lib.hid (id_p R 3 136 A L C l q1 E w10 HY0.out.ws.rd)
                rw [← HDi.out, ← HQ2.out] at HIj
                go_wp2_with fail
                refine HIj.out.mono ?_
                rintro e w11 ⟨rfl, hR11, hg11⟩
                have HY1 := HY0.out.call hR11 hg11
                have hbi : (bv di).length = 32 := by rw [bv_len, hil]
                have HT1 := Lib.hid (HY1.there 1 (bv di) (by omega))
                have hy2 := HY1.lay 1 (bv di) (by omega)
                rw [← HDT.out, tdN_lay dd di hil] at hy2
                have HY2 := Lib.hid hy2
                have HS1 : Hid ((Try.prog.info? 37).map (·.size) = some (bv di).toArray.size) := Lib.hid (by rw [List.size_toArray, hbi]; exact infoId)
                have HO1 := Lib.hid (all_oneCell_toArray (bv_one di))
                clear hR11 hg11 hy2 HY0 HY1 HIj hbi HDi HQ2
                generalize hDN : bv di = DN at *
                have HDN := Lib.hid hDN
                clear hDN
                go_upto_region 11 with (refine wpList_store_mid rfl _ _ _ rfl Y 1 DN.toArray rfl rfl HT1.out HS1.out HO1.out ?_)
                change Code.wp _ _ _ _ (w11.setCells Y 1 DN)
                clear HT1 HS1 HO1 HDN
                generalize w11.setCells Y 1 DN = w12 at *
                have hc66 := HY2.out.ws.cell 66 (by decide)
                rw [sqV_td hol hcl] at hc66
                have HRy := Lib.hid HY2.out.range
                have hTl : (Td.cells ⟨(dd : Int), di⟩).length = 33 := Td.len hil
                have HTl := Lib.hid hTl
                have HSy : Hid ((Try.prog.info? 84).map (·.size) = some (Td.cells ⟨(dd : Int), di⟩).length) := Lib.hid (by rw [hTl]; exact infoTd)
                have HTo := Lib.hid (Td.one ⟨(dd : Int), di⟩)
                have HNw := Lib.hid (new_cellsZ w12 (Td.cells ⟨(dd : Int), di⟩) 84)
                have HbA := Lib.hid ((Below.refl w12.heap.size w12).alloc (Nat.le_refl _) (.cells (Td.cells ⟨(dd : Int), di⟩).toArray 84))
                have HoA := Lib.hid (own_keep HY2.out.own HbA.out)
                have HXl : Hid (X + 1 ≤ (w12.alloc (.cells (Td.cells ⟨(dd : Int), di⟩).toArray 84)).heap.size) := Lib.hid (by have h1 := HY2.out.ws.hXs; have h2 := HbA.out.size; omega)
                clear hTl
                generalize hDY : Td.cells ⟨(dd : Int), di⟩ = DY at *
                have HDY := Lib.hid hDY
                clear hDY
                go_wp2_with (first
                  | (refine wpList_load_mid rfl _ _ rfl Y 0 rfl DY _ HRy.out Try.underlying84 rfl HSy.out ?_)
                  | (refine wpList_build_z rowTd _ rfl _ rfl DY rfl HTl.out ?_)
                  | (at_builtin; refine wpList_append_z rowTd _ rfl _ _ rfl (X + 1) _ ts.length (tdsV ts) rfl HoA.out w12.heap.size DY rfl HNw.out HTl.out HTo.out (by omega) HXl.out ?_))
                intro A9 C9 w13 hoE hgE
                have hws := HY2.out.ws.hXs
                obtain ⟨hWz, hOz⟩ := HY2.out.app HbA.out hoE hgE 66
                have hWp := (HY2.out.ws.belowB (HbA.out.mono (by omega))).app HoA.out (Nat.lt_succ_self X) hgE
                have hc : w13.cell? ⟨X, 66, none⟩ = some _ := hWp.cell 66 (by decide)
                have hf : w13.frozen? ⟨X, 66, none⟩ = false := hWp.rx.frozen _
                rw [(sqV_set hol hcl).2.1] at hWz
                have HWz := Lib.hid hWz
                have HOz := Lib.hid hOz
                clear hWz hOz hWp hoE hgE HY2 HRy HTl HSy HTo HNw HbA HoA HXl hc66 hws
                go_wp2_with fail
                have hj2 := HJ'.out
                go_roundw
                case rel => exact ⟨j', q2, ts ++ [⟨(dd : Int), di⟩], A9, C9, by go_num, by omega, by simp; omega, Lib.hid (fun t ht => by
                  rcases List.mem_append.1 ht with ht | ht
                  · exact HTs.out t ht
                  · rw [List.mem_singleton.1 ht]; exact hil), HTd2, Lib.hid (by rw [show (ts ++ [(⟨(dd : Int), di⟩ : Td)]).length = ts.length + 1 by simp]; exact HWz.out), Lib.hid (by rw [show (ts ++ [(⟨(dd : Int), di⟩ : Td)]).length = ts.length + 1 by simp, tdsV_snoc, HDY.out]; exact HOz.out)⟩
                case measure => simp [intOf]; omega
              · -- EXITS
                by_cases hj0 : j = 0
                · have hd : ¬ (0 : Int) < (j : Int) := by omega
                  have HQe : Hid (Q = (q, ts)) := Lib.hid (by rw [← HTd.out, hj0]; rfl)
                  clear hgo hj0
                  go_upto_region 12 with (fail)
                  have HN1 := Lib.hid (number_p R 3 136 A L C l q E 2 wr.drew (HWr.out.drew 1).rd (by decide))
                  rw [show ((2 : Nat) : Int) = 2 from rfl] at HN1
                  obtain ⟨dn, hdn⟩ : ∃ dn, dn = geN l L q 2 := ⟨_, rfl⟩
                  obtain ⟨p6, hp6⟩ : ∃ p6, p6 = atN l L q 2 := ⟨_, rfl⟩
                  rw [← hdn, ← hp6] at HN1
                  have HDn := Lib.hid hdn
                  have HP6 := Lib.hid hp6
                  have dW := Lib.hid (HWr.out.drew 1)
                  have dO : Hid (wr.drew.ownsRow (X + 1) 84 33 (.slice Ai ts.length Ci) ts.length (tdsV ts)) := Lib.hid (World.ownsRow.drew HOr.out)
                  clear HWr HOr HTd hdn hp6
                  refine wp_region_noPanic ?_
                  refine wp_region_held_drew (S := (fun _ => True)) (by kernel_rfl) ?_ (fun hHeld => ?_)
                  · ((try dsimp only); done)
                  refine wpAnyH_take (i := 0) (oi := { dst := some 61, op := Op.move (Operand.tmp 0), type := 135, pos := "tx.go:164", after := #[], guard := none }) (v := ?_) rfl (by kernel_rfl) (by kernel_rfl) (by kernel_rfl) (fun _ _ _ h => h) (Or.inl ⟨by rfl, ?_⟩) (by assumption) ?_
                  rotate_left 1
                  · ((intro w hSw; (try dsimp only at hSw); go_simp) <;> with_reducible rfl)
                  (try simp only [Act.put, List.setIfInBounds_toArray, List.set_cons_zero, List.set_cons_succ])
                  refine wpAnyH_take (i := 1) (oi := { dst := some 62, op := Op.nilCheck (Operand.tmp 61), type := 0, pos := "tx.go:164", after := #[{ on := 0, ground := Ground.data }], guard := none }) (v := ?_) rfl (by kernel_rfl) (by kernel_rfl) (by kernel_rfl) (fun _ _ _ h => h) (Or.inl ⟨by rfl, ?_⟩) (by assumption) ?_
                  rotate_left 1
                  · ((intro w hSw; (try dsimp only at hSw); go_simp) <;> with_reducible rfl)
                  (try simp only [Act.put, List.setIfInBounds_toArray, List.set_cons_zero, List.set_cons_succ])
                  refine wpAnyH_take (i := 2) (oi := { dst := some 63, op := Op.fieldAddr 136 (Operand.tmp 62) 0, type := 0, pos := "tx.go:164", after := #[{ on := 1, ground := Ground.data }], guard := none }) (v := ?_) rfl (by kernel_rfl) (by kernel_rfl) (by kernel_rfl) (fun _ _ _ h => h) (Or.inl ⟨by rfl, ?_⟩) (by assumption) ?_
                  rotate_left 1
                  · ((intro w hSw; (try dsimp only at hSw); go_simp) <;> with_reducible rfl)
                  (try simp only [Act.put, List.setIfInBounds_toArray, List.set_cons_zero, List.set_cons_succ])
                  refine wpAnyH_take (i := 4) (oi := { dst := some 65, op := Op.move (Operand.tmp 0), type := 135, pos := "tx.go:164", after := #[], guard := none }) (v := ?_) rfl (by kernel_rfl) (by kernel_rfl) (by kernel_rfl) (fun _ _ _ h => h) (Or.inl ⟨by rfl, ?_⟩) (by assumption) ?_
                  rotate_left 1
                  · ((intro w hSw; (try dsimp only at hSw); go_simp) <;> with_reducible rfl)
                  (try simp only [Act.put, List.setIfInBounds_toArray, List.set_cons_zero, List.set_cons_succ])
                  refine wpAnyH_take (i := 5) (oi := { dst := some 66, op := Op.nilCheck (Operand.tmp 65), type := 0, pos := "tx.go:164", after := #[{ on := 4, ground := Ground.data }], guard := none }) (v := ?_) rfl (by kernel_rfl) (by kernel_rfl) (by kernel_rfl) (fun _ _ _ h => h) (Or.inl ⟨by rfl, ?_⟩) (by assumption) ?_
                  rotate_left 1
                  · ((intro w hSw; (try dsimp only at hSw); go_simp) <;> with_reducible rfl)
                  (try simp only [Act.put, List.setIfInBounds_toArray, List.set_cons_zero, List.set_cons_succ])
                  refine wpAnyH_take (i := 6) (oi := { dst := some 67, op := Op.fieldAddr 136 (Operand.tmp 66) 0, type := 0, pos := "tx.go:164", after := #[{ on := 5, ground := Ground.data }], guard := none }) (v := ?_) rfl (by kernel_rfl) (by kernel_rfl) (by kernel_rfl) (fun _ _ _ h => h) (Or.inl ⟨by rfl, ?_⟩) (by assumption) ?_
                  rotate_left 1
                  · ((intro w hSw; (try dsimp only at hSw); go_simp) <;> with_reducible rfl)
                  (try simp only [Act.put, List.setIfInBounds_toArray, List.set_cons_zero, List.set_cons_succ])
                  refine wpAnyH_ready (rs := [3]) (by kernel_rfl) (by simp) ?_
                  refine AllReadyH.cons (o := { dst := some 64, op := Op.call { callee := Callee.value (Operand.func 62), args := #[Operand.tmp 63, Operand.const (Value.int IntKind.i64 2)], argTypes := #[94, 3] }, type := 3, pos := "tx.go:164", after := #[{ on := 2, ground := Ground.data }], guard := none }) rfl (fun K hK => ?_) ?_
                  · go_simp
                    refine HN1.out.mono ?_
                    rintro e wB ⟨rfl, hR, hg⟩
                    have eW := Lib.hid (dW.out.call hR hg)
                    have eO := Lib.hid (dW.out.own_call dO.out (Nat.lt_succ_self X) hg)
                    clear hR hg HN1 dW dO
                    have dW := eW
                    have dO := eO
                    clear eW eO
                    have HN2 := Lib.hid (number_p R 3 136 A L C l p6 E 2 wB dW.out.rd (by decide))
                    rw [show ((2 : Nat) : Int) = 2 from rfl] at HN2
                    obtain ⟨md, hmd⟩ : ∃ md, md = geN l L p6 2 := ⟨_, rfl⟩
                    obtain ⟨p7, hp7⟩ : ∃ p7, p7 = atN l L p6 2 := ⟨_, rfl⟩
                    rw [← hmd, ← hp7] at HN2
                    have HMd := Lib.hid hmd
                    have HP7 := Lib.hid hp7
                    clear hmd hp7
                    (try go_wp2_with fail)
                    refine hK.out _ _ ?_ (fun hNew => ?_)
                    · ((try dsimp only); done)
                    clear hK K hHeld
                    have hHeld := hNew
                    clear hNew
                    (try simp only [Act.put, List.setIfInBounds_toArray, List.set_cons_zero, List.set_cons_succ])
                    refine wpAnyH_take (i := 8) (oi := { dst := some 69, op := Op.fieldAddr 65 (Operand.tmp 3) 5, type := 0, pos := "tx.go:164", after := #[{ on := 0, ground := Ground.phase }, { on := 1, ground := Ground.phase }, { on := 2, ground := Ground.phase }, { on := 3, ground := Ground.phase }, { on := 4, ground := Ground.textOnly Departure.lateStores }, { on := 5, ground := Ground.textOnly Departure.lateStores }, { on := 6, ground := Ground.textOnly Departure.lateStores }, { on := 7, ground := Ground.textOnly Departure.lateStoresUnsure }], guard := none }) (v := ?_) rfl (by kernel_rfl) (by kernel_rfl) (by kernel_rfl) (fun _ _ _ h => h) (Or.inl ⟨by rfl, ?_⟩) (by assumption) ?_
                    rotate_left 1
                    · ((intro w hSw; (try dsimp only at hSw); go_simp) <;> with_reducible rfl)
                    (try simp only [Act.put, List.setIfInBounds_toArray, List.set_cons_zero, List.set_cons_succ])
                    refine wpAnyH_ready (rs := [7]) (by kernel_rfl) (by simp) ?_
                    refine AllReadyH.cons (o := { dst := some 68, op := Op.call { callee := Callee.value (Operand.func 62), args := #[Operand.tmp 67, Operand.const (Value.int IntKind.i64 2)], argTypes := #[94, 3] }, type := 3, pos := "tx.go:164", after := #[{ on := 6, ground := Ground.data }, { on := 3, ground := Ground.chain }], guard := none }) rfl (fun K hK => ?_) ?_
                    · go_simp
                      refine HN2.out.mono ?_
                      rintro e wC ⟨rfl, hR, hg⟩
                      have eW := dW.out.call hR hg
                      have eO := dW.out.own_call dO.out (Nat.lt_succ_self X) hg
                      have hc : wC.cell? ⟨X, 67, none⟩ = some _ := eW.cell 67 (by decide)
                      have hf : wC.frozen? ⟨X, 67, none⟩ = false := eW.rx.frozen _
                      have fW := eW.set 67 (.int .i64 (dn : Int))
                      rw [(sqV_set hol hcl).2.2.1] at fW
                      have hc2 : (wC.setCell ⟨X, 67, none⟩ (.int .i64 (dn : Int))).cell? ⟨X, 68, none⟩ = some _ := fW.cell 68 (by decide)
                      have hf2 : (wC.setCell ⟨X, 67, none⟩ (.int .i64 (dn : Int))).frozen? ⟨X, 68, none⟩ = false := fW.rx.frozen _
                      have gW := fW.set 68 (.int .i64 (md : Int))
                      rw [(sqV_set hol hcl).2.2.2.1] at gW
                      have HW14 := Lib.hid gW
                      have HO14 := Lib.hid (Ws.own_set (Ws.own_set eO (Nat.lt_succ_self X) 67 (.int .i64 (dn : Int))) (Nat.lt_succ_self X) 68 (.int .i64 (md : Int)))
                      clear eW eO fW gW dW dO hR hg HN2
                      (try go_wp2_with fail)
                      refine hK.out _ _ ?_ (fun hNew => ?_)
                      · ((try dsimp only); done)
                      clear hK K hHeld
                      have hHeld := hNew
                      clear hNew
                      (try simp only [Act.put, List.setIfInBounds_toArray, List.set_cons_zero, List.set_cons_succ])
                      refine wpAnyH_ready (rs := [9]) (by kernel_rfl) (by simp) ?_
                      refine AllReadyH.cons (o := { dst := none, op := Op.store 3 (Operand.tmp 69) (Operand.tmp 64), type := 0, pos := "tx.go:164", after := #[{ on := 8, ground := Ground.data }, { on := 3, ground := Ground.data }, { on := 7, ground := Ground.chain }, { on := 0, ground := Ground.phase }, { on := 1, ground := Ground.phase }, { on := 2, ground := Ground.phase }, { on := 3, ground := Ground.phase }, { on := 4, ground := Ground.textOnly Departure.lateStores }, { on := 5, ground := Ground.textOnly Departure.lateStores }, { on := 6, ground := Ground.textOnly Departure.lateStores }, { on := 7, ground := Ground.textOnly Departure.lateStoresUnsure }], guard := none }) rfl (fun K hK => ?_) ?_
                      · go_simp
                        refine hK.out _ _ ?_ (fun hNew => ?_)
                        · ((try dsimp only); done)
                        clear hK K hHeld
                        have hHeld := hNew
                        clear hNew
                        (try simp only [Act.put, List.setIfInBounds_toArray, List.set_cons_zero, List.set_cons_succ])
                        refine wpAnyH_take (i := 10) (oi := { dst := some 70, op := Op.fieldAddr 65 (Operand.tmp 3) 6, type := 0, pos := "tx.go:164", after := #[{ on := 0, ground := Ground.phase }, { on := 1, ground := Ground.phase }, { on := 2, ground := Ground.phase }, { on := 3, ground := Ground.phase }, { on := 4, ground := Ground.phase }, { on := 5, ground := Ground.phase }, { on := 6, ground := Ground.phase }, { on := 7, ground := Ground.phase }, { on := 8, ground := Ground.phase }, { on := 9, ground := Ground.phase }], guard := none }) (v := ?_) rfl (by kernel_rfl) (by kernel_rfl) (by kernel_rfl) (fun _ _ _ h => h) (Or.inl ⟨by rfl, ?_⟩) (by assumption) ?_
                        rotate_left 1
                        · ((intro w hSw; (try dsimp only at hSw); go_simp) <;> with_reducible rfl)
                        (try simp only [Act.put, List.setIfInBounds_toArray, List.set_cons_zero, List.set_cons_succ])
                        refine wpAnyH_ready (rs := [11]) (by kernel_rfl) (by simp) ?_
                        refine AllReadyH.cons (o := { dst := none, op := Op.store 3 (Operand.tmp 70) (Operand.tmp 68), type := 0, pos := "tx.go:164", after := #[{ on := 10, ground := Ground.data }, { on := 7, ground := Ground.data }, { on := 9, ground := Ground.chain }, { on := 0, ground := Ground.phase }, { on := 1, ground := Ground.phase }, { on := 2, ground := Ground.phase }, { on := 3, ground := Ground.phase }, { on := 4, ground := Ground.phase }, { on := 5, ground := Ground.phase }, { on := 6, ground := Ground.phase }, { on := 7, ground := Ground.phase }, { on := 8, ground := Ground.phase }, { on := 9, ground := Ground.phase }], guard := none }) rfl (fun K hK => ?_) ?_
                        · go_simp
                          refine hK.out _ _ ?_ (fun hNew => ?_)
                          · ((try dsimp only); done)
                          clear hK K hHeld
                          have hHeld := hNew
                          clear hNew
                          (try simp only [Act.put, List.setIfInBounds_toArray, List.set_cons_zero, List.set_cons_succ])
                          refine wpAnyH_done (by kernel_rfl) ?_ _
                          refine NoPanic.normal ?_
                          clear hHeld hc hf hc2 hf2
                          generalize (wC.setCell ⟨X, 67, none⟩ (.int .i64 (dn : Int))).setCell ⟨X, 68, none⟩ (.int .i64 (md : Int)) = w14 at *
                          have HBy := Lib.hid (byte_p R 3 136 A L C l p7 E w14 HW14.out.rd)
                          obtain ⟨st, hst⟩ : ∃ st, st = geN l L p7 1 := ⟨_, rfl⟩
                          obtain ⟨p8, hp8⟩ : ∃ p8, p8 = atN l L p7 1 := ⟨_, rfl⟩
                          rw [← hst, ← hp8] at HBy
                          have HSt := Lib.hid hst
                          have HP8 := Lib.hid hp8
                          clear hst hp8
                          go_wp2_with fail
                          refine HBy.out.mono ?_
                          rintro e w15 ⟨rfl, hR, hg⟩
                          have HW15 := Lib.hid (HW14.out.call hR hg)
                          have HO15 := Lib.hid (HW14.out.own_call HO14.out (Nat.lt_succ_self X) hg)
                          clear hR hg HW14 HO14 HBy
                          by_cases h1 : 1 < st
                          · have hd1 : (1 : Int) < (st : Int) := by omega
                            have HFm := Lib.hid (fail_p R 3 136 A L C l p8 16 E w15 HW15.out.rd)
                            obtain ⟨p9, hp9⟩ : ∃ p9 : Pl, p9 = (fl p8.1 16, p8.2) := ⟨_, rfl⟩
                            rw [← hp9] at HFm
                            have HP9 : Hid (p9 = if 1 < st then (fl p8.1 16, p8.2) else p8) := Lib.hid (by rw [if_pos h1]; exact hp9)
                            clear h1 hp9
                            go_wp2_with fail
                            refine HFm.out.mono ?_
                            rintro e w16 ⟨rfl, hR, hg⟩
                            have HW16 := Lib.hid (HW15.out.call hR hg)
                            have HO16 := Lib.hid (HW15.out.own_call HO15.out (Nat.lt_succ_self X) hg)
                            clear hR hg HW15 HO15 HFm
                            have hcs : w16.cell? ⟨X, 69, none⟩ = some _ := HW16.out.cell 69 (by decide)
                            have hfs : w16.frozen? ⟨X, 69, none⟩ = false := HW16.out.rx.frozen _
                            have hW17 := HW16.out.set 69 (.bool ((st : Int) == 1))
                            rw [(sqV_set hol hcl).2.2.2.2] at hW17
                            have HW17 := Lib.hid hW17
                            have HO17 := Lib.hid (Ws.own_set HO16.out (Nat.lt_succ_self X) 69 (.bool ((st : Int) == 1)))
                            clear hW17 HW16 HO16
                            go_upto_region 17 with (fail)
                            clear hcs hfs
                            generalize w16.setCell ⟨X, 69, none⟩ (.bool ((st : Int) == 1)) = w17 at *
                            have hl := HW17.out.dl
                            obtain ⟨f1, f2, f3, f4, f5⟩ := HW17.out.fin (B := X + 1) (e := 84) (sz := 33) (n := ts.length) (v := .slice Ai ts.length Ci) (xs := tdsV ts)
                            have HRg := Lib.hid HW17.out.range
                            have HLs : Hid ((Try.prog.info? 65).map (·.size) = some (sqV k br og cu (.slice Ai ts.length Ci) dn md ((st : Int) == 1)).length) := Lib.hid (by rw [hl]; exact infoSq)
                            have HLs2 : Hid ((Try.prog.info? 65).map (·.size) = some (sqV k br og cu (.slice Ai ts.length Ci) dn md ((st : Int) == 1)).toArray.size) := Lib.hid (by rw [List.size_toArray]; exact HLs.out)
                            have HOn := Lib.hid (all_oneCell_toArray (cs := sqV k br og cu (.slice Ai ts.length Ci) dn md ((st : Int) == 1)) (sqV_one rfl))
                            have HF1 := Lib.hid f1
                            have HF2 := Lib.hid f2
                            have HF3 := Lib.hid f3
                            have HF4 := Lib.hid f4
                            have HF5 := Lib.hid (own_base (f5 HO17.out (Nat.lt_succ_self X)) (by have h1 := HW17.out.hO; have h2 := HW17.out.hX; omega : w.heap.size ≤ X + 1))
                            clear hl f1 f2 f3 f4 f5 HW17 HO17
                            generalize hDF : sqV k br og cu (.slice Ai ts.length Ci) dn md ((st : Int) == 1) = DF at *
                            have HDF := Lib.hid hDF
                            clear hDF
                            go_wp2_with (first
                              | (refine wpList_load_mid rfl _ _ rfl X 0 rfl DF _ HRg.out Try.underlying65 rfl HLs.out ?_)
                              | (refine wpList_store_mid rfl _ _ _ rfl w.heap.size 0 DF.toArray rfl rfl HF4.out HLs2.out HOn.out ?_))
                            refine bodyPost_ret (results_cell_row rfl _ _ w.heap.size _ _ _ _ rfl HF3.out Try.underlying65 rfl HLs2.out) rfl ?_
                            have eK : sK l L p = k := HK.out.symm
                            have e1 : sP1 l L p = p1 := HP1.out.symm
                            have eB : sBr l L p = br := by unfold sBr; rw [e1]; exact HBr.out.symm
                            have e2 : sP2 l L p = p2 := by unfold sP2; rw [e1]; exact HP2.out.symm
                            have eO : sOg l L p = og := by unfold sOg; rw [e2]; exact HOg.out.symm
                            have e3 : sP3 l L p = p3 := by unfold sP3; rw [e2]; exact HP3.out.symm
                            have eC : sCu l L p = cu := by unfold sCu; rw [e3]; exact HCu.out.symm
                            have e4 : sP4 l L p = p4 := by unfold sP4; rw [e3]; exact HP4.out.symm
                            have eM : sM l L p = m := by unfold sM; rw [e4]; exact HM.out.symm
                            have e5 : sP5 l L p = p5 := by unfold sP5; rw [e4]; exact HP5.out.symm
                            have eQ : sQ l L p = (q, ts) := by unfold sQ; rw [eM, e5]; exact HQ.out.symm.trans HQe.out
                            have eD : sDn l L p = dn := by unfold sDn; rw [eQ]; exact HDn.out.symm
                            have e6 : sP6 l L p = p6 := by unfold sP6; rw [eQ]; exact HP6.out.symm
                            have eMd : sMd l L p = md := by unfold sMd; rw [e6]; exact HMd.out.symm
                            have e7 : sP7 l L p = p7 := by unfold sP7; rw [e6]; exact HP7.out.symm
                            have eS : sSt l L p = st := by unfold sSt; rw [e7]; exact HSt.out.symm
                            have e8 : sP8 l L p = p8 := by unfold sP8; rw [e7]; exact HP8.out.symm
                            have e9 : sP9 l L p = p9 := by unfold sP9; rw [eS, e8]; exact HP9.out.symm
                            have eE : sqE l L p = p9 := by unfold sqE; rw [if_neg (by rw [eK]; exact HKn.out)]; exact e9
                            have eqP : sqP l L p = ⟨(k : Nat), br, og, cu, ts, (dn : Nat), (md : Nat), st == 1⟩ := by unfold sqP; rw [if_neg (by rw [eK]; exact HKn.out), eK, eB, eO, eC, eQ, eD, eMd, eS]
                            have eb : ((st : Int) == 1) = (st == 1) := by rw [Bool.eq_iff_iff]; simp; omega
                            unfold SqRet
                            rw [eE, eqP]
                            exact ⟨HF1.out, HF2.out, Ai, Ci, by rw [← HDF.out, eb]; rfl, HF5.out⟩
                          · have hd1 : ¬ (1 : Int) < (st : Int) := by omega
                            obtain ⟨p9, hp9⟩ : ∃ p9 : Pl, p9 = p8 := ⟨_, rfl⟩
                            have HP9 : Hid (p9 = if 1 < st then (fl p8.1 16, p8.2) else p8) := Lib.hid (by rw [if_neg h1]; exact hp9)
                            rw [← hp9] at HW15
                            have HW16 := HW15
                            have HO16 := HO15
                            obtain ⟨w16, hw16⟩ : ∃ w16, w16 = w15 := ⟨_, rfl⟩
                            subst hw16
                            clear h1 hp9 HW15 HO15
                            have hcs : w16.cell? ⟨X, 69, none⟩ = some _ := HW16.out.cell 69 (by decide)
                            have hfs : w16.frozen? ⟨X, 69, none⟩ = false := HW16.out.rx.frozen _
                            have hW17 := HW16.out.set 69 (.bool ((st : Int) == 1))
                            rw [(sqV_set hol hcl).2.2.2.2] at hW17
                            have HW17 := Lib.hid hW17
                            have HO17 := Lib.hid (Ws.own_set HO16.out (Nat.lt_succ_self X) 69 (.bool ((st : Int) == 1)))
                            clear hW17 HW16 HO16
                            go_upto_region 17 with (fail)
                            clear hcs hfs
                            generalize w16.setCell ⟨X, 69, none⟩ (.bool ((st : Int) == 1)) = w17 at *
                            have hl := HW17.out.dl
                            obtain ⟨f1, f2, f3, f4, f5⟩ := HW17.out.fin (B := X + 1) (e := 84) (sz := 33) (n := ts.length) (v := .slice Ai ts.length Ci) (xs := tdsV ts)
                            have HRg := Lib.hid HW17.out.range
                            have HLs : Hid ((Try.prog.info? 65).map (·.size) = some (sqV k br og cu (.slice Ai ts.length Ci) dn md ((st : Int) == 1)).length) := Lib.hid (by rw [hl]; exact infoSq)
                            have HLs2 : Hid ((Try.prog.info? 65).map (·.size) = some (sqV k br og cu (.slice Ai ts.length Ci) dn md ((st : Int) == 1)).toArray.size) := Lib.hid (by rw [List.size_toArray]; exact HLs.out)
                            have HOn := Lib.hid (all_oneCell_toArray (cs := sqV k br og cu (.slice Ai ts.length Ci) dn md ((st : Int) == 1)) (sqV_one rfl))
                            have HF1 := Lib.hid f1
                            have HF2 := Lib.hid f2
                            have HF3 := Lib.hid f3
                            have HF4 := Lib.hid f4
                            have HF5 := Lib.hid (own_base (f5 HO17.out (Nat.lt_succ_self X)) (by have h1 := HW17.out.hO; have h2 := HW17.out.hX; omega : w.heap.size ≤ X + 1))
                            clear hl f1 f2 f3 f4 f5 HW17 HO17
                            generalize hDF : sqV k br og cu (.slice Ai ts.length Ci) dn md ((st : Int) == 1) = DF at *
                            have HDF := Lib.hid hDF
                            clear hDF
                            go_wp2_with (first
                              | (refine wpList_load_mid rfl _ _ rfl X 0 rfl DF _ HRg.out Try.underlying65 rfl HLs.out ?_)
                              | (refine wpList_store_mid rfl _ _ _ rfl w.heap.size 0 DF.toArray rfl rfl HF4.out HLs2.out HOn.out ?_))
                            refine bodyPost_ret (results_cell_row rfl _ _ w.heap.size _ _ _ _ rfl HF3.out Try.underlying65 rfl HLs2.out) rfl ?_
                            have eK : sK l L p = k := HK.out.symm
                            have e1 : sP1 l L p = p1 := HP1.out.symm
                            have eB : sBr l L p = br := by unfold sBr; rw [e1]; exact HBr.out.symm
                            have e2 : sP2 l L p = p2 := by unfold sP2; rw [e1]; exact HP2.out.symm
                            have eO : sOg l L p = og := by unfold sOg; rw [e2]; exact HOg.out.symm
                            have e3 : sP3 l L p = p3 := by unfold sP3; rw [e2]; exact HP3.out.symm
                            have eC : sCu l L p = cu := by unfold sCu; rw [e3]; exact HCu.out.symm
                            have e4 : sP4 l L p = p4 := by unfold sP4; rw [e3]; exact HP4.out.symm
                            have eM : sM l L p = m := by unfold sM; rw [e4]; exact HM.out.symm
                            have e5 : sP5 l L p = p5 := by unfold sP5; rw [e4]; exact HP5.out.symm
                            have eQ : sQ l L p = (q, ts) := by unfold sQ; rw [eM, e5]; exact HQ.out.symm.trans HQe.out
                            have eD : sDn l L p = dn := by unfold sDn; rw [eQ]; exact HDn.out.symm
                            have e6 : sP6 l L p = p6 := by unfold sP6; rw [eQ]; exact HP6.out.symm
                            have eMd : sMd l L p = md := by unfold sMd; rw [e6]; exact HMd.out.symm
                            have e7 : sP7 l L p = p7 := by unfold sP7; rw [e6]; exact HP7.out.symm
                            have eS : sSt l L p = st := by unfold sSt; rw [e7]; exact HSt.out.symm
                            have e8 : sP8 l L p = p8 := by unfold sP8; rw [e7]; exact HP8.out.symm
                            have e9 : sP9 l L p = p9 := by unfold sP9; rw [eS, e8]; exact HP9.out.symm
                            have eE : sqE l L p = p9 := by unfold sqE; rw [if_neg (by rw [eK]; exact HKn.out)]; exact e9
                            have eqP : sqP l L p = ⟨(k : Nat), br, og, cu, ts, (dn : Nat), (md : Nat), st == 1⟩ := by unfold sqP; rw [if_neg (by rw [eK]; exact HKn.out), eK, eB, eO, eC, eQ, eD, eMd, eS]
                            have eb : ((st : Int) == 1) = (st == 1) := by rw [Bool.eq_iff_iff]; simp; omega
                            unfold SqRet
                            rw [eE, eqP]
                            exact ⟨HF1.out, HF2.out, Ai, Ci, by rw [← HDF.out, eb]; rfl, HF5.out⟩
                        exact AllReadyH.nil
                      exact AllReadyH.nil
                    exact AllReadyH.nil
                  exact AllReadyH.nil
                · have hq0 : ¬ q.1 = 0 := fun e => hgo ⟨by omega, e⟩
                  have hd : (0 : Int) < (j : Int) := by omega
                  have hdq : (q.1 == 0) = false := by simp [hq0]
                  have HOk := Lib.hid (ok_p R 3 136 A L C l q E wr HWr.out.rd)
                  rw [hdq] at HOk
                  have HQe : Hid (Q = (q, ts)) := Lib.hid (by
                    obtain ⟨j', hj'⟩ : ∃ j', j = j' + 1 := ⟨j - 1, by omega⟩
                    rw [← HTd.out, hj', tdL, if_neg hq0])
                  clear hgo hj0 hq0 hdq
                  go_wp2_with fail
                  refine HOk.out.mono ?_
                  rintro e w8 ⟨rfl, rfl⟩
                  clear HOk
                  go_upto_region 12 with (fail)
                  have HN1 := Lib.hid (number_p R 3 136 A L C l q E 2 w8.drew (HWr.out.drew 1).rd (by decide))
                  rw [show ((2 : Nat) : Int) = 2 from rfl] at HN1
                  obtain ⟨dn, hdn⟩ : ∃ dn, dn = geN l L q 2 := ⟨_, rfl⟩
                  obtain ⟨p6, hp6⟩ : ∃ p6, p6 = atN l L q 2 := ⟨_, rfl⟩
                  rw [← hdn, ← hp6] at HN1
                  have HDn := Lib.hid hdn
                  have HP6 := Lib.hid hp6
                  have dW := Lib.hid (HWr.out.drew 1)
                  have dO : Hid (w8.drew.ownsRow (X + 1) 84 33 (.slice Ai ts.length Ci) ts.length (tdsV ts)) := Lib.hid (World.ownsRow.drew HOr.out)
                  clear HWr HOr HTd hdn hp6
                  refine wp_region_noPanic ?_
                  refine wp_region_held_drew (S := (fun _ => True)) (by kernel_rfl) ?_ (fun hHeld => ?_)
                  · ((try dsimp only); done)
                  refine wpAnyH_take (i := 0) (oi := { dst := some 61, op := Op.move (Operand.tmp 0), type := 135, pos := "tx.go:164", after := #[], guard := none }) (v := ?_) rfl (by kernel_rfl) (by kernel_rfl) (by kernel_rfl) (fun _ _ _ h => h) (Or.inl ⟨by rfl, ?_⟩) (by assumption) ?_
                  rotate_left 1
                  · ((intro w hSw; (try dsimp only at hSw); go_simp) <;> with_reducible rfl)
                  (try simp only [Act.put, List.setIfInBounds_toArray, List.set_cons_zero, List.set_cons_succ])
                  refine wpAnyH_take (i := 1) (oi := { dst := some 62, op := Op.nilCheck (Operand.tmp 61), type := 0, pos := "tx.go:164", after := #[{ on := 0, ground := Ground.data }], guard := none }) (v := ?_) rfl (by kernel_rfl) (by kernel_rfl) (by kernel_rfl) (fun _ _ _ h => h) (Or.inl ⟨by rfl, ?_⟩) (by assumption) ?_
                  rotate_left 1
                  · ((intro w hSw; (try dsimp only at hSw); go_simp) <;> with_reducible rfl)
                  (try simp only [Act.put, List.setIfInBounds_toArray, List.set_cons_zero, List.set_cons_succ])
                  refine wpAnyH_take (i := 2) (oi := { dst := some 63, op := Op.fieldAddr 136 (Operand.tmp 62) 0, type := 0, pos := "tx.go:164", after := #[{ on := 1, ground := Ground.data }], guard := none }) (v := ?_) rfl (by kernel_rfl) (by kernel_rfl) (by kernel_rfl) (fun _ _ _ h => h) (Or.inl ⟨by rfl, ?_⟩) (by assumption) ?_
                  rotate_left 1
                  · ((intro w hSw; (try dsimp only at hSw); go_simp) <;> with_reducible rfl)
                  (try simp only [Act.put, List.setIfInBounds_toArray, List.set_cons_zero, List.set_cons_succ])
                  refine wpAnyH_take (i := 4) (oi := { dst := some 65, op := Op.move (Operand.tmp 0), type := 135, pos := "tx.go:164", after := #[], guard := none }) (v := ?_) rfl (by kernel_rfl) (by kernel_rfl) (by kernel_rfl) (fun _ _ _ h => h) (Or.inl ⟨by rfl, ?_⟩) (by assumption) ?_
                  rotate_left 1
                  · ((intro w hSw; (try dsimp only at hSw); go_simp) <;> with_reducible rfl)
                  (try simp only [Act.put, List.setIfInBounds_toArray, List.set_cons_zero, List.set_cons_succ])
                  refine wpAnyH_take (i := 5) (oi := { dst := some 66, op := Op.nilCheck (Operand.tmp 65), type := 0, pos := "tx.go:164", after := #[{ on := 4, ground := Ground.data }], guard := none }) (v := ?_) rfl (by kernel_rfl) (by kernel_rfl) (by kernel_rfl) (fun _ _ _ h => h) (Or.inl ⟨by rfl, ?_⟩) (by assumption) ?_
                  rotate_left 1
                  · ((intro w hSw; (try dsimp only at hSw); go_simp) <;> with_reducible rfl)
                  (try simp only [Act.put, List.setIfInBounds_toArray, List.set_cons_zero, List.set_cons_succ])
                  refine wpAnyH_take (i := 6) (oi := { dst := some 67, op := Op.fieldAddr 136 (Operand.tmp 66) 0, type := 0, pos := "tx.go:164", after := #[{ on := 5, ground := Ground.data }], guard := none }) (v := ?_) rfl (by kernel_rfl) (by kernel_rfl) (by kernel_rfl) (fun _ _ _ h => h) (Or.inl ⟨by rfl, ?_⟩) (by assumption) ?_
                  rotate_left 1
                  · ((intro w hSw; (try dsimp only at hSw); go_simp) <;> with_reducible rfl)
                  (try simp only [Act.put, List.setIfInBounds_toArray, List.set_cons_zero, List.set_cons_succ])
                  refine wpAnyH_ready (rs := [3]) (by kernel_rfl) (by simp) ?_
                  refine AllReadyH.cons (o := { dst := some 64, op := Op.call { callee := Callee.value (Operand.func 62), args := #[Operand.tmp 63, Operand.const (Value.int IntKind.i64 2)], argTypes := #[94, 3] }, type := 3, pos := "tx.go:164", after := #[{ on := 2, ground := Ground.data }], guard := none }) rfl (fun K hK => ?_) ?_
                  · go_simp
                    refine HN1.out.mono ?_
                    rintro e wB ⟨rfl, hR, hg⟩
                    have eW := Lib.hid (dW.out.call hR hg)
                    have eO := Lib.hid (dW.out.own_call dO.out (Nat.lt_succ_self X) hg)
                    clear hR hg HN1 dW dO
                    have dW := eW
                    have dO := eO
                    clear eW eO
                    have HN2 := Lib.hid (number_p R 3 136 A L C l p6 E 2 wB dW.out.rd (by decide))
                    rw [show ((2 : Nat) : Int) = 2 from rfl] at HN2
                    obtain ⟨md, hmd⟩ : ∃ md, md = geN l L p6 2 := ⟨_, rfl⟩
                    obtain ⟨p7, hp7⟩ : ∃ p7, p7 = atN l L p6 2 := ⟨_, rfl⟩
                    rw [← hmd, ← hp7] at HN2
                    have HMd := Lib.hid hmd
                    have HP7 := Lib.hid hp7
                    clear hmd hp7
                    (try go_wp2_with fail)
                    refine hK.out _ _ ?_ (fun hNew => ?_)
                    · ((try dsimp only); done)
                    clear hK K hHeld
                    have hHeld := hNew
                    clear hNew
                    (try simp only [Act.put, List.setIfInBounds_toArray, List.set_cons_zero, List.set_cons_succ])
                    refine wpAnyH_take (i := 8) (oi := { dst := some 69, op := Op.fieldAddr 65 (Operand.tmp 3) 5, type := 0, pos := "tx.go:164", after := #[{ on := 0, ground := Ground.phase }, { on := 1, ground := Ground.phase }, { on := 2, ground := Ground.phase }, { on := 3, ground := Ground.phase }, { on := 4, ground := Ground.textOnly Departure.lateStores }, { on := 5, ground := Ground.textOnly Departure.lateStores }, { on := 6, ground := Ground.textOnly Departure.lateStores }, { on := 7, ground := Ground.textOnly Departure.lateStoresUnsure }], guard := none }) (v := ?_) rfl (by kernel_rfl) (by kernel_rfl) (by kernel_rfl) (fun _ _ _ h => h) (Or.inl ⟨by rfl, ?_⟩) (by assumption) ?_
                    rotate_left 1
                    · ((intro w hSw; (try dsimp only at hSw); go_simp) <;> with_reducible rfl)
                    (try simp only [Act.put, List.setIfInBounds_toArray, List.set_cons_zero, List.set_cons_succ])
                    refine wpAnyH_ready (rs := [7]) (by kernel_rfl) (by simp) ?_
                    refine AllReadyH.cons (o := { dst := some 68, op := Op.call { callee := Callee.value (Operand.func 62), args := #[Operand.tmp 67, Operand.const (Value.int IntKind.i64 2)], argTypes := #[94, 3] }, type := 3, pos := "tx.go:164", after := #[{ on := 6, ground := Ground.data }, { on := 3, ground := Ground.chain }], guard := none }) rfl (fun K hK => ?_) ?_
                    · go_simp
                      refine HN2.out.mono ?_
                      rintro e wC ⟨rfl, hR, hg⟩
                      have eW := dW.out.call hR hg
                      have eO := dW.out.own_call dO.out (Nat.lt_succ_self X) hg
                      have hc : wC.cell? ⟨X, 67, none⟩ = some _ := eW.cell 67 (by decide)
                      have hf : wC.frozen? ⟨X, 67, none⟩ = false := eW.rx.frozen _
                      have fW := eW.set 67 (.int .i64 (dn : Int))
                      rw [(sqV_set hol hcl).2.2.1] at fW
                      have hc2 : (wC.setCell ⟨X, 67, none⟩ (.int .i64 (dn : Int))).cell? ⟨X, 68, none⟩ = some _ := fW.cell 68 (by decide)
                      have hf2 : (wC.setCell ⟨X, 67, none⟩ (.int .i64 (dn : Int))).frozen? ⟨X, 68, none⟩ = false := fW.rx.frozen _
                      have gW := fW.set 68 (.int .i64 (md : Int))
                      rw [(sqV_set hol hcl).2.2.2.1] at gW
                      have HW14 := Lib.hid gW
                      have HO14 := Lib.hid (Ws.own_set (Ws.own_set eO (Nat.lt_succ_self X) 67 (.int .i64 (dn : Int))) (Nat.lt_succ_self X) 68 (.int .i64 (md : Int)))
                      clear eW eO fW gW dW dO hR hg HN2
                      (try go_wp2_with fail)
                      refine hK.out _ _ ?_ (fun hNew => ?_)
                      · ((try dsimp only); done)
                      clear hK K hHeld
                      have hHeld := hNew
                      clear hNew
                      (try simp only [Act.put, List.setIfInBounds_toArray, List.set_cons_zero, List.set_cons_succ])
                      refine wpAnyH_ready (rs := [9]) (by kernel_rfl) (by simp) ?_
                      refine AllReadyH.cons (o := { dst := none, op := Op.store 3 (Operand.tmp 69) (Operand.tmp 64), type := 0, pos := "tx.go:164", after := #[{ on := 8, ground := Ground.data }, { on := 3, ground := Ground.data }, { on := 7, ground := Ground.chain }, { on := 0, ground := Ground.phase }, { on := 1, ground := Ground.phase }, { on := 2, ground := Ground.phase }, { on := 3, ground := Ground.phase }, { on := 4, ground := Ground.textOnly Departure.lateStores }, { on := 5, ground := Ground.textOnly Departure.lateStores }, { on := 6, ground := Ground.textOnly Departure.lateStores }, { on := 7, ground := Ground.textOnly Departure.lateStoresUnsure }], guard := none }) rfl (fun K hK => ?_) ?_
                      · go_simp
                        refine hK.out _ _ ?_ (fun hNew => ?_)
                        · ((try dsimp only); done)
                        clear hK K hHeld
                        have hHeld := hNew
                        clear hNew
                        (try simp only [Act.put, List.setIfInBounds_toArray, List.set_cons_zero, List.set_cons_succ])
                        refine wpAnyH_take (i := 10) (oi := { dst := some 70, op := Op.fieldAddr 65 (Operand.tmp 3) 6, type := 0, pos := "tx.go:164", after := #[{ on := 0, ground := Ground.phase }, { on := 1, ground := Ground.phase }, { on := 2, ground := Ground.phase }, { on := 3, ground := Ground.phase }, { on := 4, ground := Ground.phase }, { on := 5, ground := Ground.phase }, { on := 6, ground := Ground.phase }, { on := 7, ground := Ground.phase }, { on := 8, ground := Ground.phase }, { on := 9, ground := Ground.phase }], guard := none }) (v := ?_) rfl (by kernel_rfl) (by kernel_rfl) (by kernel_rfl) (fun _ _ _ h => h) (Or.inl ⟨by rfl, ?_⟩) (by assumption) ?_
                        rotate_left 1
                        · ((intro w hSw; (try dsimp only at hSw); go_simp) <;> with_reducible rfl)
                        (try simp only [Act.put, List.setIfInBounds_toArray, List.set_cons_zero, List.set_cons_succ])
                        refine wpAnyH_ready (rs := [11]) (by kernel_rfl) (by simp) ?_
                        refine AllReadyH.cons (o := { dst := none, op := Op.store 3 (Operand.tmp 70) (Operand.tmp 68), type := 0, pos := "tx.go:164", after := #[{ on := 10, ground := Ground.data }, { on := 7, ground := Ground.data }, { on := 9, ground := Ground.chain }, { on := 0, ground := Ground.phase }, { on := 1, ground := Ground.phase }, { on := 2, ground := Ground.phase }, { on := 3, ground := Ground.phase }, { on := 4, ground := Ground.phase }, { on := 5, ground := Ground.phase }, { on := 6, ground := Ground.phase }, { on := 7, ground := Ground.phase }, { on := 8, ground := Ground.phase }, { on := 9, ground := Ground.phase }], guard := none }) rfl (fun K hK => ?_) ?_
                        · go_simp
                          refine hK.out _ _ ?_ (fun hNew => ?_)
                          · ((try dsimp only); done)
                          clear hK K hHeld
                          have hHeld := hNew
                          clear hNew
                          (try simp only [Act.put, List.setIfInBounds_toArray, List.set_cons_zero, List.set_cons_succ])
                          refine wpAnyH_done (by kernel_rfl) ?_ _
                          refine NoPanic.normal ?_
                          clear hHeld hc hf hc2 hf2
                          generalize (wC.setCell ⟨X, 67, none⟩ (.int .i64 (dn : Int))).setCell ⟨X, 68, none⟩ (.int .i64 (md : Int)) = w14 at *
                          have HBy := Lib.hid (byte_p R 3 136 A L C l p7 E w14 HW14.out.rd)
                          obtain ⟨st, hst⟩ : ∃ st, st = geN l L p7 1 := ⟨_, rfl⟩
                          obtain ⟨p8, hp8⟩ : ∃ p8, p8 = atN l L p7 1 := ⟨_, rfl⟩
                          rw [← hst, ← hp8] at HBy
                          have HSt := Lib.hid hst
                          have HP8 := Lib.hid hp8
                          clear hst hp8
                          go_wp2_with fail
                          refine HBy.out.mono ?_
                          rintro e w15 ⟨rfl, hR, hg⟩
                          have HW15 := Lib.hid (HW14.out.call hR hg)
                          have HO15 := Lib.hid (HW14.out.own_call HO14.out (Nat.lt_succ_self X) hg)
                          clear hR hg HW14 HO14 HBy
                          by_cases h1 : 1 < st
                          · have hd1 : (1 : Int) < (st : Int) := by omega
                            have HFm := Lib.hid (fail_p R 3 136 A L C l p8 16 E w15 HW15.out.rd)
                            obtain ⟨p9, hp9⟩ : ∃ p9 : Pl, p9 = (fl p8.1 16, p8.2) := ⟨_, rfl⟩
                            rw [← hp9] at HFm
                            have HP9 : Hid (p9 = if 1 < st then (fl p8.1 16, p8.2) else p8) := Lib.hid (by rw [if_pos h1]; exact hp9)
                            clear h1 hp9
                            go_wp2_with fail
                            refine HFm.out.mono ?_
                            rintro e w16 ⟨rfl, hR, hg⟩
                            have HW16 := Lib.hid (HW15.out.call hR hg)
                            have HO16 := Lib.hid (HW15.out.own_call HO15.out (Nat.lt_succ_self X) hg)
                            clear hR hg HW15 HO15 HFm
                            have hcs : w16.cell? ⟨X, 69, none⟩ = some _ := HW16.out.cell 69 (by decide)
                            have hfs : w16.frozen? ⟨X, 69, none⟩ = false := HW16.out.rx.frozen _
                            have hW17 := HW16.out.set 69 (.bool ((st : Int) == 1))
                            rw [(sqV_set hol hcl).2.2.2.2] at hW17
                            have HW17 := Lib.hid hW17
                            have HO17 := Lib.hid (Ws.own_set HO16.out (Nat.lt_succ_self X) 69 (.bool ((st : Int) == 1)))
                            clear hW17 HW16 HO16
                            go_upto_region 17 with (fail)
                            clear hcs hfs
                            generalize w16.setCell ⟨X, 69, none⟩ (.bool ((st : Int) == 1)) = w17 at *
                            have hl := HW17.out.dl
                            obtain ⟨f1, f2, f3, f4, f5⟩ := HW17.out.fin (B := X + 1) (e := 84) (sz := 33) (n := ts.length) (v := .slice Ai ts.length Ci) (xs := tdsV ts)
                            have HRg := Lib.hid HW17.out.range
                            have HLs : Hid ((Try.prog.info? 65).map (·.size) = some (sqV k br og cu (.slice Ai ts.length Ci) dn md ((st : Int) == 1)).length) := Lib.hid (by rw [hl]; exact infoSq)
                            have HLs2 : Hid ((Try.prog.info? 65).map (·.size) = some (sqV k br og cu (.slice Ai ts.length Ci) dn md ((st : Int) == 1)).toArray.size) := Lib.hid (by rw [List.size_toArray]; exact HLs.out)
                            have HOn := Lib.hid (all_oneCell_toArray (cs := sqV k br og cu (.slice Ai ts.length Ci) dn md ((st : Int) == 1)) (sqV_one rfl))
                            have HF1 := Lib.hid f1
                            have HF2 := Lib.hid f2
                            have HF3 := Lib.hid f3
                            have HF4 := Lib.hid f4
                            have HF5 := Lib.hid (own_base (f5 HO17.out (Nat.lt_succ_self X)) (by have h1 := HW17.out.hO; have h2 := HW17.out.hX; omega : w.heap.size ≤ X + 1))
                            clear hl f1 f2 f3 f4 f5 HW17 HO17
                            generalize hDF : sqV k br og cu (.slice Ai ts.length Ci) dn md ((st : Int) == 1) = DF at *
                            have HDF := Lib.hid hDF
                            clear hDF
                            go_wp2_with (first
                              | (refine wpList_load_mid rfl _ _ rfl X 0 rfl DF _ HRg.out Try.underlying65 rfl HLs.out ?_)
                              | (refine wpList_store_mid rfl _ _ _ rfl w.heap.size 0 DF.toArray rfl rfl HF4.out HLs2.out HOn.out ?_))
                            refine bodyPost_ret (results_cell_row rfl _ _ w.heap.size _ _ _ _ rfl HF3.out Try.underlying65 rfl HLs2.out) rfl ?_
                            have eK : sK l L p = k := HK.out.symm
                            have e1 : sP1 l L p = p1 := HP1.out.symm
                            have eB : sBr l L p = br := by unfold sBr; rw [e1]; exact HBr.out.symm
                            have e2 : sP2 l L p = p2 := by unfold sP2; rw [e1]; exact HP2.out.symm
                            have eO : sOg l L p = og := by unfold sOg; rw [e2]; exact HOg.out.symm
                            have e3 : sP3 l L p = p3 := by unfold sP3; rw [e2]; exact HP3.out.symm
                            have eC : sCu l L p = cu := by unfold sCu; rw [e3]; exact HCu.out.symm
                            have e4 : sP4 l L p = p4 := by unfold sP4; rw [e3]; exact HP4.out.symm
                            have eM : sM l L p = m := by unfold sM; rw [e4]; exact HM.out.symm
                            have e5 : sP5 l L p = p5 := by unfold sP5; rw [e4]; exact HP5.out.symm
                            have eQ : sQ l L p = (q, ts) := by unfold sQ; rw [eM, e5]; exact HQ.out.symm.trans HQe.out
                            have eD : sDn l L p = dn := by unfold sDn; rw [eQ]; exact HDn.out.symm
                            have e6 : sP6 l L p = p6 := by unfold sP6; rw [eQ]; exact HP6.out.symm
                            have eMd : sMd l L p = md := by unfold sMd; rw [e6]; exact HMd.out.symm
                            have e7 : sP7 l L p = p7 := by unfold sP7; rw [e6]; exact HP7.out.symm
                            have eS : sSt l L p = st := by unfold sSt; rw [e7]; exact HSt.out.symm
                            have e8 : sP8 l L p = p8 := by unfold sP8; rw [e7]; exact HP8.out.symm
                            have e9 : sP9 l L p = p9 := by unfold sP9; rw [eS, e8]; exact HP9.out.symm
                            have eE : sqE l L p = p9 := by unfold sqE; rw [if_neg (by rw [eK]; exact HKn.out)]; exact e9
                            have eqP : sqP l L p = ⟨(k : Nat), br, og, cu, ts, (dn : Nat), (md : Nat), st == 1⟩ := by unfold sqP; rw [if_neg (by rw [eK]; exact HKn.out), eK, eB, eO, eC, eQ, eD, eMd, eS]
                            have eb : ((st : Int) == 1) = (st == 1) := by rw [Bool.eq_iff_iff]; simp; omega
                            unfold SqRet
                            rw [eE, eqP]
                            exact ⟨HF1.out, HF2.out, Ai, Ci, by rw [← HDF.out, eb]; rfl, HF5.out⟩
                          · have hd1 : ¬ (1 : Int) < (st : Int) := by omega
                            obtain ⟨p9, hp9⟩ : ∃ p9 : Pl, p9 = p8 := ⟨_, rfl⟩
                            have HP9 : Hid (p9 = if 1 < st then (fl p8.1 16, p8.2) else p8) := Lib.hid (by rw [if_neg h1]; exact hp9)
                            rw [← hp9] at HW15
                            have HW16 := HW15
                            have HO16 := HO15
                            obtain ⟨w16, hw16⟩ : ∃ w16, w16 = w15 := ⟨_, rfl⟩
                            subst hw16
                            clear h1 hp9 HW15 HO15
                            have hcs : w16.cell? ⟨X, 69, none⟩ = some _ := HW16.out.cell 69 (by decide)
                            have hfs : w16.frozen? ⟨X, 69, none⟩ = false := HW16.out.rx.frozen _
                            have hW17 := HW16.out.set 69 (.bool ((st : Int) == 1))
                            rw [(sqV_set hol hcl).2.2.2.2] at hW17
                            have HW17 := Lib.hid hW17
                            have HO17 := Lib.hid (Ws.own_set HO16.out (Nat.lt_succ_self X) 69 (.bool ((st : Int) == 1)))
                            clear hW17 HW16 HO16
                            go_upto_region 17 with (fail)
                            clear hcs hfs
                            generalize w16.setCell ⟨X, 69, none⟩ (.bool ((st : Int) == 1)) = w17 at *
                            have hl := HW17.out.dl
                            obtain ⟨f1, f2, f3, f4, f5⟩ := HW17.out.fin (B := X + 1) (e := 84) (sz := 33) (n := ts.length) (v := .slice Ai ts.length Ci) (xs := tdsV ts)
                            have HRg := Lib.hid HW17.out.range
                            have HLs : Hid ((Try.prog.info? 65).map (·.size) = some (sqV k br og cu (.slice Ai ts.length Ci) dn md ((st : Int) == 1)).length) := Lib.hid (by rw [hl]; exact infoSq)
                            have HLs2 : Hid ((Try.prog.info? 65).map (·.size) = some (sqV k br og cu (.slice Ai ts.length Ci) dn md ((st : Int) == 1)).toArray.size) := Lib.hid (by rw [List.size_toArray]; exact HLs.out)
                            have HOn := Lib.hid (all_oneCell_toArray (cs := sqV k br og cu (.slice Ai ts.length Ci) dn md ((st : Int) == 1)) (sqV_one rfl))
                            have HF1 := Lib.hid f1
                            have HF2 := Lib.hid f2
                            have HF3 := Lib.hid f3
                            have HF4 := Lib.hid f4
                            have HF5 := Lib.hid (own_base (f5 HO17.out (Nat.lt_succ_self X)) (by have h1 := HW17.out.hO; have h2 := HW17.out.hX; omega : w.heap.size ≤ X + 1))
                            clear hl f1 f2 f3 f4 f5 HW17 HO17
                            generalize hDF : sqV k br og cu (.slice Ai ts.length Ci) dn md ((st : Int) == 1) = DF at *
                            have HDF := Lib.hid hDF
                            clear hDF
                            go_wp2_with (first
                              | (refine wpList_load_mid rfl _ _ rfl X 0 rfl DF _ HRg.out Try.underlying65 rfl HLs.out ?_)
                              | (refine wpList_store_mid rfl _ _ _ rfl w.heap.size 0 DF.toArray rfl rfl HF4.out HLs2.out HOn.out ?_))
                            refine bodyPost_ret (results_cell_row rfl _ _ w.heap.size _ _ _ _ rfl HF3.out Try.underlying65 rfl HLs2.out) rfl ?_
                            have eK : sK l L p = k := HK.out.symm
                            have e1 : sP1 l L p = p1 := HP1.out.symm
                            have eB : sBr l L p = br := by unfold sBr; rw [e1]; exact HBr.out.symm
                            have e2 : sP2 l L p = p2 := by unfold sP2; rw [e1]; exact HP2.out.symm
                            have eO : sOg l L p = og := by unfold sOg; rw [e2]; exact HOg.out.symm
                            have e3 : sP3 l L p = p3 := by unfold sP3; rw [e2]; exact HP3.out.symm
                            have eC : sCu l L p = cu := by unfold sCu; rw [e3]; exact HCu.out.symm
                            have e4 : sP4 l L p = p4 := by unfold sP4; rw [e3]; exact HP4.out.symm
                            have eM : sM l L p = m := by unfold sM; rw [e4]; exact HM.out.symm
                            have e5 : sP5 l L p = p5 := by unfold sP5; rw [e4]; exact HP5.out.symm
                            have eQ : sQ l L p = (q, ts) := by unfold sQ; rw [eM, e5]; exact HQ.out.symm.trans HQe.out
                            have eD : sDn l L p = dn := by unfold sDn; rw [eQ]; exact HDn.out.symm
                            have e6 : sP6 l L p = p6 := by unfold sP6; rw [eQ]; exact HP6.out.symm
                            have eMd : sMd l L p = md := by unfold sMd; rw [e6]; exact HMd.out.symm
                            have e7 : sP7 l L p = p7 := by unfold sP7; rw [e6]; exact HP7.out.symm
                            have eS : sSt l L p = st := by unfold sSt; rw [e7]; exact HSt.out.symm
                            have e8 : sP8 l L p = p8 := by unfold sP8; rw [e7]; exact HP8.out.symm
                            have e9 : sP9 l L p = p9 := by unfold sP9; rw [eS, e8]; exact HP9.out.symm
                            have eE : sqE l L p = p9 := by unfold sqE; rw [if_neg (by rw [eK]; exact HKn.out)]; exact e9
                            have eqP : sqP l L p = ⟨(k : Nat), br, og, cu, ts, (dn : Nat), (md : Nat), st == 1⟩ := by unfold sqP; rw [if_neg (by rw [eK]; exact HKn.out), eK, eB, eO, eC, eQ, eD, eMd, eS]
                            have eb : ((st : Int) == 1) = (st == 1) := by rw [Bool.eq_iff_iff]; simp; omega
                            unfold SqRet
                            rw [eE, eqP]
                            exact ⟨HF1.out, HF2.out, Ai, Ci, by rw [← HDF.out, eb]; rfl, HF5.out⟩
                        exact AllReadyH.nil
                      exact AllReadyH.nil
                    exact AllReadyH.nil
                  exact AllReadyH.nil
          exact AllReadyH.nil
        exact AllReadyH.nil
      exact AllReadyH.nil
    exact AllReadyH.nil
end Go.Proofs.Ytmcmapgllaopmaa.Cd
end

section
namespace Go.Proofs.Ytmcmapgllaopmaa.Cd
open Go.RowKit
set_option linter.unusedVariables false
theorem own_drew {w : World} {B e sz n : Nat} {v : Value} {xs : List Value} (h : w.ownsRow B e sz v n xs) : w.drew.ownsRow B e sz v n xs := h
/-- why some entries may not stand behind one -/
def eF : List Fr.Ent → Option ByteArray → Int
  | [], _ => 0
  | x :: r, prev => if ce x.kind x.name x.id prev = 0 then eF r (some x.name) else ce x.kind x.name x.id prev
/-- a text's bytes -/
def sv (s : ByteArray) : List Int := s.data.toList.map (fun b => (b.toNat : Int))
theorem sv_len (s : ByteArray) : (sv s).length = s.size := by simp [sv]
theorem sv_cells (s : ByteArray) : bv (sv s) = Lib.strCells s := by simp [bv, sv, Lib.strCells]
/-- an entry's bytes -/
def eB1 (x : Fr.Ent) : List Int := x.kind :: (x.name.size : Int) :: (sv x.name ++ x.id)
def eB (es : List Fr.Ent) : List Int := es.flatMap eB1
def eE (es : List Fr.Ent) : Int := if 512 < es.length then 4 else eF es none
end Go.Proofs.Ytmcmapgllaopmaa.Cd
end

section
namespace Go.Proofs.Ytmcmapgllaopmaa.Cd
open Go.RowKit
set_option linter.unusedVariables false
theorem ids_eq9998 (a b : List Int) (ha : a.length = 32) (hb : b.length = 32) (w : World) :
    (Op.equalIn 9999 37 (.agg (bv a).toArray) (.agg (bv b).toArray)).run Try.prog w = .ok (decide (a = b)) w := by
  obtain ⟨i, hi⟩ := info_of_underlying (P := Try.prog) Try.underlying5
  rw [run_equalIn_array w 9998 (n := 32) (e := 5) (bv a).toArray (bv b).toArray Try.underlying37 hi, show Try.prog.cellsOf 5 = 1 from by kernel_rfl]
  rw [items_eq 9997 a b w _ (fun i hi => by have := List.mem_range.1 hi; omega), all_range a b 32 ha hb]
end Go.Proofs.Ytmcmapgllaopmaa.Cd
end

section
namespace Go.Proofs.Ytmcmapgllaopmaa.Cd
open Go.RowKit
set_option linter.unusedVariables false
theorem wpList_load_g {ops : Array Oper} {rest : List Oper} {op : Oper} {a : Act} {w : World} {Q : Exit → Act → World → Prop} (hw : Region.wanted op (yielded ops a.tmps) = true) (ty : TypeId) (x : Operand) (ho : op.op = .load ty x)
    (b o : Nat) (hx : a.eval x = .pointer (some ⟨b, o, none⟩)) (cs : List Value) (d : TypeDesc) (hc : w.rangeAt b o cs)
    (hu : Try.prog.underlying ty = some d) (hd : d.isRow = true) (hi : (Try.prog.info? ty).map (·.size) = some cs.length)
    (h : wpList Try.prog ops Q rest (a.put op.dst (.agg cs.toArray)) w) : wpList Try.prog ops Q (op :: rest) a w :=
  wpList_step fun K hK => by
    rw [if_pos hw]
    exact wp_load_mid ty x ho b o hx cs d hc hu hd hi (hK _ _ h)
end Go.Proofs.Ytmcmapgllaopmaa.Cd
end

section
namespace Go.Proofs.Ytmcmapgllaopmaa.Cd
open Go.RowKit
set_option linter.unusedVariables false
theorem own_none' (w : World) (B : Nat) : w.ownsRow B 5 1 (.slice none 0 0) 0 (bv []) := ⟨rfl, .inl ⟨rfl, rfl⟩⟩
end Go.Proofs.Ytmcmapgllaopmaa.Cd
end

section
namespace Go.Proofs.Ytmcmapgllaopmaa.Cd
open Go.RowKit
set_option linter.unusedVariables false
/-- the bytes told: none where there is an error -/
def eR (es : List Fr.Ent) : List Int := if eE es = 0 then eB es else []
end Go.Proofs.Ytmcmapgllaopmaa.Cd
end

section
namespace Go.Proofs.Ytmcmapgllaopmaa.Cd
open Go.RowKit
set_option linter.unusedVariables false
/-- what slices.Clone of bytes hands back -/
def CloneRet (B L : Nat) (l : List Int) (w : World) (e : Ending) (w' : World) : Prop :=
  ∃ A' C', e = .returned (.slice A' L C') ∧ w'.ownsRow B 5 1 (.slice A' L C') L (bv l) ∧ Below w.heap.size w w'
theorem own_lit0 (w : World) : (w.alloc (.cells #[] 5)).ownsRow w.heap.size 5 1 (.slice (some ⟨w.heap.size, 0, none⟩) 0 0) 0 (bv []) :=
  ⟨rfl, .inr ⟨w.heap.size, 0, #[], rfl, Nat.le_refl _, by show (w.heap.push _)[w.heap.size]? = _; simp, Nat.le_refl _, Nat.zero_le _, rfl, rfl⟩⟩
set_option maxRecDepth 100000 in
theorem nil_no (x : Addr) (L C : Nat) (w : World) : (binOp .eql 23 (.slice (some x) L C) (.slice none 0 0)).run Try.prog w = .ok (.bool false) w := by rfl
set_option maxRecDepth 100000 in
theorem nil_yes (L C : Nat) (w : World) : (binOp .eql 23 (.slice none L C) (.slice none 0 0)).run Try.prog w = .ok (.bool true) w := by rfl
end Go.Proofs.Ytmcmapgllaopmaa.Cd
end

section
namespace Go.Proofs.Ytmcmapgllaopmaa.Cd
open Go.RowKit
set_option linter.unusedVariables false
set_option maxRecDepth 100000 in
theorem bclone_any (A : Option Addr) (L C : Nat) (l : List Int) (w : World) (h : RdB w A L C l) :
    Calls Try.prog 98 #[.slice A L C] w (CloneRet w.heap.size L l w) := by
  have hbig := h.big
  have hc := h.cap
  cases A with
  | none =>
    have hn := h.none rfl
    have hl := h.len
    obtain rfl : L = 0 := by omega
    obtain rfl : l = [] := List.eq_nil_of_length_eq_zero hl
    subst hn
    have HO : Hid (w.ownsRow w.heap.size 5 1 (.slice none 0 0) 0 (bv [])) := Lib.hid (own_none' w _)
    clear h hl
    have hnil := nil_yes 0 0
    go_enter Try.func98, Try.ntmps98
    go_wp2_with fail
    go_ret
    exact ⟨_, _, rfl, HO.out, Below.refl _ _⟩
  | some x =>
    have hb := (Below.refl w.heap.size w).alloc (Nat.le_refl _) (.cells #[] 5)
    have HR := Lib.hid (h.below hb)
    have HB := Lib.hid hb
    have hs := al_le w (.cells #[] 5)
    clear h hb
    have hnil := nil_no x L C
    go_enter Try.func98, Try.ntmps98
    go_wp2_with (refine wpList_append_rd _ rfl _ _ rfl w.heap.size _ 0 [] rfl (own_lit0 w) (some x) L C l rfl HR.out (by omega) hs ?_)
    intro A' C' w2 ho hb2
    have HO := Lib.hid ho
    have HB2 := Lib.hid (HB.out.trans hb2)
    clear ho hb2
    go_wp2_with fail
    go_ret
    exact ⟨_, _, rfl, HO.out, HB2.out⟩
end Go.Proofs.Ytmcmapgllaopmaa.Cd
end

section
namespace Go.Proofs.Ytmcmapgllaopmaa.Cd
open Go.RowKit
set_option linter.unusedVariables false
def vNm (l : List Int) (L : Nat) (p : Pl) : ByteArray := geT l L p 1 255
def vP1 (l : List Int) (L : Nat) (p : Pl) : Pl := atT l L p 1 255
def vOd (l : List Int) (L : Nat) (p : Pl) : List Int := geI l L (vP1 l L p)
def vP2 (l : List Int) (L : Nat) (p : Pl) : Pl := atN l L (vP1 l L p) 32
def vNw (l : List Int) (L : Nat) (p : Pl) : List Int := geI l L (vP2 l L p)
def vP3 (l : List Int) (L : Nat) (p : Pl) : Pl := atN l L (vP2 l L p) 32
def vWy (l : List Int) (L : Nat) (p : Pl) : ByteArray := geT l L (vP3 l L p) 2 65535
def vP4 (l : List Int) (L : Nat) (p : Pl) : Pl := atT l L (vP3 l L p) 2 65535
def mvP (l : List Int) (L : Nat) (p : Pl) : Mv := ⟨vNm l L p, vOd l L p, vNw l L p, vWy l L p⟩
/-- the moves told, and the place behind -/
def mvL (l : List Int) (L : Nat) : Nat → Pl → List Mv → Pl × List Mv
  | 0, p, ms => (p, ms)
  | n + 1, p, ms => if p.1 = 0 then mvL l L n (vP4 l L p) (ms ++ [mvP l L p]) else (p, ms)
def yK (l : List Int) (L : Nat) (p : Pl) : List Int := geI l L p
def yP1 (l : List Int) (L : Nat) (p : Pl) : Pl := atN l L p 32
def yM (l : List Int) (L : Nat) (p : Pl) : Nat := geN l L (yP1 l L p) 4
def yP2 (l : List Int) (L : Nat) (p : Pl) : Pl := atN l L (yP1 l L p) 4
def yD (l : List Int) (L : Nat) (p : Pl) : List Int := geL l L (yP2 l L p) (yM l L p)
def yP3 (l : List Int) (L : Nat) (p : Pl) : Pl := atN l L (yP2 l L p) (yM l L p)
/-- a conflict's key and bytes -/
abbrev Yp := List Int × List Int
def My.pl (y : My) : Yp := (y.key, y.l)
def ymP (l : List Int) (L : Nat) (p : Pl) : Yp := (yK l L p, yD l L p)
def ymL (l : List Int) (L : Nat) : Nat → Pl → List Yp → Pl × List Yp
  | 0, p, ys => (p, ys)
  | n + 1, p, ys => if p.1 = 0 then ymL l L n (yP3 l L p) (ys ++ [ymP l L p]) else (p, ys)
def xH (l : List Int) (L : Nat) (p : Pl) : Nat := geN l L p 1
def xP1 (l : List Int) (L : Nat) (p : Pl) : Pl := atN l L p 1
def xP2 (l : List Int) (L : Nat) (p : Pl) : Pl := if 3 < xH l L p then (fl (xP1 l L p).1 16, (xP1 l L p).2) else xP1 l L p
def xHh (l : List Int) (L : Nat) (p : Pl) : Bool := xH l L p % 2 == 1
def xHs (l : List Int) (L : Nat) (p : Pl) : Bool := xH l L p / 2 % 2 == 1
def xHd (l : List Int) (L : Nat) (p : Pl) : ByteArray := if xHh l L p = true then geT l L (xP2 l L p) 1 255 else ByteArray.empty
def xP3 (l : List Int) (L : Nat) (p : Pl) : Pl := if xHh l L p = true then atT l L (xP2 l L p) 1 255 else xP2 l L p
def xM (l : List Int) (L : Nat) (p : Pl) : Nat := geN l L (xP3 l L p) 2
def xP4 (l : List Int) (L : Nat) (p : Pl) : Pl := atN l L (xP3 l L p) 2
def xQ (l : List Int) (L : Nat) (p : Pl) : Pl × List Mv := mvL l L (xM l L p) (xP4 l L p) []
def xSq (l : List Int) (L : Nat) (p : Pl) : Sq := if xHs l L p = true then sqP l L (xQ l L p).1 else Sq.nil 0
def xP5 (l : List Int) (L : Nat) (p : Pl) : Pl := if xHs l L p = true then sqE l L (xQ l L p).1 else (xQ l L p).1
def xN (l : List Int) (L : Nat) (p : Pl) : Nat := geN l L (xP5 l L p) 2
def xP6 (l : List Int) (L : Nat) (p : Pl) : Pl := atN l L (xP5 l L p) 2
def xR (l : List Int) (L : Nat) (p : Pl) : Pl × List Yp := ymL l L (xN l L p) (xP6 l L p) []
def xE (l : List Int) (L : Nat) (p : Pl) : Pl := (enF (xR l L p).1.1 (xR l L p).1.2 L, (xR l L p).1.2)
theorem geL_len (l : List Int) (L : Nat) (p : Pl) (n : Nat) : (geL l L p n).length ≤ n := by
  unfold geL tkL
  split
  · rw [List.length_take]; omega
  · simp
theorem geL_byte {l : List Int} {L : Nat} (hl : l.length = L) (hb : ∀ i, i < L → 0 ≤ l.getD i 0 ∧ l.getD i 0 ≤ 255) (p : Pl) (n : Nat) : ∀ i, i < (geL l L p n).length → 0 ≤ (geL l L p n).getD i 0 ∧ (geL l L p n).getD i 0 ≤ 255 := by
  unfold geL tkL
  split
  · intro i hi
    rw [List.length_take, List.length_drop] at hi
    rw [take_getD _ _ _ (by omega)]
    have := hb (p.2 + i) (by omega)
    simpa [List.getD] using this
  · intro i hi; exact absurd hi (by simp)
/-- bytes that lie in blocks of their own, from B on -/
structure DatOk (B : Nat) (w : World) (A : Option Addr) (n C : Nat) (l : List Int) : Prop where
  rd : RdB w A n C l
  blk : ∀ x, A = some x → B ≤ x.block ∧ ∃ cs fr, w.heap[x.block]? = some (.cells cs 5 fr)
section
variable {B : Nat} {w w' : World} {A : Option Addr} {n C : Nat} {l : List Int}
theorem DatOk.lt (h : DatOk B w A n C l) {x : Addr} (hx : A = some x) : B ≤ x.block ∧ x.block < w.heap.size := by
  obtain ⟨h1, cs, fr, h2⟩ := h.blk x hx
  exact ⟨h1, (Array.getElem?_eq_some_iff.1 h2).1⟩
theorem DatOk.same (h : DatOk B w A n C l) (hs : ∀ x, A = some x → w'.heap[x.block]? = w.heap[x.block]?) (hz : w.heap.size ≤ w'.heap.size) : DatOk B w' A n C l :=
  ⟨⟨h.rd.len, h.rd.cap, h.rd.max, h.rd.big, h.rd.none, h.rd.byte, fun x hx => by
    obtain ⟨h1, h2⟩ := h.rd.cell x hx
    refine ⟨fun h0 => Nat.lt_of_lt_of_le (h1 h0) hz, fun i hi => ?_⟩
    rw [← h2 i hi]
    unfold World.cell?
    rw [add_block, hs x hx]⟩, fun x hx => by
    obtain ⟨h1, cs, fr, h2⟩ := h.blk x hx
    exact ⟨h1, cs, fr, by rw [hs x hx, h2]⟩⟩
theorem DatOk.keep (h : DatOk B w A n C l) (hb : Below w.heap.size w w') : DatOk B w' A n C l :=
  h.same (fun x hx => hb.block x.block (h.lt hx).2) hb.size
theorem DatOk.kept {k : Option Nat} (h : DatOk B w A n C l) (hg : w.grownBy w' k) (hk : ∀ x, A = some x → k ≠ some x.block) : DatOk B w' A n C l :=
  h.same (fun x hx => hg.block x.block (h.lt hx).2 (fun e => hk x hx e.symm)) hg.size
theorem DatOk.base {B' : Nat} (h : DatOk B w A n C l) (hB : B' ≤ B) : DatOk B' w A n C l := ⟨h.rd, fun x hx => ⟨Nat.le_trans hB (h.blk x hx).1, (h.blk x hx).2⟩⟩
theorem DatOk.of_own (ho : w.ownsRow B 5 1 (.slice A n C) n (bv l)) (hn : n ≤ 140737488355328) (hb : ∀ i, i < n → 0 ≤ l.getD i 0 ∧ l.getD i 0 ≤ 255) : DatOk B w A n C l := by
  refine ⟨RdB.of_own2 ho hn hb, fun x hx => ?_⟩
  subst hx
  rcases ho.2 with ⟨hv, -⟩ | ⟨g, cap, cur, hv, hg, hh, -⟩
  · cases hv
  · simp only [Value.slice.injEq, Option.some.injEq] at hv
    obtain ⟨rfl, -⟩ := hv
    exact ⟨hg, cur, _, hh⟩
theorem DatOk.ne_row (h : DatOk B w A n C l) {M m : Nat} {t : TypeId} {f : Nat → Value} (hr : w.rowIs M t m f) (ht : t ≠ 5) : ∀ x, A = some x → some M ≠ some x.block := by
  intro x hx e
  obtain ⟨-, cs, fr, h2⟩ := h.blk x hx
  obtain ⟨c, hb, -⟩ := hr
  rw [← Option.some.inj e, hb] at h2
  simp only [Option.some.injEq, Obj.cells.injEq] at h2
  exact ht h2.2.1
theorem DatOk.ne_own (h : DatOk B w A n C l) {B' e' sz' n' : Nat} {v' : Value} {xs' : List Value} (h' : w.ownsRow B' e' sz' v' n' xs') (ht : e' ≠ 5) : ∀ x, A = some x → v'.ownBlock ≠ some x.block := by
  intro x hx e
  obtain ⟨-, cs, fr, h2⟩ := h.blk x hx
  rcases h'.2 with ⟨rfl, -⟩ | ⟨g', cap', cur', rfl, -, hh', -⟩
  · cases e
  · obtain rfl : g' = x.block := by simpa [Value.ownBlock] using e
    rw [hh'] at h2
    simp only [Option.some.injEq, Obj.cells.injEq] at h2
    exact ht h2.2.1
theorem DatOk.drewN (h : DatOk B w A n C l) (k : Nat) : DatOk B (w.drewN k) A n C l := h.same (fun _ _ => rfl) (Nat.le_refl _)
end
/-- a conflict's bytes are one's own, from B on -/
structure MyOk (B : Nat) (w : World) (y : My) : Prop where
  key : y.key.length = 32
  big : y.n ≤ 4294967296
  dat : DatOk B w y.A y.n y.C y.l
theorem MyOk.keep {B : Nat} {w w' : World} {y : My} (h : MyOk B w y) (hb : Below w.heap.size w w') : MyOk B w' y := ⟨h.key, h.big, h.dat.keep hb⟩
theorem MyOk.kept {B : Nat} {k : Option Nat} {w w' : World} {y : My} (h : MyOk B w y) (hg : w.grownBy w' k) (hk : ∀ x, y.A = some x → k ≠ some x.block) : MyOk B w' y := ⟨h.key, h.big, h.dat.kept hg hk⟩
theorem MyOk.base {B B' : Nat} {w : World} {y : My} (h : MyOk B w y) (hB : B' ≤ B) : MyOk B' w y := ⟨h.key, h.big, h.dat.base hB⟩
/-- rows of other types are apart -/
theorem own_ne_own {w : World} {B B' e e' sz sz' n n' : Nat} {v v' : Value} {xs xs' : List Value} {k : Nat} (h : w.ownsRow B e sz v n xs) (h' : w.ownsRow B' e' sz' v' n' xs') (ht : e ≠ e') (hk : v'.ownBlock = some k) : v.ownBlock ≠ some k := by
  intro e1
  rcases h.2 with ⟨rfl, -⟩ | ⟨g, cap, cur, rfl, -, hh, -⟩
  · cases e1
  · rcases h'.2 with ⟨rfl, -⟩ | ⟨g', cap', cur', rfl, -, hh', -⟩
    · cases hk
    · obtain rfl : g = k := by simpa [Value.ownBlock] using e1
      obtain rfl : g' = g := by simpa [Value.ownBlock] using hk
      rw [hh] at hh'
      simp only [Option.some.injEq, Obj.cells.injEq] at hh'
      exact ht hh'.2.1
theorem mvL_len (l : List Int) (L : Nat) : ∀ (n : Nat) (p : Pl) (ms : List Mv), (mvL l L n p ms).2.length ≤ ms.length + n
  | 0, _, _ => by simp [mvL]
  | n + 1, p, ms => by
    unfold mvL
    split
    · refine Nat.le_trans (mvL_len l L n _ _) ?_
      simp; omega
    · simp
theorem ymL_len (l : List Int) (L : Nat) : ∀ (n : Nat) (p : Pl) (ys : List Yp), (ymL l L n p ys).2.length ≤ ys.length + n
  | 0, _, _ => by simp [ymL]
  | n + 1, p, ys => by
    unfold ymL
    split
    · refine Nat.le_trans (ymL_len l L n _ _) ?_
      simp; omega
    · simp
/-- what (*txReader).tx hands back -/
def TxpRet (R : Nat) (A : Option Addr) (L C : Nat) (l : List Int) (p : Pl) (E : Nat → Value) (w : World) (e : Ending) (w' : World) : Prop :=
  At w' R 3 136 A L C l (xE l L p) E ∧ w.grownBy w' (some R) ∧
  ∃ (Am : Option Addr) (Cm : Nat) (At : Option Addr) (Ct : Nat) (Ay : Option Addr) (Cy : Nat) (ys : List My),
    e = .returned (.agg (txV (xHh l L p) (xHd l L p) (.slice Am (xQ l L p).2.length Cm) (xHs l L p) ((xSq l L p).cells (.slice At (xSq l L p).ts.length Ct)) (.slice Ay ys.length Cy)).toArray) ∧
    w'.ownsRow w.heap.size 126 66 (.slice Am (xQ l L p).2.length Cm) (xQ l L p).2.length (mvsV (xQ l L p).2) ∧
    w'.ownsRow w.heap.size 84 33 (.slice At (xSq l L p).ts.length Ct) (xSq l L p).ts.length (tdsV (xSq l L p).ts) ∧
    w'.ownsRow w.heap.size 128 33 (.slice Ay ys.length Cy) ys.length (mysV ys) ∧
    (∀ y ∈ ys, MyOk w.heap.size w' y) ∧ ys.map My.pl = (xR l L p).2
end Go.Proofs.Ytmcmapgllaopmaa.Cd
end

section
namespace Go.Proofs.Ytmcmapgllaopmaa.Cd
open Go.RowKit
set_option linter.unusedVariables false
/-- a text whose length cannot be too much -/
theorem tx2_most {f : Int} {l : List Int} {a L n most : Nat} (h : txM f l a L n ≤ most) : tx2 f l a L n most = tkF f a L n := by unfold tx2; rw [if_neg (by omega)]
end Go.Proofs.Ytmcmapgllaopmaa.Cd
end

section
namespace Go.Proofs.Ytmcmapgllaopmaa.Cd
open Go.RowKit
set_option linter.unusedVariables false
theorem txV_set {hh : Bool} {hd : ByteArray} {mv : Value} {hs : Bool} {sq : List Value} {mm : Value} (hq : sq.length = 70) :
    (∀ b : Bool, (txV hh hd mv hs sq mm).set 0 (.bool b) = txV b hd mv hs sq mm) ∧ (∀ b, (txV hh hd mv hs sq mm).set 1 (.string b) = txV hh b mv hs sq mm) ∧ (∀ v, (txV hh hd mv hs sq mm).set 2 v = txV hh hd v hs sq mm) ∧
    (∀ b : Bool, (txV hh hd mv hs sq mm).set 3 (.bool b) = txV hh hd mv b sq mm) ∧ (∀ v, (txV hh hd mv hs sq mm).set 74 v = txV hh hd mv hs sq v) := by
  refine ⟨fun b => rfl, fun b => rfl, fun v => rfl, fun b => rfl, fun v => ?_⟩
  simp [txV, List.set_append_right, hq]
theorem txV_lay {hh : Bool} {hd : ByteArray} {mv : Value} {hs : Bool} {sq sq' : List Value} {mm : Value} (hq : sq.length = 70) (hx : sq'.length = 70) : layL (txV hh hd mv hs sq mm) 4 sq' = txV hh hd mv hs sq' mm := by
  simp [layL, txV, hx, List.take_append, hq]
theorem txV_get {hh : Bool} {hd : ByteArray} {mv : Value} {hs : Bool} {sq : List Value} {mm : Value} (hq : sq.length = 70) : (txV hh hd mv hs sq mm).getD 74 undef = mm := by
  simp [txV, List.getD, hq]
theorem Ws.new {w W : World} {R O N : Nat} {tX : TypeId} {A : Option Addr} {L C : Nat} {l : List Int} {p : Pl} {E : Nat → Value} {F : Nat → Value} {D : List Value} (hr : At W R 3 136 A L C l p E) (ho : W.rowIs O tX N F) (hg : w.grownBy W (some R)) (hR : R < w.heap.size) (hA : ∀ x, A = some x → 0 < L → x.block < w.heap.size) (hO : w.heap.size ≤ O) (hl : D.length = N) :
    Ws w R O W.heap.size tX N D A L C l p E (W.alloc (.cells D.toArray tX)) := by
  have hb := (Below.refl W.heap.size W).alloc (Nat.le_refl _) (.cells D.toArray tX)
  have hOl := ho.lt
  exact ⟨hr.below hb, hl, row_newL W D tX N hl, ⟨F, ho.of_block (hb.block O hOl)⟩, grown_trans hg ⟨hb.os, hb.tape, hb.output, hb.size, fun i hi _ => hb.block i hi⟩, hR, hA, hO, hOl⟩
set_option maxRecDepth 100000 in
theorem and1 (k : Nat) (h : k < 256) : bits .and .u8 (k : Int) 1 = ((k % 2 : Nat) : Int) := by
  have h2 : ∀ n : _root_.Fin 256, bits .and .u8 (n.val : Int) 1 = ((n.val % 2 : Nat) : Int) := by decide
  exact h2 ⟨k, h⟩
set_option maxRecDepth 100000 in
theorem and2 (k : Nat) (h : k < 256) : bits .and .u8 (k : Int) 2 = ((k / 2 % 2 * 2 : Nat) : Int) := by
  have h2 : ∀ n : _root_.Fin 256, bits .and .u8 (n.val : Int) 2 = ((n.val / 2 % 2 * 2 : Nat) : Int) := by decide
  exact h2 ⟨k, h⟩
theorem sqP_len (l : List Int) (L : Nat) (p : Pl) : (sqP l L p).og.length = 32 ∧ (sqP l L p).cu.length = 32 := by
  unfold sqP
  split
  · exact ⟨by simp [Sq.nil], by simp [Sq.nil]⟩
  · exact ⟨geI_len l L _, geI_len l L _⟩
def mvN (nm : ByteArray) : List Value := Mv.cells ⟨nm, List.replicate 32 0, List.replicate 32 0, ByteArray.empty⟩
theorem mvN_len (nm : ByteArray) : (mvN nm).length = 66 := by simp [mvN, Mv.cells, bv_len]
theorem mvZ_size : mvZ.toArray.size = 66 := by rw [List.size_toArray]; exact rowMv.zl
theorem myZ_size : myZ.toArray.size = 33 := by rw [List.size_toArray]; exact rowMy.zl
theorem zeroMvZ (w : World) : (zeroValue 126).run Try.prog w = .ok (.agg mvZ.toArray) w := by kernel_rfl
theorem zeroMyZ (w : World) : (zeroValue 128).run Try.prog w = .ok (.agg myZ.toArray) w := by kernel_rfl
set_option maxRecDepth 100000 in
theorem built_mv (nm : ByteArray) : Try.prog.built 126 [(0, .string nm)] = some (mvN nm).toArray := by rfl
theorem Mv.set65 {nm : ByteArray} {od nw : List Int} {wy wy' : ByteArray} (ho : od.length = 32) (hn : nw.length = 32) : (Mv.cells ⟨nm, od, nw, wy⟩).set 65 (.string wy') = Mv.cells ⟨nm, od, nw, wy'⟩ := by
  simp [Mv.cells, List.set_append_right, bv_len, ho, hn]
theorem Mv.lay {nm : ByteArray} {od nw : List Int} {wy : ByteArray} (ho : od.length = 32) (hn : nw.length = 32) {x : List Int} (hx : x.length = 32) :
    layL (Mv.cells ⟨nm, od, nw, wy⟩) 1 (bv x) = Mv.cells ⟨nm, x, nw, wy⟩ ∧ layL (Mv.cells ⟨nm, od, nw, wy⟩) 33 (bv x) = Mv.cells ⟨nm, od, x, wy⟩ := by
  constructor <;> simp [layL, Mv.cells, bv_len, hx, List.take_append, List.drop_append, ho, hn]
def myN (key : List Int) : List Value := My.cells ⟨key, none, 0, 0, []⟩
theorem built_my : ∀ (key : List Int), key.length = 32 → Try.prog.built 128 [(0, .agg (bv key).toArray)] = some (myN key).toArray
  | [a0, a1, a2, a3, a4, a5, a6, a7, a8, a9, a10, a11, a12, a13, a14, a15, a16, a17, a18, a19, a20, a21, a22, a23, a24, a25, a26, a27, a28, a29, a30, a31], _ => by kernel_rfl
theorem My.set32 {key : List Int} (hk : key.length = 32) (A : Option Addr) (n C : Nat) (l : List Int) : (myN key).set 32 (.slice A n C) = My.cells ⟨key, A, n, C, l⟩ := by
  simp [myN, My.cells, List.set_append_right, bv_len, hk]
theorem own_kept {w w' : World} {B e sz n : Nat} {v : Value} {xs : List Value} {k : Option Nat} (h : w.ownsRow B e sz v n xs) (hg : w.grownBy w' k) (hk : ∀ j, v.ownBlock = some j → k ≠ some j) : w'.ownsRow B e sz v n xs := by
  refine h.kept hg ?_
  cases hv : v.ownBlock with
  | none => exact .inl rfl
  | some j => exact .inr fun e => hk j hv e.symm
theorem own_ne_rowT {w : World} {B e sz n m M : Nat} {v : Value} {xs : List Value} {t : TypeId} {f : Nat → Value} (h : w.ownsRow B e sz v n xs) (hr : w.rowIs M t m f) (ht : t ≠ e) : v.ownBlock ≠ some M := by
  intro e1
  obtain ⟨c, hb, -⟩ := hr
  rcases h.2 with ⟨rfl, -⟩ | ⟨g, cap, cur, rfl, -, hh, -⟩
  · cases e1
  · obtain rfl : g = M := by simpa [Value.ownBlock] using e1
    rw [hh] at hb
    simp only [Option.some.injEq, Obj.cells.injEq] at hb
    exact ht hb.2.1.symm
/-- moves, steps, conflicts' bytes, of one's own, above X -/
structure Ows (X : Nat) (vM : Value) (ms : List Mv) (vT : Value) (ts : List Td) (ys : List My) (W : World) : Prop where
  m : W.ownsRow (X + 1) 126 66 vM ms.length (mvsV ms)
  t : W.ownsRow (X + 1) 84 33 vT ts.length (tdsV ts)
  y : ∀ y ∈ ys, MyOk (X + 1) W y
section
variable {X : Nat} {vM : Value} {ms : List Mv} {vT : Value} {ts : List Td} {ys : List My} {W W' : World}
theorem Ows.belowW (h : Ows X vM ms vT ts ys W) (hb : Below W.heap.size W W') : Ows X vM ms vT ts ys W' :=
  ⟨own_keep h.m hb, own_keep h.t hb, fun y hy => (h.y y hy).keep hb⟩
/-- a change at or below X -/
theorem Ows.low (h : Ows X vM ms vT ts ys W) {k : Nat} (hg : W.grownBy W' (some k)) (hk : k ≤ X) : Ows X vM ms vT ts ys W' :=
  ⟨own_grown h.m hg (fun e => by have := (h.m.lt k e).1; omega), own_grown h.t hg (fun e => by have := (h.t.lt k e).1; omega), fun y hy => (h.y y hy).kept hg (fun x hx e => by have := ((h.y y hy).dat.lt hx).1; have := Option.some.inj e; omega)⟩
/-- a change of a block of a conflict's -/
theorem Ows.mem (h : Ows X vM ms vT ts ys W) {k N : Nat} {f : Nat → Value} (hr : W.rowIs k 128 N f) (hg : W.grownBy W' (some k)) : Ows X vM ms vT ts ys W' :=
  ⟨own_grown h.m hg (own_ne_rowT h.m hr (by decide)), own_grown h.t hg (own_ne_rowT h.t hr (by decide)), fun y hy => (h.y y hy).kept hg ((h.y y hy).dat.ne_row hr (by decide))⟩
/-- a row of conflicts is put behind -/
theorem Ows.app (h : Ows X vM ms vT ts ys W) {B n : Nat} {v : Value} {xs : List Value} (ho : W.ownsRow B 128 33 v n xs) (hg : W.grownBy W' v.ownBlock) : Ows X vM ms vT ts ys W' :=
  ⟨own_kept h.m hg (fun j hj e => own_ne_own h.m ho (by decide) e hj), own_kept h.t hg (fun j hj e => own_ne_own h.t ho (by decide) e hj), fun y hy => (h.y y hy).kept hg ((h.y y hy).dat.ne_own ho (by decide))⟩
theorem Ows.drew (h : Ows X vM ms vT ts ys W) (n : Nat) : Ows X vM ms vT ts ys (W.drewN n) :=
  ⟨⟨h.m.1, h.m.2⟩, ⟨h.t.1, h.t.2⟩, fun y hy => ⟨(h.y y hy).key, (h.y y hy).big, (h.y y hy).dat.drewN n⟩⟩
theorem Ows.snoc (h : Ows X vM ms vT ts ys W) {y : My} (hy : MyOk (X + 1) W y) : Ows X vM ms vT ts (ys ++ [y]) W :=
  ⟨h.m, h.t, fun z hz => by
    rcases List.mem_append.1 hz with hz | hz
    · exact h.y z hz
    · rw [List.mem_singleton.1 hz]; exact hy⟩
end
section
variable {w : World} {R O X : Nat} {tX : TypeId} {N : Nat} {D : List Value} {A : Option Addr} {L C : Nat} {l : List Int} {p : Pl} {E : Nat → Value} {e sz n : Nat} {v : Value} {xs : List Value} {Y : Nat} {tY : TypeId} {NY : Nat} {DY : List Value} {W : World}
theorem Wy.belowW (h : Wy w R O X tX N D A L C l p E e sz n v xs Y tY NY DY W) {W' : World} (hb : Below W.heap.size W W') : Wy w R O X tX N D A L C l p E e sz n v xs Y tY NY DY W' := by
  have hXs := h.ws.hXs
  exact ⟨h.ws.belowB (hb.mono (by omega)), own_keep h.own hb, h.yl, h.ry.of_block (hb.block Y h.ry.lt), h.hY, h.ne⟩
end
/-- the reader's bytes, by places -/
theorem take_p (R N : Nat) (t : TypeId) (A : Option Addr) (L C : Nat) (l : List Int) (p : Pl) (E : Nat → Value) (n : Nat) (w : World) (h : At w R N t A L C l p E) (hn : n ≤ 140737488355328) :
    Calls Try.prog 83 #[.pointer (some ⟨R, 0, none⟩), .int .i64 n] w fun e w' => ∃ A' C', e = .returned (.slice A' (geL l L p n).length C') ∧ RdB w' A' (geL l L p n).length C' (geL l L p n) ∧ At w' R N t A L C l (atN l L p n) E ∧ w.grownBy w' (some R) := by
  refine (take_any R N t A L C l p.2 p.1 E n w h hn).mono ?_
  rintro e w' ⟨A', C', he, h1, -, h2, h3⟩
  exact ⟨A', C', he, h1, h2, h3⟩
theorem end_p (R N : Nat) (t : TypeId) (A : Option Addr) (L C : Nat) (l : List Int) (p : Pl) (E : Nat → Value) (w : World) (h : At w R N t A L C l p E) :
    Calls Try.prog 90 #[.pointer (some ⟨R, 0, none⟩)] w fun e w' => e = .returned (.tuple #[]) ∧ At w' R N t A L C l (enF p.1 p.2 L, p.2) E ∧ w.grownBy w' (some R) :=
  end_any R N t A L C l p.2 p.1 E w h
end Go.Proofs.Ytmcmapgllaopmaa.Cd
end
