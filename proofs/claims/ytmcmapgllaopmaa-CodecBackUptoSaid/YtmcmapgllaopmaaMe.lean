/- Texts of one's own, merged: CdTxSq, CdTreeN, CdSticky, CdSame, CdEnts, CdRPc. -/
import Derived.Test.YtmcmapgllaopmaaMd

section
namespace Go.Proofs.Ytmcmapgllaopmaa.Cd
open Go.RowKit
set_option linter.unusedVariables false
theorem sqV_set {k : Int} {br : ByteArray} {og cu : List Int} {td : Value} {dn md : Int} {st : Bool} (ho : og.length = 32) (hc : cu.length = 32) :
    (∀ b, (sqV k br og cu td dn md st).set 1 (.string b) = sqV k b og cu td dn md st) ∧ (∀ v, (sqV k br og cu td dn md st).set 66 v = sqV k br og cu v dn md st) ∧
    (∀ x : Int, (sqV k br og cu td dn md st).set 67 (.int .i64 x) = sqV k br og cu td x md st) ∧ (∀ x : Int, (sqV k br og cu td dn md st).set 68 (.int .i64 x) = sqV k br og cu td dn x st) ∧ (∀ x : Bool, (sqV k br og cu td dn md st).set 69 (.bool x) = sqV k br og cu td dn md x) := by
  refine ⟨fun b => rfl, fun v => ?_, fun x => ?_, fun x => ?_, fun x => ?_⟩ <;>
    simp [sqV, List.set_append_right, bv_len, ho, hc]
theorem sqV_td {k : Int} {br : ByteArray} {og cu : List Int} {td : Value} {dn md : Int} {st : Bool} (ho : og.length = 32) (hc : cu.length = 32) : (sqV k br og cu td dn md st).getD 66 undef = td := by
  simp [sqV, List.getD, bv_len, ho, hc]
theorem sqV_lay {k : Int} {br : ByteArray} {og cu : List Int} {td : Value} {dn md : Int} {st : Bool} (ho : og.length = 32) (hc : cu.length = 32) {x : List Int} (hx : x.length = 32) :
    layL (sqV k br og cu td dn md st) 2 (bv x) = sqV k br x cu td dn md st ∧ layL (sqV k br og cu td dn md st) 34 (bv x) = sqV k br og x td dn md st := by
  constructor <;> simp [layL, sqV, bv_len, hx, List.take_append, List.drop_append, ho, hc]
theorem wpList_buildT {ops : Array Oper} {rest : List Oper} {o : Oper} {a : Act} {w : World} {Q : Exit → Act → World → Prop} (hgd : o.guard = none) (t : TypeId) (i : Nat) (x : Operand) (ho : o.op = .build t #[(i, x)]) (v : Value) (hx : a.eval x = v) (cs : Array Value) (hb : Try.prog.built t [(i, v)] = some cs)
    (h : wpList Try.prog ops Q rest (a.put o.dst (.agg cs)) w) : wpList Try.prog ops Q (o :: rest) a w := by
  refine wpList_build hgd t #[(i, x)] ho ?_ ?_
  · simp [hx, hb]
  · simpa [hx, hb] using h
def sqN (k : Nat) : List Value := sqV k ByteArray.empty (List.replicate 32 0) (List.replicate 32 0) (.slice none 0 0) 0 0 false
theorem sqN_len (k : Nat) : (sqN k).length = 70 := sqV_len (by simp) (by simp)
set_option maxRecDepth 100000 in
theorem built_sq (k : Nat) : Try.prog.built 65 [(0, .int .i64 (k : Int))] = some (sqN k).toArray := by rfl
set_option maxRecDepth 100000 in
set_option maxHeartbeats 4000000 in
theorem seq_r (R : Nat) (A : Option Addr) (L C : Nat) (l : List Int) (p : Pl) (E : Nat → Value) (w : World) (h : At w R 3 136 A L C l p E) :
    Calls Try.prog 97 #[.pointer (some ⟨R, 0, none⟩)] w (SqRet R A L C l p E w) := by
  have hz := zeroSq
  have hZl : sq0.toArray.size = 70 := by rw [List.size_toArray]; exact sq0_len
  have HZ0 : Hid (sq0 = sqV 0 ByteArray.empty (List.replicate 32 0) (List.replicate 32 0) (.slice none 0 0) 0 0 false) := Lib.hid rfl
  generalize hZA : sq0.toArray = ZS at *
  have HZA := Lib.hid hZA
  have HZl := Lib.hid hZl
  have HR0 := Lib.hid h
  have hRl := h.row.lt
  have HAB : Hid (∀ x, A = some x → 0 < L → x.block < w.heap.size) := Lib.hid (fun x hx h0 => (h.rd.cell x hx).1 h0)
  have HB1 := Lib.hid h.rd.byte
  have HLl := Lib.hid h.rd.len
  clear hZl h hZA
  go_enter Try.func97, Try.ntmps97
  go_upto_region 1 with (fail)
  have hb1 := (Below.refl w.heap.size w).alloc (Nat.le_refl _) (.cells ZS 65)
  have hro := row_new w ZS 65
  rw [HZl.out] at hro
  have HR1 : Hid (At (w.alloc (.cells ZS 65)) R 3 136 A L C l p E) := Lib.hid (HR0.out.below hb1)
  have HG1 : Hid (w.grownBy (w.alloc (.cells ZS 65)) (some R)) := Lib.hid ⟨hb1.os, hb1.tape, hb1.output, hb1.size, fun i hi _ => hb1.block i hi⟩
  have HO1 := Lib.hid hro
  clear hro hb1 HR0
  generalize w.alloc (.cells ZS 65) = w1 at *
  have HNu := Lib.hid (number_p R 3 136 A L C l p E 1 w1 HR1.out (by decide))
  rw [show ((1 : Nat) : Int) = 1 from rfl] at HNu
  obtain ⟨k, hk⟩ : ∃ k, k = geN l L p 1 := ⟨_, rfl⟩
  obtain ⟨p1, hp1⟩ : ∃ p1, p1 = atN l L p 1 := ⟨_, rfl⟩
  rw [← hk, ← hp1] at HNu
  have HK := Lib.hid hk
  have HP1 := Lib.hid hp1
  clear hk hp1
  go_wp2_with fail
  refine HNu.out.mono ?_
  rintro e w2 ⟨rfl, hR2, hg2⟩
  have HBu := Lib.hid (built_sq k)
  have hD : (sqN k).length = 70 := sqN_len k
  have hro2 := HO1.out.of_block (hg2.block w.heap.size HO1.out.lt (fun e => by have := Option.some.inj e; omega))
  have HWs0 := Lib.hid (Ws.of (D := sqN k) hR2 hro2 (grown_trans HG1.out hg2) hRl HAB.out (Nat.le_refl _) HZl.out hD)
  obtain ⟨hf, hrn⟩ := lay_new w2 65 70 ZS (sqN k) infoSq HZl.out hD (sqV_one rfl)
  have HF := Lib.hid hf
  clear hR2 hg2 hro2 hf hrn HO1 HG1 HR1 HNu hD
  generalize hDD : sqN k = DD at *
  have HDD := Lib.hid hDD
  clear hDD
  go_upto_region 2 with (first
    | (refine wpList_buildT rfl 65 0 _ rfl _ rfl DD.toArray HBu.out ?_)
    | (refine wpList_store_mid rfl _ _ _ rfl w2.heap.size 0 DD.toArray rfl rfl HF.out.there HF.out.size HF.out.one ?_))
  change Code.wp _ _ _ _ ((w2.alloc (.cells ZS 65)).setCells w2.heap.size 0 DD)
  generalize (w2.alloc (.cells ZS 65)).setCells w2.heap.size 0 DD = w3 at *
  clear HBu HF
  generalize w2.heap.size = X at *
  have hc0 := HWs0.out.cell 0 (by decide)
  rw [← HDD.out, show (sqN k).getD 0 undef = .int .i64 (k : Int) from rfl] at hc0
  by_cases hk0 : k = 0
  · have hd : ((k : Int) == 0) = true := by simp [hk0]
    have HLd := Lib.hid HWs0.out.range
    have hl : DD.length = 70 := HWs0.out.dl
    obtain ⟨f1, f2, f3, f4, -⟩ := HWs0.out.fin (B := 0) (e := 0) (sz := 0) (n := 0) (v := .slice none 0 0) (xs := [])
    have HF1 := Lib.hid f1
    have HF2 := Lib.hid f2
    have HF3 := Lib.hid f3
    have HF4 := Lib.hid f4
    have HLs : Hid ((Try.prog.info? 65).map (·.size) = some DD.length) := Lib.hid (by rw [hl]; exact infoSq)
    have HLs2 : Hid ((Try.prog.info? 65).map (·.size) = some DD.toArray.size) := Lib.hid (by rw [List.size_toArray]; exact HLs.out)
    have HOn := Lib.hid (all_oneCell_toArray (cs := DD) (by rw [← HDD.out]; exact sqV_one rfl))
    have HK0 := Lib.hid hk0
    clear f1 f2 f3 f4 hl HWs0 hk0
    go_wp2_with (first
      | (refine wpList_load_mid rfl _ _ rfl X 0 rfl DD _ HLd.out Try.underlying65 rfl HLs.out ?_)
      | (refine wpList_store_mid rfl _ _ _ rfl w.heap.size 0 DD.toArray rfl rfl HF4.out HLs2.out HOn.out ?_))
    refine bodyPost_ret (results_cell_row rfl _ _ w.heap.size _ _ _ _ rfl HF3.out Try.underlying65 rfl HLs2.out) rfl ?_
    have e0 : sK l L p = 0 := HK.out.symm.trans HK0.out
    have e1 : sqE l L p = p1 := by unfold sqE; rw [if_pos e0]; exact HP1.out.symm
    have e2 : sqP l L p = Sq.nil 0 := by unfold sqP; rw [if_pos e0]
    unfold SqRet
    rw [e1, e2]
    exact ⟨HF1.out, HF2.out, none, 0, by rw [← HDD.out, HK0.out]; rfl, ⟨by simp [Sq.nil, tdsV], .inl ⟨rfl, rfl⟩⟩⟩
  · have hd : ((k : Int) == 0) = false := by simp; omega
    have HKn := Lib.hid hk0
    clear hk0
    have HTx := Lib.hid (text_p R 3 136 A L C l p1 E 1 255 w3 HWs0.out.rd (by decide))
    rw [show ((1 : Nat) : Int) = 1 from rfl, show ((255 : Nat) : Int) = 255 from rfl] at HTx
    obtain ⟨br, hbr⟩ : ∃ br, br = geT l L p1 1 255 := ⟨_, rfl⟩
    obtain ⟨p2, hp2⟩ : ∃ p2, p2 = atT l L p1 1 255 := ⟨_, rfl⟩
    rw [← hbr, ← hp2] at HTx
    have HBr := Lib.hid hbr
    have HP2 := Lib.hid hp2
    clear hbr hp2
    go_wp2_with fail
    refine HTx.out.mono ?_
    rintro e w4 ⟨rfl, hR4, hg4⟩
    have HW4 := Lib.hid (HWs0.out.call hR4 hg4)
    have hc : w4.cell? ⟨X, 1, none⟩ = some _ := HW4.out.cell 1 (by decide)
    have hf : w4.frozen? ⟨X, 1, none⟩ = false := HW4.out.rx.frozen _
    have HW5 := Lib.hid (HW4.out.set 1 (.string br))
    rw [← HDD.out, show (sqN k).set 1 (.string br) = sqV k br (List.replicate 32 0) (List.replicate 32 0) (.slice none 0 0) 0 0 false from rfl] at HW5
    clear hR4 hg4 HTx HW4 HWs0 hc0
    go_upto_region 5 with (fail)
    clear hc hf
    generalize w4.setCell ⟨X, 1, none⟩ (.string br) = w5 at *
    have HId := Lib.hid (id_p R 3 136 A L C l p2 E w5.drew (HW5.out.drew 1).rd)
    obtain ⟨og, hog⟩ : ∃ og, og = geI l L p2 := ⟨_, rfl⟩
    obtain ⟨p3, hp3⟩ : ∃ p3, p3 = atN l L p2 32 := ⟨_, rfl⟩
    rw [← hog, ← hp3] at HId
    have hol : og.length = 32 := by rw [hog]; exact geI_len l L p2
    have HOg := Lib.hid hog
    have HP3 := Lib.hid hp3
    clear hog hp3
    have dW := Lib.hid (HW5.out.drew 1)
    clear HW5
    refine wp_region_noPanic ?_
    refine wp_region_held_drew (S := (fun _ => True)) (by kernel_rfl) ?_ (fun hHeld => ?_)
    · ((try dsimp only); done)
    refine wpAnyH_take (i := 0) (oi := { dst := some 21, op := Op.move (Operand.tmp 0), type := 135, pos := "tx.go:158", after := #[], guard := none }) (v := ?_) rfl (by kernel_rfl) (by kernel_rfl) (by kernel_rfl) (fun _ _ _ h => h) (Or.inl ⟨by rfl, ?_⟩) (by assumption) ?_
    rotate_left 1
    · ((intro w hSw; (try dsimp only at hSw); go_simp) <;> with_reducible rfl)
    (try simp only [Act.put, List.setIfInBounds_toArray, List.set_cons_zero, List.set_cons_succ])
    refine wpAnyH_take (i := 1) (oi := { dst := some 22, op := Op.nilCheck (Operand.tmp 21), type := 0, pos := "tx.go:158", after := #[{ on := 0, ground := Ground.data }], guard := none }) (v := ?_) rfl (by kernel_rfl) (by kernel_rfl) (by kernel_rfl) (fun _ _ _ h => h) (Or.inl ⟨by rfl, ?_⟩) (by assumption) ?_
    rotate_left 1
    · ((intro w hSw; (try dsimp only at hSw); go_simp) <;> with_reducible rfl)
    (try simp only [Act.put, List.setIfInBounds_toArray, List.set_cons_zero, List.set_cons_succ])
    refine wpAnyH_take (i := 2) (oi := { dst := some 23, op := Op.fieldAddr 136 (Operand.tmp 22) 0, type := 0, pos := "tx.go:158", after := #[{ on := 1, ground := Ground.data }], guard := none }) (v := ?_) rfl (by kernel_rfl) (by kernel_rfl) (by kernel_rfl) (fun _ _ _ h => h) (Or.inl ⟨by rfl, ?_⟩) (by assumption) ?_
    rotate_left 1
    · ((intro w hSw; (try dsimp only at hSw); go_simp) <;> with_reducible rfl)
    (try simp only [Act.put, List.setIfInBounds_toArray, List.set_cons_zero, List.set_cons_succ])
    refine wpAnyH_take (i := 4) (oi := { dst := some 25, op := Op.move (Operand.tmp 0), type := 135, pos := "tx.go:158", after := #[], guard := none }) (v := ?_) rfl (by kernel_rfl) (by kernel_rfl) (by kernel_rfl) (fun _ _ _ h => h) (Or.inl ⟨by rfl, ?_⟩) (by assumption) ?_
    rotate_left 1
    · ((intro w hSw; (try dsimp only at hSw); go_simp) <;> with_reducible rfl)
    (try simp only [Act.put, List.setIfInBounds_toArray, List.set_cons_zero, List.set_cons_succ])
    refine wpAnyH_take (i := 5) (oi := { dst := some 26, op := Op.nilCheck (Operand.tmp 25), type := 0, pos := "tx.go:158", after := #[{ on := 4, ground := Ground.data }], guard := none }) (v := ?_) rfl (by kernel_rfl) (by kernel_rfl) (by kernel_rfl) (fun _ _ _ h => h) (Or.inl ⟨by rfl, ?_⟩) (by assumption) ?_
    rotate_left 1
    · ((intro w hSw; (try dsimp only at hSw); go_simp) <;> with_reducible rfl)
    (try simp only [Act.put, List.setIfInBounds_toArray, List.set_cons_zero, List.set_cons_succ])
    refine wpAnyH_take (i := 6) (oi := { dst := some 27, op := Op.fieldAddr 136 (Operand.tmp 26) 0, type := 0, pos := "tx.go:158", after := #[{ on := 5, ground := Ground.data }], guard := none }) (v := ?_) rfl (by kernel_rfl) (by kernel_rfl) (by kernel_rfl) (fun _ _ _ h => h) (Or.inl ⟨by rfl, ?_⟩) (by assumption) ?_
    rotate_left 1
    · ((intro w hSw; (try dsimp only at hSw); go_simp) <;> with_reducible rfl)
    (try simp only [Act.put, List.setIfInBounds_toArray, List.set_cons_zero, List.set_cons_succ])
    refine wpAnyH_ready (rs := [3]) (by kernel_rfl) (by simp) ?_
    refine AllReadyH.cons (o := { dst := some 24, op := Op.call { callee := Callee.value (Operand.func 84), args := #[Operand.tmp 23], argTypes := #[94] }, type := 37, pos := "tx.go:158", after := #[{ on := 2, ground := Ground.data }], guard := none }) rfl (fun K hK => ?_) ?_
    · go_simp
      refine HId.out.mono ?_
      rintro e wB ⟨rfl, hR, hg⟩
      have eW := Lib.hid (dW.out.call hR hg)
      clear hR hg HId dW
      have dW := eW
      clear eW
      have HIc := Lib.hid (id_p R 3 136 A L C l p3 E wB dW.out.rd)
      obtain ⟨cu, hcu⟩ : ∃ cu, cu = geI l L p3 := ⟨_, rfl⟩
      obtain ⟨p4, hp4⟩ : ∃ p4, p4 = atN l L p3 32 := ⟨_, rfl⟩
      rw [← hcu, ← hp4] at HIc
      have hcl : cu.length = 32 := by rw [hcu]; exact geI_len l L p3
      have HCu := Lib.hid hcu
      have HP4 := Lib.hid hp4
      clear hcu hp4
      (try go_wp2_with fail)
      refine hK.out _ _ ?_ (fun hNew => ?_)
      · ((try dsimp only); done)
      clear hK K hHeld
      have hHeld := hNew
      clear hNew
      (try simp only [Act.put, List.setIfInBounds_toArray, List.set_cons_zero, List.set_cons_succ])
      refine wpAnyH_take (i := 8) (oi := { dst := some 29, op := Op.fieldAddr 65 (Operand.tmp 3) 2, type := 0, pos := "tx.go:158", after := #[{ on := 0, ground := Ground.phase }, { on := 1, ground := Ground.phase }, { on := 2, ground := Ground.phase }, { on := 3, ground := Ground.phase }, { on := 4, ground := Ground.textOnly Departure.lateStores }, { on := 5, ground := Ground.textOnly Departure.lateStores }, { on := 6, ground := Ground.textOnly Departure.lateStores }, { on := 7, ground := Ground.textOnly Departure.lateStoresUnsure }], guard := none }) (v := ?_) rfl (by kernel_rfl) (by kernel_rfl) (by kernel_rfl) (fun _ _ _ h => h) (Or.inl ⟨by rfl, ?_⟩) (by assumption) ?_
      rotate_left 1
      · ((intro w hSw; (try dsimp only at hSw); go_simp) <;> with_reducible rfl)
      (try simp only [Act.put, List.setIfInBounds_toArray, List.set_cons_zero, List.set_cons_succ])
      refine wpAnyH_ready (rs := [7]) (by kernel_rfl) (by simp) ?_
      refine AllReadyH.cons (o := { dst := some 28, op := Op.call { callee := Callee.value (Operand.func 84), args := #[Operand.tmp 27], argTypes := #[94] }, type := 37, pos := "tx.go:158", after := #[{ on := 6, ground := Ground.data }, { on := 3, ground := Ground.chain }], guard := none }) rfl (fun K hK => ?_) ?_
      · go_simp
        refine HIc.out.mono ?_
        rintro e wC ⟨rfl, hR, hg⟩
        have eW := Lib.hid (dW.out.call hR hg)
        clear hR hg HIc dW
        have dW := eW
        clear eW
        have hbo : (bv og).length = 32 := by rw [bv_len, hol]
        have hbc : (bv cu).length = 32 := by rw [bv_len, hcl]
        have HT1 := Lib.hid (dW.out.there 2 (bv og) (by omega))
        have eW := dW.out.lay 2 (bv og) (by omega)
        rw [(sqV_lay (by simp) (by simp) hol).1] at eW
        have HT2 := Lib.hid (eW.there 34 (bv cu) (by omega))
        have fW := eW.lay 34 (bv cu) (by omega)
        rw [(sqV_lay hol (by simp) hcl).2] at fW
        have HW6 := Lib.hid fW
        have HS1 : Hid ((Try.prog.info? 37).map (·.size) = some (bv og).toArray.size) := Lib.hid (by rw [List.size_toArray, hbo]; exact infoId)
        have HS2 : Hid ((Try.prog.info? 37).map (·.size) = some (bv cu).toArray.size) := Lib.hid (by rw [List.size_toArray, hbc]; exact infoId)
        have HO1 := Lib.hid (all_oneCell_toArray (bv_one og))
        have HO2 := Lib.hid (all_oneCell_toArray (bv_one cu))
        clear eW fW dW hbo hbc
        generalize hDO : bv og = DO at *
        generalize hDC : bv cu = DC at *
        have HDO := Lib.hid hDO
        have HDC := Lib.hid hDC
        clear hDO hDC
        (try go_wp2_with fail)
        refine hK.out _ _ ?_ (fun hNew => ?_)
        · ((try dsimp only); done)
        clear hK K hHeld
        have hHeld := hNew
        clear hNew
        (try simp only [Act.put, List.setIfInBounds_toArray, List.set_cons_zero, List.set_cons_succ])
        refine wpAnyH_ready (rs := [9]) (by kernel_rfl) (by simp) ?_
        refine AllReadyH.cons (o := { dst := none, op := Op.store 37 (Operand.tmp 29) (Operand.tmp 24), type := 0, pos := "tx.go:158", after := #[{ on := 8, ground := Ground.data }, { on := 3, ground := Ground.data }, { on := 7, ground := Ground.chain }, { on := 0, ground := Ground.phase }, { on := 1, ground := Ground.phase }, { on := 2, ground := Ground.phase }, { on := 3, ground := Ground.phase }, { on := 4, ground := Ground.textOnly Departure.lateStores }, { on := 5, ground := Ground.textOnly Departure.lateStores }, { on := 6, ground := Ground.textOnly Departure.lateStores }, { on := 7, ground := Ground.textOnly Departure.lateStoresUnsure }], guard := none }) rfl (fun K hK => ?_) ?_
        · refine step_store_mid rfl _ _ _ rfl X 2 DO.toArray rfl rfl HT1.out HS1.out HO1.out ?_
          (try go_wp2_with fail)
          refine hK.out _ _ ?_ (fun hNew => ?_)
          · ((try dsimp only); done)
          clear hK K hHeld
          have hHeld := hNew
          clear hNew
          (try simp only [Act.put, List.setIfInBounds_toArray, List.set_cons_zero, List.set_cons_succ])
          refine wpAnyH_take (i := 10) (oi := { dst := some 30, op := Op.fieldAddr 65 (Operand.tmp 3) 3, type := 0, pos := "tx.go:158", after := #[{ on := 0, ground := Ground.phase }, { on := 1, ground := Ground.phase }, { on := 2, ground := Ground.phase }, { on := 3, ground := Ground.phase }, { on := 4, ground := Ground.phase }, { on := 5, ground := Ground.phase }, { on := 6, ground := Ground.phase }, { on := 7, ground := Ground.phase }, { on := 8, ground := Ground.phase }, { on := 9, ground := Ground.phase }], guard := none }) (v := ?_) rfl (by kernel_rfl) (by kernel_rfl) (by kernel_rfl) (fun _ _ _ h => h) (Or.inl ⟨by rfl, ?_⟩) (by assumption) ?_
          rotate_left 1
          · ((intro w hSw; (try dsimp only at hSw); go_simp) <;> with_reducible rfl)
          (try simp only [Act.put, List.setIfInBounds_toArray, List.set_cons_zero, List.set_cons_succ])
          refine wpAnyH_ready (rs := [11]) (by kernel_rfl) (by simp) ?_
          refine AllReadyH.cons (o := { dst := none, op := Op.store 37 (Operand.tmp 30) (Operand.tmp 28), type := 0, pos := "tx.go:158", after := #[{ on := 10, ground := Ground.data }, { on := 7, ground := Ground.data }, { on := 9, ground := Ground.chain }, { on := 0, ground := Ground.phase }, { on := 1, ground := Ground.phase }, { on := 2, ground := Ground.phase }, { on := 3, ground := Ground.phase }, { on := 4, ground := Ground.phase }, { on := 5, ground := Ground.phase }, { on := 6, ground := Ground.phase }, { on := 7, ground := Ground.phase }, { on := 8, ground := Ground.phase }, { on := 9, ground := Ground.phase }], guard := none }) rfl (fun K hK => ?_) ?_
          · refine step_store_mid rfl _ _ _ rfl X 34 DC.toArray rfl rfl HT2.out HS2.out HO2.out ?_
            (try go_wp2_with fail)
            refine hK.out _ _ ?_ (fun hNew => ?_)
            · ((try dsimp only); done)
            clear hK K hHeld
            have hHeld := hNew
            clear hNew
            (try simp only [Act.put, List.setIfInBounds_toArray, List.set_cons_zero, List.set_cons_succ])
            refine wpAnyH_done (by kernel_rfl) ?_ _
            refine NoPanic.normal ?_
            clear hHeld
            generalize (wC.setCells X 2 DO).setCells X 34 DC = w6 at *
            clear HT1 HT2 HS1 HS2 HO1 HO2 HDO HDC
            have HNm := Lib.hid (number_p R 3 136 A L C l p4 E 2 w6 HW6.out.rd (by decide))
            rw [show ((2 : Nat) : Int) = 2 from rfl] at HNm
            obtain ⟨m, hm⟩ : ∃ m, m = geN l L p4 2 := ⟨_, rfl⟩
            obtain ⟨p5, hp5⟩ : ∃ p5, p5 = atN l L p4 2 := ⟨_, rfl⟩
            rw [← hm, ← hp5] at HNm
            have hml : m < 65536 := by rw [hm]; exact geN_lt (by decide) HLl.out HB1.out
            have HM := Lib.hid hm
            have HP5 := Lib.hid hp5
            clear hm hp5
            go_wp2_with fail
            refine HNm.out.mono ?_
            rintro e w7 ⟨rfl, hR7, hg7⟩
            have HW7 := Lib.hid (HW6.out.call hR7 hg7)
            clear hR7 hg7 HNm HW6
            go_wp2_with fail
            obtain ⟨Q, hQ⟩ : ∃ Q, Q = tdL l L m p5 [] := ⟨_, rfl⟩
            have HQ := Lib.hid hQ
            clear hQ
            go_loopw [4, 5] (fun s4 s5 wr => ∃ (j : Nat) (q : Pl) (ts : List Td) (Ai : Option Addr) (Ci : Nat), s4 = .int .i64 j ∧ j ≤ m ∧ ts.length + j ≤ m ∧ Hid (∀ t ∈ ts, t.id.length = 32) ∧ Hid (tdL l L j q ts = Q) ∧ Hid (Ws w R w.heap.size X 65 70 (sqV k br og cu (.slice Ai ts.length Ci) 0 0 false) A L C l q E wr) ∧ Hid (wr.ownsRow (X + 1) 84 33 (.slice Ai ts.length Ci) ts.length (tdsV ts))) (fun s4 _ _ => (intOf s4).toNat)
            case atStart => exact ⟨m, p5, [], none, 0, rfl, Nat.le_refl _, by simp, Lib.hid (by simp), Lib.hid HQ.out.symm, HW7, Lib.hid ⟨by simp [tdsV], .inl ⟨rfl, rfl⟩⟩⟩
            case round =>
              clear HW7
              obtain ⟨j, q, ts, Ai, Ci, rfl, hj, hts, HTs, HTd, HWr, HOr⟩ := hrel
              by_cases hgo : 0 < j ∧ q.1 = 0
              · obtain ⟨hj0, hq0⟩ := hgo
                have hd : (0 : Int) < (j : Int) := by omega
                have hdq : (q.1 == 0) = true := by simp [hq0]
                have HOk := Lib.hid (ok_p R 3 136 A L C l q E wr HWr.out.rd)
                rw [hdq] at HOk
                have HN8 := Lib.hid (number_p R 3 136 A L C l q E 1 wr HWr.out.rd (by decide))
                rw [show ((1 : Nat) : Int) = 1 from rfl] at HN8
                obtain ⟨j', hj'⟩ : ∃ j', j = j' + 1 := ⟨j - 1, by omega⟩
                have htd := HTd.out
                rw [hj', tdL, if_pos hq0] at htd
                obtain ⟨dd, hdd⟩ : ∃ dd, dd = geN l L q 1 := ⟨_, rfl⟩
                obtain ⟨q1, hq1⟩ : ∃ q1, q1 = atN l L q 1 := ⟨_, rfl⟩
                rw [← hdd, ← hq1] at HN8 htd
                obtain ⟨di, hdi⟩ : ∃ di, di = geI l L q1 := ⟨_, rfl⟩
                obtain ⟨q2, hq2⟩ : ∃ q2, q2 = atN l L q1 32 := ⟨_, rfl⟩
                rw [← hdi, ← hq2] at htd
                have HTd2 := Lib.hid htd
                have hil : di.length = 32 := by rw [hdi]; exact geI_len l L q1
                have HDi := Lib.hid hdi
                have HQ2 := Lib.hid hq2
                have HJ' := Lib.hid hj'
                have hzt := zeroTdZ
                have HZt := Lib.hid tdZ_size
                generalize tdZ.toArray = ZT at *
                clear htd hdd hq1 hdi hq2 hj' hdq hq0 HTd hj0
                go_wp2_with fail
                refine HOk.out.mono ?_
                rintro e w8 ⟨rfl, rfl⟩
                clear HOk
                go_wp2_with fail
                refine HN8.out.mono ?_
                rintro e w9 ⟨rfl, hR9, hg9⟩
                have HW9 := HWr.out.call hR9 hg9
                have HO9 := HWr.out.own_call HOr.out (Nat.lt_succ_self X) hg9
                have HBt := Lib.hid (built_td dd)
                have HY0 := Lib.hid (Wy.new HW9 HO9 (Z := ZT) (tY := 84) HZt.out (tdN_len dd))
                obtain ⟨hf, hrn⟩ := lay_new w9 84 33 ZT (tdN dd) infoTd HZt.out (tdN_len dd) (Td.one _)
                have HFy := Lib.hid hf
                clear hR9 hg9 HN8 HW9 HO9 hf hrn HWr HOr HZt
                generalize hDT : tdN dd = DT at *
                have HDT := Lib.hid hDT
                clear hDT
                go_upto_region 10 with (first
                  | (refine wpList_buildT rfl 84 0 _ rfl _ rfl DT.toArray HBt.out ?_)
                  | (refine wpList_store_mid rfl _ _ _ rfl w9.heap.size 0 DT.toArray rfl rfl HFy.out.there HFy.out.size HFy.out.one ?_))
                change Code.wp _ _ _ _ ((w9.alloc (.cells ZT 84)).setCells w9.heap.size 0 DT)
                clear HBt HFy
                generalize (w9.alloc (.cells ZT 84)).setCells w9.heap.size 0 DT = w10 at *
                generalize w9.heap.size = Y at *
                have HIj := Lib.hid (id_p R 3 136 A L C l q1 E w10 HY0.out.ws.rd)
                rw [← HDi.out, ← HQ2.out] at HIj
                go_wp2_with fail
                refine HIj.out.mono ?_
                rintro e w11 ⟨rfl, hR11, hg11⟩
                have HY1 := HY0.out.call hR11 hg11
                have hbi : (bv di).length = 32 := by rw [bv_len, hil]
                have HT1 := Lib.hid (HY1.there 1 (bv di) (by omega))
                have hy2 := HY1.lay 1 (bv di) (by omega)
                rw [← HDT.out, tdN_lay dd di hil] at hy2
                have HY2 := Lib.hid hy2
                have HS1 : Hid ((Try.prog.info? 37).map (·.size) = some (bv di).toArray.size) := Lib.hid (by rw [List.size_toArray, hbi]; exact infoId)
                have HO1 := Lib.hid (all_oneCell_toArray (bv_one di))
                clear hR11 hg11 hy2 HY0 HY1 HIj hbi HDi HQ2
                generalize hDN : bv di = DN at *
                have HDN := Lib.hid hDN
                clear hDN
                go_upto_region 11 with (refine wpList_store_mid rfl _ _ _ rfl Y 1 DN.toArray rfl rfl HT1.out HS1.out HO1.out ?_)
                change Code.wp _ _ _ _ (w11.setCells Y 1 DN)
                clear HT1 HS1 HO1 HDN
                generalize w11.setCells Y 1 DN = w12 at *
                have hc66 := HY2.out.ws.cell 66 (by decide)
                rw [sqV_td hol hcl] at hc66
                have HRy := Lib.hid HY2.out.range
                have hTl : (Td.cells ⟨(dd : Int), di⟩).length = 33 := Td.len hil
                have HTl := Lib.hid hTl
                have HSy : Hid ((Try.prog.info? 84).map (·.size) = some (Td.cells ⟨(dd : Int), di⟩).length) := Lib.hid (by rw [hTl]; exact infoTd)
                have HTo := Lib.hid (Td.one ⟨(dd : Int), di⟩)
                have HNw := Lib.hid (new_cellsZ w12 (Td.cells ⟨(dd : Int), di⟩) 84)
                have HbA := Lib.hid ((Below.refl w12.heap.size w12).alloc (Nat.le_refl _) (.cells (Td.cells ⟨(dd : Int), di⟩).toArray 84))
                have HoA := Lib.hid (own_keep HY2.out.own HbA.out)
                have HXl : Hid (X + 1 ≤ (w12.alloc (.cells (Td.cells ⟨(dd : Int), di⟩).toArray 84)).heap.size) := Lib.hid (by have h1 := HY2.out.ws.hXs; have h2 := HbA.out.size; omega)
                clear hTl
                generalize hDY : Td.cells ⟨(dd : Int), di⟩ = DY at *
                have HDY := Lib.hid hDY
                clear hDY
                go_wp2_with (first
                  | (refine wpList_load_mid rfl _ _ rfl Y 0 rfl DY _ HRy.out Try.underlying84 rfl HSy.out ?_)
                  | (refine wpList_build_z rowTd _ rfl _ rfl DY rfl HTl.out ?_)
                  | (at_builtin; refine wpList_append_z rowTd _ rfl _ _ rfl (X + 1) _ ts.length (tdsV ts) rfl HoA.out w12.heap.size DY rfl HNw.out HTl.out HTo.out (by omega) HXl.out ?_))
                intro A9 C9 w13 hoE hgE
                have hws := HY2.out.ws.hXs
                obtain ⟨hWz, hOz⟩ := HY2.out.app HbA.out hoE hgE 66
                have hWp := (HY2.out.ws.belowB (HbA.out.mono (by omega))).app HoA.out (Nat.lt_succ_self X) hgE
                have hc : w13.cell? ⟨X, 66, none⟩ = some _ := hWp.cell 66 (by decide)
                have hf : w13.frozen? ⟨X, 66, none⟩ = false := hWp.rx.frozen _
                rw [(sqV_set hol hcl).2.1] at hWz
                have HWz := Lib.hid hWz
                have HOz := Lib.hid hOz
                clear hWz hOz hWp hoE hgE HY2 HRy HTl HSy HTo HNw HbA HoA HXl hc66 hws
                go_wp2_with fail
                have hj2 := HJ'.out
                go_roundw
                case rel => exact ⟨j', q2, ts ++ [⟨(dd : Int), di⟩], A9, C9, by go_num, by omega, by simp; omega, Lib.hid (fun t ht => by
                  rcases List.mem_append.1 ht with ht | ht
                  · exact HTs.out t ht
                  · rw [List.mem_singleton.1 ht]; exact hil), HTd2, Lib.hid (by rw [show (ts ++ [(⟨(dd : Int), di⟩ : Td)]).length = ts.length + 1 by simp]; exact HWz.out), Lib.hid (by rw [show (ts ++ [(⟨(dd : Int), di⟩ : Td)]).length = ts.length + 1 by simp, tdsV_snoc, HDY.out]; exact HOz.out)⟩
                case measure => simp [intOf]; omega
              · -- EXITS
                by_cases hj0 : j = 0
                · have hd : ¬ (0 : Int) < (j : Int) := by omega
                  have HQe : Hid (Q = (q, ts)) := Lib.hid (by rw [← HTd.out, hj0]; rfl)
                  clear hgo hj0
                  go_upto_region 12 with (fail)
                  have HN1 := Lib.hid (number_p R 3 136 A L C l q E 2 wr.drew (HWr.out.drew 1).rd (by decide))
                  rw [show ((2 : Nat) : Int) = 2 from rfl] at HN1
                  obtain ⟨dn, hdn⟩ : ∃ dn, dn = geN l L q 2 := ⟨_, rfl⟩
                  obtain ⟨p6, hp6⟩ : ∃ p6, p6 = atN l L q 2 := ⟨_, rfl⟩
                  rw [← hdn, ← hp6] at HN1
                  have HDn := Lib.hid hdn
                  have HP6 := Lib.hid hp6
                  have dW := Lib.hid (HWr.out.drew 1)
                  have dO : Hid (wr.drew.ownsRow (X + 1) 84 33 (.slice Ai ts.length Ci) ts.length (tdsV ts)) := Lib.hid (World.ownsRow.drew HOr.out)
                  clear HWr HOr HTd hdn hp6
                  refine wp_region_noPanic ?_
                  refine wp_region_held_drew (S := (fun _ => True)) (by kernel_rfl) ?_ (fun hHeld => ?_)
                  · ((try dsimp only); done)
                  refine wpAnyH_take (i := 0) (oi := { dst := some 61, op := Op.move (Operand.tmp 0), type := 135, pos := "tx.go:164", after := #[], guard := none }) (v := ?_) rfl (by kernel_rfl) (by kernel_rfl) (by kernel_rfl) (fun _ _ _ h => h) (Or.inl ⟨by rfl, ?_⟩) (by assumption) ?_
                  rotate_left 1
                  · ((intro w hSw; (try dsimp only at hSw); go_simp) <;> with_reducible rfl)
                  (try simp only [Act.put, List.setIfInBounds_toArray, List.set_cons_zero, List.set_cons_succ])
                  refine wpAnyH_take (i := 1) (oi := { dst := some 62, op := Op.nilCheck (Operand.tmp 61), type := 0, pos := "tx.go:164", after := #[{ on := 0, ground := Ground.data }], guard := none }) (v := ?_) rfl (by kernel_rfl) (by kernel_rfl) (by kernel_rfl) (fun _ _ _ h => h) (Or.inl ⟨by rfl, ?_⟩) (by assumption) ?_
                  rotate_left 1
                  · ((intro w hSw; (try dsimp only at hSw); go_simp) <;> with_reducible rfl)
                  (try simp only [Act.put, List.setIfInBounds_toArray, List.set_cons_zero, List.set_cons_succ])
                  refine wpAnyH_take (i := 2) (oi := { dst := some 63, op := Op.fieldAddr 136 (Operand.tmp 62) 0, type := 0, pos := "tx.go:164", after := #[{ on := 1, ground := Ground.data }], guard := none }) (v := ?_) rfl (by kernel_rfl) (by kernel_rfl) (by kernel_rfl) (fun _ _ _ h => h) (Or.inl ⟨by rfl, ?_⟩) (by assumption) ?_
                  rotate_left 1
                  · ((intro w hSw; (try dsimp only at hSw); go_simp) <;> with_reducible rfl)
                  (try simp only [Act.put, List.setIfInBounds_toArray, List.set_cons_zero, List.set_cons_succ])
                  refine wpAnyH_take (i := 4) (oi := { dst := some 65, op := Op.move (Operand.tmp 0), type := 135, pos := "tx.go:164", after := #[], guard := none }) (v := ?_) rfl (by kernel_rfl) (by kernel_rfl) (by kernel_rfl) (fun _ _ _ h => h) (Or.inl ⟨by rfl, ?_⟩) (by assumption) ?_
                  rotate_left 1
                  · ((intro w hSw; (try dsimp only at hSw); go_simp) <;> with_reducible rfl)
                  (try simp only [Act.put, List.setIfInBounds_toArray, List.set_cons_zero, List.set_cons_succ])
                  refine wpAnyH_take (i := 5) (oi := { dst := some 66, op := Op.nilCheck (Operand.tmp 65), type := 0, pos := "tx.go:164", after := #[{ on := 4, ground := Ground.data }], guard := none }) (v := ?_) rfl (by kernel_rfl) (by kernel_rfl) (by kernel_rfl) (fun _ _ _ h => h) (Or.inl ⟨by rfl, ?_⟩) (by assumption) ?_
                  rotate_left 1
                  · ((intro w hSw; (try dsimp only at hSw); go_simp) <;> with_reducible rfl)
                  (try simp only [Act.put, List.setIfInBounds_toArray, List.set_cons_zero, List.set_cons_succ])
                  refine wpAnyH_take (i := 6) (oi := { dst := some 67, op := Op.fieldAddr 136 (Operand.tmp 66) 0, type := 0, pos := "tx.go:164", after := #[{ on := 5, ground := Ground.data }], guard := none }) (v := ?_) rfl (by kernel_rfl) (by kernel_rfl) (by kernel_rfl) (fun _ _ _ h => h) (Or.inl ⟨by rfl, ?_⟩) (by assumption) ?_
                  rotate_left 1
                  · ((intro w hSw; (try dsimp only at hSw); go_simp) <;> with_reducible rfl)
                  (try simp only [Act.put, List.setIfInBounds_toArray, List.set_cons_zero, List.set_cons_succ])
                  refine wpAnyH_ready (rs := [3]) (by kernel_rfl) (by simp) ?_
                  refine AllReadyH.cons (o := { dst := some 64, op := Op.call { callee := Callee.value (Operand.func 62), args := #[Operand.tmp 63, Operand.const (Value.int IntKind.i64 2)], argTypes := #[94, 3] }, type := 3, pos := "tx.go:164", after := #[{ on := 2, ground := Ground.data }], guard := none }) rfl (fun K hK => ?_) ?_
                  · go_simp
                    refine HN1.out.mono ?_
                    rintro e wB ⟨rfl, hR, hg⟩
                    have eW := Lib.hid (dW.out.call hR hg)
                    have eO := Lib.hid (dW.out.own_call dO.out (Nat.lt_succ_self X) hg)
                    clear hR hg HN1 dW dO
                    have dW := eW
                    have dO := eO
                    clear eW eO
                    have HN2 := Lib.hid (number_p R 3 136 A L C l p6 E 2 wB dW.out.rd (by decide))
                    rw [show ((2 : Nat) : Int) = 2 from rfl] at HN2
                    obtain ⟨md, hmd⟩ : ∃ md, md = geN l L p6 2 := ⟨_, rfl⟩
                    obtain ⟨p7, hp7⟩ : ∃ p7, p7 = atN l L p6 2 := ⟨_, rfl⟩
                    rw [← hmd, ← hp7] at HN2
                    have HMd := Lib.hid hmd
                    have HP7 := Lib.hid hp7
                    clear hmd hp7
                    (try go_wp2_with fail)
                    refine hK.out _ _ ?_ (fun hNew => ?_)
                    · ((try dsimp only); done)
                    clear hK K hHeld
                    have hHeld := hNew
                    clear hNew
                    (try simp only [Act.put, List.setIfInBounds_toArray, List.set_cons_zero, List.set_cons_succ])
                    refine wpAnyH_take (i := 8) (oi := { dst := some 69, op := Op.fieldAddr 65 (Operand.tmp 3) 5, type := 0, pos := "tx.go:164", after := #[{ on := 0, ground := Ground.phase }, { on := 1, ground := Ground.phase }, { on := 2, ground := Ground.phase }, { on := 3, ground := Ground.phase }, { on := 4, ground := Ground.textOnly Departure.lateStores }, { on := 5, ground := Ground.textOnly Departure.lateStores }, { on := 6, ground := Ground.textOnly Departure.lateStores }, { on := 7, ground := Ground.textOnly Departure.lateStoresUnsure }], guard := none }) (v := ?_) rfl (by kernel_rfl) (by kernel_rfl) (by kernel_rfl) (fun _ _ _ h => h) (Or.inl ⟨by rfl, ?_⟩) (by assumption) ?_
                    rotate_left 1
                    · ((intro w hSw; (try dsimp only at hSw); go_simp) <;> with_reducible rfl)
                    (try simp only [Act.put, List.setIfInBounds_toArray, List.set_cons_zero, List.set_cons_succ])
                    refine wpAnyH_ready (rs := [7]) (by kernel_rfl) (by simp) ?_
                    refine AllReadyH.cons (o := { dst := some 68, op := Op.call { callee := Callee.value (Operand.func 62), args := #[Operand.tmp 67, Operand.const (Value.int IntKind.i64 2)], argTypes := #[94, 3] }, type := 3, pos := "tx.go:164", after := #[{ on := 6, ground := Ground.data }, { on := 3, ground := Ground.chain }], guard := none }) rfl (fun K hK => ?_) ?_
                    · go_simp
                      refine HN2.out.mono ?_
                      rintro e wC ⟨rfl, hR, hg⟩
                      have eW := dW.out.call hR hg
                      have eO := dW.out.own_call dO.out (Nat.lt_succ_self X) hg
                      have hc : wC.cell? ⟨X, 67, none⟩ = some _ := eW.cell 67 (by decide)
                      have hf : wC.frozen? ⟨X, 67, none⟩ = false := eW.rx.frozen _
                      have fW := eW.set 67 (.int .i64 (dn : Int))
                      rw [(sqV_set hol hcl).2.2.1] at fW
                      have hc2 : (wC.setCell ⟨X, 67, none⟩ (.int .i64 (dn : Int))).cell? ⟨X, 68, none⟩ = some _ := fW.cell 68 (by decide)
                      have hf2 : (wC.setCell ⟨X, 67, none⟩ (.int .i64 (dn : Int))).frozen? ⟨X, 68, none⟩ = false := fW.rx.frozen _
                      have gW := fW.set 68 (.int .i64 (md : Int))
                      rw [(sqV_set hol hcl).2.2.2.1] at gW
                      have HW14 := Lib.hid gW
                      have HO14 := Lib.hid (Ws.own_set (Ws.own_set eO (Nat.lt_succ_self X) 67 (.int .i64 (dn : Int))) (Nat.lt_succ_self X) 68 (.int .i64 (md : Int)))
                      clear eW eO fW gW dW dO hR hg HN2
                      (try go_wp2_with fail)
                      refine hK.out _ _ ?_ (fun hNew => ?_)
                      · ((try dsimp only); done)
                      clear hK K hHeld
                      have hHeld := hNew
                      clear hNew
                      (try simp only [Act.put, List.setIfInBounds_toArray, List.set_cons_zero, List.set_cons_succ])
                      refine wpAnyH_ready (rs := [9]) (by kernel_rfl) (by simp) ?_
                      refine AllReadyH.cons (o := { dst := none, op := Op.store 3 (Operand.tmp 69) (Operand.tmp 64), type := 0, pos := "tx.go:164", after := #[{ on := 8, ground := Ground.data }, { on := 3, ground := Ground.data }, { on := 7, ground := Ground.chain }, { on := 0, ground := Ground.phase }, { on := 1, ground := Ground.phase }, { on := 2, ground := Ground.phase }, { on := 3, ground := Ground.phase }, { on := 4, ground := Ground.textOnly Departure.lateStores }, { on := 5, ground := Ground.textOnly Departure.lateStores }, { on := 6, ground := Ground.textOnly Departure.lateStores }, { on := 7, ground := Ground.textOnly Departure.lateStoresUnsure }], guard := none }) rfl (fun K hK => ?_) ?_
                      · go_simp
                        refine hK.out _ _ ?_ (fun hNew => ?_)
                        · ((try dsimp only); done)
                        clear hK K hHeld
                        have hHeld := hNew
                        clear hNew
                        (try simp only [Act.put, List.setIfInBounds_toArray, List.set_cons_zero, List.set_cons_succ])
                        refine wpAnyH_take (i := 10) (oi := { dst := some 70, op := Op.fieldAddr 65 (Operand.tmp 3) 6, type := 0, pos := "tx.go:164", after := #[{ on := 0, ground := Ground.phase }, { on := 1, ground := Ground.phase }, { on := 2, ground := Ground.phase }, { on := 3, ground := Ground.phase }, { on := 4, ground := Ground.phase }, { on := 5, ground := Ground.phase }, { on := 6, ground := Ground.phase }, { on := 7, ground := Ground.phase }, { on := 8, ground := Ground.phase }, { on := 9, ground := Ground.phase }], guard := none }) (v := ?_) rfl (by kernel_rfl) (by kernel_rfl) (by kernel_rfl) (fun _ _ _ h => h) (Or.inl ⟨by rfl, ?_⟩) (by assumption) ?_
                        rotate_left 1
                        · ((intro w hSw; (try dsimp only at hSw); go_simp) <;> with_reducible rfl)
                        (try simp only [Act.put, List.setIfInBounds_toArray, List.set_cons_zero, List.set_cons_succ])
                        refine wpAnyH_ready (rs := [11]) (by kernel_rfl) (by simp) ?_
                        refine AllReadyH.cons (o := { dst := none, op := Op.store 3 (Operand.tmp 70) (Operand.tmp 68), type := 0, pos := "tx.go:164", after := #[{ on := 10, ground := Ground.data }, { on := 7, ground := Ground.data }, { on := 9, ground := Ground.chain }, { on := 0, ground := Ground.phase }, { on := 1, ground := Ground.phase }, { on := 2, ground := Ground.phase }, { on := 3, ground := Ground.phase }, { on := 4, ground := Ground.phase }, { on := 5, ground := Ground.phase }, { on := 6, ground := Ground.phase }, { on := 7, ground := Ground.phase }, { on := 8, ground := Ground.phase }, { on := 9, ground := Ground.phase }], guard := none }) rfl (fun K hK => ?_) ?_
                        · go_simp
                          refine hK.out _ _ ?_ (fun hNew => ?_)
                          · ((try dsimp only); done)
                          clear hK K hHeld
                          have hHeld := hNew
                          clear hNew
                          (try simp only [Act.put, List.setIfInBounds_toArray, List.set_cons_zero, List.set_cons_succ])
                          refine wpAnyH_done (by kernel_rfl) ?_ _
                          refine NoPanic.normal ?_
                          clear hHeld hc hf hc2 hf2
                          generalize (wC.setCell ⟨X, 67, none⟩ (.int .i64 (dn : Int))).setCell ⟨X, 68, none⟩ (.int .i64 (md : Int)) = w14 at *
                          have HBy := Lib.hid (byte_p R 3 136 A L C l p7 E w14 HW14.out.rd)
                          obtain ⟨st, hst⟩ : ∃ st, st = geN l L p7 1 := ⟨_, rfl⟩
                          obtain ⟨p8, hp8⟩ : ∃ p8, p8 = atN l L p7 1 := ⟨_, rfl⟩
                          rw [← hst, ← hp8] at HBy
                          have HSt := Lib.hid hst
                          have HP8 := Lib.hid hp8
                          clear hst hp8
                          go_wp2_with fail
                          refine HBy.out.mono ?_
                          rintro e w15 ⟨rfl, hR, hg⟩
                          have HW15 := Lib.hid (HW14.out.call hR hg)
                          have HO15 := Lib.hid (HW14.out.own_call HO14.out (Nat.lt_succ_self X) hg)
                          clear hR hg HW14 HO14 HBy
                          by_cases h1 : 1 < st
                          · have hd1 : (1 : Int) < (st : Int) := by omega
                            have HFm := Lib.hid (fail_p R 3 136 A L C l p8 16 E w15 HW15.out.rd)
                            obtain ⟨p9, hp9⟩ : ∃ p9 : Pl, p9 = (fl p8.1 16, p8.2) := ⟨_, rfl⟩
                            rw [← hp9] at HFm
                            have HP9 : Hid (p9 = if 1 < st then (fl p8.1 16, p8.2) else p8) := Lib.hid (by rw [if_pos h1]; exact hp9)
                            clear h1 hp9
                            go_wp2_with fail
                            refine HFm.out.mono ?_
                            rintro e w16 ⟨rfl, hR, hg⟩
                            have HW16 := Lib.hid (HW15.out.call hR hg)
                            have HO16 := Lib.hid (HW15.out.own_call HO15.out (Nat.lt_succ_self X) hg)
                            clear hR hg HW15 HO15 HFm
                            have hcs : w16.cell? ⟨X, 69, none⟩ = some _ := HW16.out.cell 69 (by decide)
                            have hfs : w16.frozen? ⟨X, 69, none⟩ = false := HW16.out.rx.frozen _
                            have hW17 := HW16.out.set 69 (.bool ((st : Int) == 1))
                            rw [(sqV_set hol hcl).2.2.2.2] at hW17
                            have HW17 := Lib.hid hW17
                            have HO17 := Lib.hid (Ws.own_set HO16.out (Nat.lt_succ_self X) 69 (.bool ((st : Int) == 1)))
                            clear hW17 HW16 HO16
                            go_upto_region 17 with (fail)
                            clear hcs hfs
                            generalize w16.setCell ⟨X, 69, none⟩ (.bool ((st : Int) == 1)) = w17 at *
                            have hl := HW17.out.dl
                            obtain ⟨f1, f2, f3, f4, f5⟩ := HW17.out.fin (B := X + 1) (e := 84) (sz := 33) (n := ts.length) (v := .slice Ai ts.length Ci) (xs := tdsV ts)
                            have HRg := Lib.hid HW17.out.range
                            have HLs : Hid ((Try.prog.info? 65).map (·.size) = some (sqV k br og cu (.slice Ai ts.length Ci) dn md ((st : Int) == 1)).length) := Lib.hid (by rw [hl]; exact infoSq)
                            have HLs2 : Hid ((Try.prog.info? 65).map (·.size) = some (sqV k br og cu (.slice Ai ts.length Ci) dn md ((st : Int) == 1)).toArray.size) := Lib.hid (by rw [List.size_toArray]; exact HLs.out)
                            have HOn := Lib.hid (all_oneCell_toArray (cs := sqV k br og cu (.slice Ai ts.length Ci) dn md ((st : Int) == 1)) (sqV_one rfl))
                            have HF1 := Lib.hid f1
                            have HF2 := Lib.hid f2
                            have HF3 := Lib.hid f3
                            have HF4 := Lib.hid f4
                            have HF5 := Lib.hid (own_base (f5 HO17.out (Nat.lt_succ_self X)) (by have h1 := HW17.out.hO; have h2 := HW17.out.hX; omega : w.heap.size ≤ X + 1))
                            clear hl f1 f2 f3 f4 f5 HW17 HO17
                            generalize hDF : sqV k br og cu (.slice Ai ts.length Ci) dn md ((st : Int) == 1) = DF at *
                            have HDF := Lib.hid hDF
                            clear hDF
                            go_wp2_with (first
                              | (refine wpList_load_mid rfl _ _ rfl X 0 rfl DF _ HRg.out Try.underlying65 rfl HLs.out ?_)
                              | (refine wpList_store_mid rfl _ _ _ rfl w.heap.size 0 DF.toArray rfl rfl HF4.out HLs2.out HOn.out ?_))
                            refine bodyPost_ret (results_cell_row rfl _ _ w.heap.size _ _ _ _ rfl HF3.out Try.underlying65 rfl HLs2.out) rfl ?_
                            have eK : sK l L p = k := HK.out.symm
                            have e1 : sP1 l L p = p1 := HP1.out.symm
                            have eB : sBr l L p = br := by unfold sBr; rw [e1]; exact HBr.out.symm
                            have e2 : sP2 l L p = p2 := by unfold sP2; rw [e1]; exact HP2.out.symm
                            have eO : sOg l L p = og := by unfold sOg; rw [e2]; exact HOg.out.symm
                            have e3 : sP3 l L p = p3 := by unfold sP3; rw [e2]; exact HP3.out.symm
                            have eC : sCu l L p = cu := by unfold sCu; rw [e3]; exact HCu.out.symm
                            have e4 : sP4 l L p = p4 := by unfold sP4; rw [e3]; exact HP4.out.symm
                            have eM : sM l L p = m := by unfold sM; rw [e4]; exact HM.out.symm
                            have e5 : sP5 l L p = p5 := by unfold sP5; rw [e4]; exact HP5.out.symm
                            have eQ : sQ l L p = (q, ts) := by unfold sQ; rw [eM, e5]; exact HQ.out.symm.trans HQe.out
                            have eD : sDn l L p = dn := by unfold sDn; rw [eQ]; exact HDn.out.symm
                            have e6 : sP6 l L p = p6 := by unfold sP6; rw [eQ]; exact HP6.out.symm
                            have eMd : sMd l L p = md := by unfold sMd; rw [e6]; exact HMd.out.symm
                            have e7 : sP7 l L p = p7 := by unfold sP7; rw [e6]; exact HP7.out.symm
                            have eS : sSt l L p = st := by unfold sSt; rw [e7]; exact HSt.out.symm
                            have e8 : sP8 l L p = p8 := by unfold sP8; rw [e7]; exact HP8.out.symm
                            have e9 : sP9 l L p = p9 := by unfold sP9; rw [eS, e8]; exact HP9.out.symm
                            have eE : sqE l L p = p9 := by unfold sqE; rw [if_neg (by rw [eK]; exact HKn.out)]; exact e9
                            have eqP : sqP l L p = ⟨(k : Nat), br, og, cu, ts, (dn : Nat), (md : Nat), st == 1⟩ := by unfold sqP; rw [if_neg (by rw [eK]; exact HKn.out), eK, eB, eO, eC, eQ, eD, eMd, eS]
                            have eb : ((st : Int) == 1) = (st == 1) := by rw [Bool.eq_iff_iff]; simp; omega
                            unfold SqRet
                            rw [eE, eqP]
                            exact ⟨HF1.out, HF2.out, Ai, Ci, by rw [← HDF.out, eb]; rfl, HF5.out⟩
                          · have hd1 : ¬ (1 : Int) < (st : Int) := by omega
                            obtain ⟨p9, hp9⟩ : ∃ p9 : Pl, p9 = p8 := ⟨_, rfl⟩
                            have HP9 : Hid (p9 = if 1 < st then (fl p8.1 16, p8.2) else p8) := Lib.hid (by rw [if_neg h1]; exact hp9)
                            rw [← hp9] at HW15
                            have HW16 := HW15
                            have HO16 := HO15
                            obtain ⟨w16, hw16⟩ : ∃ w16, w16 = w15 := ⟨_, rfl⟩
                            subst hw16
                            clear h1 hp9 HW15 HO15
                            have hcs : w16.cell? ⟨X, 69, none⟩ = some _ := HW16.out.cell 69 (by decide)
                            have hfs : w16.frozen? ⟨X, 69, none⟩ = false := HW16.out.rx.frozen _
                            have hW17 := HW16.out.set 69 (.bool ((st : Int) == 1))
                            rw [(sqV_set hol hcl).2.2.2.2] at hW17
                            have HW17 := Lib.hid hW17
                            have HO17 := Lib.hid (Ws.own_set HO16.out (Nat.lt_succ_self X) 69 (.bool ((st : Int) == 1)))
                            clear hW17 HW16 HO16
                            go_upto_region 17 with (fail)
                            clear hcs hfs
                            generalize w16.setCell ⟨X, 69, none⟩ (.bool ((st : Int) == 1)) = w17 at *
                            have hl := HW17.out.dl
                            obtain ⟨f1, f2, f3, f4, f5⟩ := HW17.out.fin (B := X + 1) (e := 84) (sz := 33) (n := ts.length) (v := .slice Ai ts.length Ci) (xs := tdsV ts)
                            have HRg := Lib.hid HW17.out.range
                            have HLs : Hid ((Try.prog.info? 65).map (·.size) = some (sqV k br og cu (.slice Ai ts.length Ci) dn md ((st : Int) == 1)).length) := Lib.hid (by rw [hl]; exact infoSq)
                            have HLs2 : Hid ((Try.prog.info? 65).map (·.size) = some (sqV k br og cu (.slice Ai ts.length Ci) dn md ((st : Int) == 1)).toArray.size) := Lib.hid (by rw [List.size_toArray]; exact HLs.out)
                            have HOn := Lib.hid (all_oneCell_toArray (cs := sqV k br og cu (.slice Ai ts.length Ci) dn md ((st : Int) == 1)) (sqV_one rfl))
                            have HF1 := Lib.hid f1
                            have HF2 := Lib.hid f2
                            have HF3 := Lib.hid f3
                            have HF4 := Lib.hid f4
                            have HF5 := Lib.hid (own_base (f5 HO17.out (Nat.lt_succ_self X)) (by have h1 := HW17.out.hO; have h2 := HW17.out.hX; omega : w.heap.size ≤ X + 1))
                            clear hl f1 f2 f3 f4 f5 HW17 HO17
                            generalize hDF : sqV k br og cu (.slice Ai ts.length Ci) dn md ((st : Int) == 1) = DF at *
                            have HDF := Lib.hid hDF
                            clear hDF
                            go_wp2_with (first
                              | (refine wpList_load_mid rfl _ _ rfl X 0 rfl DF _ HRg.out Try.underlying65 rfl HLs.out ?_)
                              | (refine wpList_store_mid rfl _ _ _ rfl w.heap.size 0 DF.toArray rfl rfl HF4.out HLs2.out HOn.out ?_))
                            refine bodyPost_ret (results_cell_row rfl _ _ w.heap.size _ _ _ _ rfl HF3.out Try.underlying65 rfl HLs2.out) rfl ?_
                            have eK : sK l L p = k := HK.out.symm
                            have e1 : sP1 l L p = p1 := HP1.out.symm
                            have eB : sBr l L p = br := by unfold sBr; rw [e1]; exact HBr.out.symm
                            have e2 : sP2 l L p = p2 := by unfold sP2; rw [e1]; exact HP2.out.symm
                            have eO : sOg l L p = og := by unfold sOg; rw [e2]; exact HOg.out.symm
                            have e3 : sP3 l L p = p3 := by unfold sP3; rw [e2]; exact HP3.out.symm
                            have eC : sCu l L p = cu := by unfold sCu; rw [e3]; exact HCu.out.symm
                            have e4 : sP4 l L p = p4 := by unfold sP4; rw [e3]; exact HP4.out.symm
                            have eM : sM l L p = m := by unfold sM; rw [e4]; exact HM.out.symm
                            have e5 : sP5 l L p = p5 := by unfold sP5; rw [e4]; exact HP5.out.symm
                            have eQ : sQ l L p = (q, ts) := by unfold sQ; rw [eM, e5]; exact HQ.out.symm.trans HQe.out
                            have eD : sDn l L p = dn := by unfold sDn; rw [eQ]; exact HDn.out.symm
                            have e6 : sP6 l L p = p6 := by unfold sP6; rw [eQ]; exact HP6.out.symm
                            have eMd : sMd l L p = md := by unfold sMd; rw [e6]; exact HMd.out.symm
                            have e7 : sP7 l L p = p7 := by unfold sP7; rw [e6]; exact HP7.out.symm
                            have eS : sSt l L p = st := by unfold sSt; rw [e7]; exact HSt.out.symm
                            have e8 : sP8 l L p = p8 := by unfold sP8; rw [e7]; exact HP8.out.symm
                            have e9 : sP9 l L p = p9 := by unfold sP9; rw [eS, e8]; exact HP9.out.symm
                            have eE : sqE l L p = p9 := by unfold sqE; rw [if_neg (by rw [eK]; exact HKn.out)]; exact e9
                            have eqP : sqP l L p = ⟨(k : Nat), br, og, cu, ts, (dn : Nat), (md : Nat), st == 1⟩ := by unfold sqP; rw [if_neg (by rw [eK]; exact HKn.out), eK, eB, eO, eC, eQ, eD, eMd, eS]
                            have eb : ((st : Int) == 1) = (st == 1) := by rw [Bool.eq_iff_iff]; simp; omega
                            unfold SqRet
                            rw [eE, eqP]
                            exact ⟨HF1.out, HF2.out, Ai, Ci, by rw [← HDF.out, eb]; rfl, HF5.out⟩
                        exact AllReadyH.nil
                      exact AllReadyH.nil
                    exact AllReadyH.nil
                  exact AllReadyH.nil
                · have hq0 : ¬ q.1 = 0 := fun e => hgo ⟨by omega, e⟩
                  have hd : (0 : Int) < (j : Int) := by omega
                  have hdq : (q.1 == 0) = false := by simp [hq0]
                  have HOk := Lib.hid (ok_p R 3 136 A L C l q E wr HWr.out.rd)
                  rw [hdq] at HOk
                  have HQe : Hid (Q = (q, ts)) := Lib.hid (by
                    obtain ⟨j', hj'⟩ : ∃ j', j = j' + 1 := ⟨j - 1, by omega⟩
                    rw [← HTd.out, hj', tdL, if_neg hq0])
                  clear hgo hj0 hq0 hdq
                  go_wp2_with fail
                  refine HOk.out.mono ?_
                  rintro e w8 ⟨rfl, rfl⟩
                  clear HOk
                  go_upto_region 12 with (fail)
                  have HN1 := Lib.hid (number_p R 3 136 A L C l q E 2 w8.drew (HWr.out.drew 1).rd (by decide))
                  rw [show ((2 : Nat) : Int) = 2 from rfl] at HN1
                  obtain ⟨dn, hdn⟩ : ∃ dn, dn = geN l L q 2 := ⟨_, rfl⟩
                  obtain ⟨p6, hp6⟩ : ∃ p6, p6 = atN l L q 2 := ⟨_, rfl⟩
                  rw [← hdn, ← hp6] at HN1
                  have HDn := Lib.hid hdn
                  have HP6 := Lib.hid hp6
                  have dW := Lib.hid (HWr.out.drew 1)
                  have dO : Hid (w8.drew.ownsRow (X + 1) 84 33 (.slice Ai ts.length Ci) ts.length (tdsV ts)) := Lib.hid (World.ownsRow.drew HOr.out)
                  clear HWr HOr HTd hdn hp6
                  refine wp_region_noPanic ?_
                  refine wp_region_held_drew (S := (fun _ => True)) (by kernel_rfl) ?_ (fun hHeld => ?_)
                  · ((try dsimp only); done)
                  refine wpAnyH_take (i := 0) (oi := { dst := some 61, op := Op.move (Operand.tmp 0), type := 135, pos := "tx.go:164", after := #[], guard := none }) (v := ?_) rfl (by kernel_rfl) (by kernel_rfl) (by kernel_rfl) (fun _ _ _ h => h) (Or.inl ⟨by rfl, ?_⟩) (by assumption) ?_
                  rotate_left 1
                  · ((intro w hSw; (try dsimp only at hSw); go_simp) <;> with_reducible rfl)
                  (try simp only [Act.put, List.setIfInBounds_toArray, List.set_cons_zero, List.set_cons_succ])
                  refine wpAnyH_take (i := 1) (oi := { dst := some 62, op := Op.nilCheck (Operand.tmp 61), type := 0, pos := "tx.go:164", after := #[{ on := 0, ground := Ground.data }], guard := none }) (v := ?_) rfl (by kernel_rfl) (by kernel_rfl) (by kernel_rfl) (fun _ _ _ h => h) (Or.inl ⟨by rfl, ?_⟩) (by assumption) ?_
                  rotate_left 1
                  · ((intro w hSw; (try dsimp only at hSw); go_simp) <;> with_reducible rfl)
                  (try simp only [Act.put, List.setIfInBounds_toArray, List.set_cons_zero, List.set_cons_succ])
                  refine wpAnyH_take (i := 2) (oi := { dst := some 63, op := Op.fieldAddr 136 (Operand.tmp 62) 0, type := 0, pos := "tx.go:164", after := #[{ on := 1, ground := Ground.data }], guard := none }) (v := ?_) rfl (by kernel_rfl) (by kernel_rfl) (by kernel_rfl) (fun _ _ _ h => h) (Or.inl ⟨by rfl, ?_⟩) (by assumption) ?_
                  rotate_left 1
                  · ((intro w hSw; (try dsimp only at hSw); go_simp) <;> with_reducible rfl)
                  (try simp only [Act.put, List.setIfInBounds_toArray, List.set_cons_zero, List.set_cons_succ])
                  refine wpAnyH_take (i := 4) (oi := { dst := some 65, op := Op.move (Operand.tmp 0), type := 135, pos := "tx.go:164", after := #[], guard := none }) (v := ?_) rfl (by kernel_rfl) (by kernel_rfl) (by kernel_rfl) (fun _ _ _ h => h) (Or.inl ⟨by rfl, ?_⟩) (by assumption) ?_
                  rotate_left 1
                  · ((intro w hSw; (try dsimp only at hSw); go_simp) <;> with_reducible rfl)
                  (try simp only [Act.put, List.setIfInBounds_toArray, List.set_cons_zero, List.set_cons_succ])
                  refine wpAnyH_take (i := 5) (oi := { dst := some 66, op := Op.nilCheck (Operand.tmp 65), type := 0, pos := "tx.go:164", after := #[{ on := 4, ground := Ground.data }], guard := none }) (v := ?_) rfl (by kernel_rfl) (by kernel_rfl) (by kernel_rfl) (fun _ _ _ h => h) (Or.inl ⟨by rfl, ?_⟩) (by assumption) ?_
                  rotate_left 1
                  · ((intro w hSw; (try dsimp only at hSw); go_simp) <;> with_reducible rfl)
                  (try simp only [Act.put, List.setIfInBounds_toArray, List.set_cons_zero, List.set_cons_succ])
                  refine wpAnyH_take (i := 6) (oi := { dst := some 67, op := Op.fieldAddr 136 (Operand.tmp 66) 0, type := 0, pos := "tx.go:164", after := #[{ on := 5, ground := Ground.data }], guard := none }) (v := ?_) rfl (by kernel_rfl) (by kernel_rfl) (by kernel_rfl) (fun _ _ _ h => h) (Or.inl ⟨by rfl, ?_⟩) (by assumption) ?_
                  rotate_left 1
                  · ((intro w hSw; (try dsimp only at hSw); go_simp) <;> with_reducible rfl)
                  (try simp only [Act.put, List.setIfInBounds_toArray, List.set_cons_zero, List.set_cons_succ])
                  refine wpAnyH_ready (rs := [3]) (by kernel_rfl) (by simp) ?_
                  refine AllReadyH.cons (o := { dst := some 64, op := Op.call { callee := Callee.value (Operand.func 62), args := #[Operand.tmp 63, Operand.const (Value.int IntKind.i64 2)], argTypes := #[94, 3] }, type := 3, pos := "tx.go:164", after := #[{ on := 2, ground := Ground.data }], guard := none }) rfl (fun K hK => ?_) ?_
                  · go_simp
                    refine HN1.out.mono ?_
                    rintro e wB ⟨rfl, hR, hg⟩
                    have eW := Lib.hid (dW.out.call hR hg)
                    have eO := Lib.hid (dW.out.own_call dO.out (Nat.lt_succ_self X) hg)
                    clear hR hg HN1 dW dO
                    have dW := eW
                    have dO := eO
                    clear eW eO
                    have HN2 := Lib.hid (number_p R 3 136 A L C l p6 E 2 wB dW.out.rd (by decide))
                    rw [show ((2 : Nat) : Int) = 2 from rfl] at HN2
                    obtain ⟨md, hmd⟩ : ∃ md, md = geN l L p6 2 := ⟨_, rfl⟩
                    obtain ⟨p7, hp7⟩ : ∃ p7, p7 = atN l L p6 2 := ⟨_, rfl⟩
                    rw [← hmd, ← hp7] at HN2
                    have HMd := Lib.hid hmd
                    have HP7 := Lib.hid hp7
                    clear hmd hp7
                    (try go_wp2_with fail)
                    refine hK.out _ _ ?_ (fun hNew => ?_)
                    · ((try dsimp only); done)
                    clear hK K hHeld
                    have hHeld := hNew
                    clear hNew
                    (try simp only [Act.put, List.setIfInBounds_toArray, List.set_cons_zero, List.set_cons_succ])
                    refine wpAnyH_take (i := 8) (oi := { dst := some 69, op := Op.fieldAddr 65 (Operand.tmp 3) 5, type := 0, pos := "tx.go:164", after := #[{ on := 0, ground := Ground.phase }, { on := 1, ground := Ground.phase }, { on := 2, ground := Ground.phase }, { on := 3, ground := Ground.phase }, { on := 4, ground := Ground.textOnly Departure.lateStores }, { on := 5, ground := Ground.textOnly Departure.lateStores }, { on := 6, ground := Ground.textOnly Departure.lateStores }, { on := 7, ground := Ground.textOnly Departure.lateStoresUnsure }], guard := none }) (v := ?_) rfl (by kernel_rfl) (by kernel_rfl) (by kernel_rfl) (fun _ _ _ h => h) (Or.inl ⟨by rfl, ?_⟩) (by assumption) ?_
                    rotate_left 1
                    · ((intro w hSw; (try dsimp only at hSw); go_simp) <;> with_reducible rfl)
                    (try simp only [Act.put, List.setIfInBounds_toArray, List.set_cons_zero, List.set_cons_succ])
                    refine wpAnyH_ready (rs := [7]) (by kernel_rfl) (by simp) ?_
                    refine AllReadyH.cons (o := { dst := some 68, op := Op.call { callee := Callee.value (Operand.func 62), args := #[Operand.tmp 67, Operand.const (Value.int IntKind.i64 2)], argTypes := #[94, 3] }, type := 3, pos := "tx.go:164", after := #[{ on := 6, ground := Ground.data }, { on := 3, ground := Ground.chain }], guard := none }) rfl (fun K hK => ?_) ?_
                    · go_simp
                      refine HN2.out.mono ?_
                      rintro e wC ⟨rfl, hR, hg⟩
                      have eW := dW.out.call hR hg
                      have eO := dW.out.own_call dO.out (Nat.lt_succ_self X) hg
                      have hc : wC.cell? ⟨X, 67, none⟩ = some _ := eW.cell 67 (by decide)
                      have hf : wC.frozen? ⟨X, 67, none⟩ = false := eW.rx.frozen _
                      have fW := eW.set 67 (.int .i64 (dn : Int))
                      rw [(sqV_set hol hcl).2.2.1] at fW
                      have hc2 : (wC.setCell ⟨X, 67, none⟩ (.int .i64 (dn : Int))).cell? ⟨X, 68, none⟩ = some _ := fW.cell 68 (by decide)
                      have hf2 : (wC.setCell ⟨X, 67, none⟩ (.int .i64 (dn : Int))).frozen? ⟨X, 68, none⟩ = false := fW.rx.frozen _
                      have gW := fW.set 68 (.int .i64 (md : Int))
                      rw [(sqV_set hol hcl).2.2.2.1] at gW
                      have HW14 := Lib.hid gW
                      have HO14 := Lib.hid (Ws.own_set (Ws.own_set eO (Nat.lt_succ_self X) 67 (.int .i64 (dn : Int))) (Nat.lt_succ_self X) 68 (.int .i64 (md : Int)))
                      clear eW eO fW gW dW dO hR hg HN2
                      (try go_wp2_with fail)
                      refine hK.out _ _ ?_ (fun hNew => ?_)
                      · ((try dsimp only); done)
                      clear hK K hHeld
                      have hHeld := hNew
                      clear hNew
                      (try simp only [Act.put, List.setIfInBounds_toArray, List.set_cons_zero, List.set_cons_succ])
                      refine wpAnyH_ready (rs := [9]) (by kernel_rfl) (by simp) ?_
                      refine AllReadyH.cons (o := { dst := none, op := Op.store 3 (Operand.tmp 69) (Operand.tmp 64), type := 0, pos := "tx.go:164", after := #[{ on := 8, ground := Ground.data }, { on := 3, ground := Ground.data }, { on := 7, ground := Ground.chain }, { on := 0, ground := Ground.phase }, { on := 1, ground := Ground.phase }, { on := 2, ground := Ground.phase }, { on := 3, ground := Ground.phase }, { on := 4, ground := Ground.textOnly Departure.lateStores }, { on := 5, ground := Ground.textOnly Departure.lateStores }, { on := 6, ground := Ground.textOnly Departure.lateStores }, { on := 7, ground := Ground.textOnly Departure.lateStoresUnsure }], guard := none }) rfl (fun K hK => ?_) ?_
                      · go_simp
                        refine hK.out _ _ ?_ (fun hNew => ?_)
                        · ((try dsimp only); done)
                        clear hK K hHeld
                        have hHeld := hNew
                        clear hNew
                        (try simp only [Act.put, List.setIfInBounds_toArray, List.set_cons_zero, List.set_cons_succ])
                        refine wpAnyH_take (i := 10) (oi := { dst := some 70, op := Op.fieldAddr 65 (Operand.tmp 3) 6, type := 0, pos := "tx.go:164", after := #[{ on := 0, ground := Ground.phase }, { on := 1, ground := Ground.phase }, { on := 2, ground := Ground.phase }, { on := 3, ground := Ground.phase }, { on := 4, ground := Ground.phase }, { on := 5, ground := Ground.phase }, { on := 6, ground := Ground.phase }, { on := 7, ground := Ground.phase }, { on := 8, ground := Ground.phase }, { on := 9, ground := Ground.phase }], guard := none }) (v := ?_) rfl (by kernel_rfl) (by kernel_rfl) (by kernel_rfl) (fun _ _ _ h => h) (Or.inl ⟨by rfl, ?_⟩) (by assumption) ?_
                        rotate_left 1
                        · ((intro w hSw; (try dsimp only at hSw); go_simp) <;> with_reducible rfl)
                        (try simp only [Act.put, List.setIfInBounds_toArray, List.set_cons_zero, List.set_cons_succ])
                        refine wpAnyH_ready (rs := [11]) (by kernel_rfl) (by simp) ?_
                        refine AllReadyH.cons (o := { dst := none, op := Op.store 3 (Operand.tmp 70) (Operand.tmp 68), type := 0, pos := "tx.go:164", after := #[{ on := 10, ground := Ground.data }, { on := 7, ground := Ground.data }, { on := 9, ground := Ground.chain }, { on := 0, ground := Ground.phase }, { on := 1, ground := Ground.phase }, { on := 2, ground := Ground.phase }, { on := 3, ground := Ground.phase }, { on := 4, ground := Ground.phase }, { on := 5, ground := Ground.phase }, { on := 6, ground := Ground.phase }, { on := 7, ground := Ground.phase }, { on := 8, ground := Ground.phase }, { on := 9, ground := Ground.phase }], guard := none }) rfl (fun K hK => ?_) ?_
                        · go_simp
                          refine hK.out _ _ ?_ (fun hNew => ?_)
                          · ((try dsimp only); done)
                          clear hK K hHeld
                          have hHeld := hNew
                          clear hNew
                          (try simp only [Act.put, List.setIfInBounds_toArray, List.set_cons_zero, List.set_cons_succ])
                          refine wpAnyH_done (by kernel_rfl) ?_ _
                          refine NoPanic.normal ?_
                          clear hHeld hc hf hc2 hf2
                          generalize (wC.setCell ⟨X, 67, none⟩ (.int .i64 (dn : Int))).setCell ⟨X, 68, none⟩ (.int .i64 (md : Int)) = w14 at *
                          have HBy := Lib.hid (byte_p R 3 136 A L C l p7 E w14 HW14.out.rd)
                          obtain ⟨st, hst⟩ : ∃ st, st = geN l L p7 1 := ⟨_, rfl⟩
                          obtain ⟨p8, hp8⟩ : ∃ p8, p8 = atN l L p7 1 := ⟨_, rfl⟩
                          rw [← hst, ← hp8] at HBy
                          have HSt := Lib.hid hst
                          have HP8 := Lib.hid hp8
                          clear hst hp8
                          go_wp2_with fail
                          refine HBy.out.mono ?_
                          rintro e w15 ⟨rfl, hR, hg⟩
                          have HW15 := Lib.hid (HW14.out.call hR hg)
                          have HO15 := Lib.hid (HW14.out.own_call HO14.out (Nat.lt_succ_self X) hg)
                          clear hR hg HW14 HO14 HBy
                          by_cases h1 : 1 < st
                          · have hd1 : (1 : Int) < (st : Int) := by omega
                            have HFm := Lib.hid (fail_p R 3 136 A L C l p8 16 E w15 HW15.out.rd)
                            obtain ⟨p9, hp9⟩ : ∃ p9 : Pl, p9 = (fl p8.1 16, p8.2) := ⟨_, rfl⟩
                            rw [← hp9] at HFm
                            have HP9 : Hid (p9 = if 1 < st then (fl p8.1 16, p8.2) else p8) := Lib.hid (by rw [if_pos h1]; exact hp9)
                            clear h1 hp9
                            go_wp2_with fail
                            refine HFm.out.mono ?_
                            rintro e w16 ⟨rfl, hR, hg⟩
                            have HW16 := Lib.hid (HW15.out.call hR hg)
                            have HO16 := Lib.hid (HW15.out.own_call HO15.out (Nat.lt_succ_self X) hg)
                            clear hR hg HW15 HO15 HFm
                            have hcs : w16.cell? ⟨X, 69, none⟩ = some _ := HW16.out.cell 69 (by decide)
                            have hfs : w16.frozen? ⟨X, 69, none⟩ = false := HW16.out.rx.frozen _
                            have hW17 := HW16.out.set 69 (.bool ((st : Int) == 1))
                            rw [(sqV_set hol hcl).2.2.2.2] at hW17
                            have HW17 := Lib.hid hW17
                            have HO17 := Lib.hid (Ws.own_set HO16.out (Nat.lt_succ_self X) 69 (.bool ((st : Int) == 1)))
                            clear hW17 HW16 HO16
                            go_upto_region 17 with (fail)
                            clear hcs hfs
                            generalize w16.setCell ⟨X, 69, none⟩ (.bool ((st : Int) == 1)) = w17 at *
                            have hl := HW17.out.dl
                            obtain ⟨f1, f2, f3, f4, f5⟩ := HW17.out.fin (B := X + 1) (e := 84) (sz := 33) (n := ts.length) (v := .slice Ai ts.length Ci) (xs := tdsV ts)
                            have HRg := Lib.hid HW17.out.range
                            have HLs : Hid ((Try.prog.info? 65).map (·.size) = some (sqV k br og cu (.slice Ai ts.length Ci) dn md ((st : Int) == 1)).length) := Lib.hid (by rw [hl]; exact infoSq)
                            have HLs2 : Hid ((Try.prog.info? 65).map (·.size) = some (sqV k br og cu (.slice Ai ts.length Ci) dn md ((st : Int) == 1)).toArray.size) := Lib.hid (by rw [List.size_toArray]; exact HLs.out)
                            have HOn := Lib.hid (all_oneCell_toArray (cs := sqV k br og cu (.slice Ai ts.length Ci) dn md ((st : Int) == 1)) (sqV_one rfl))
                            have HF1 := Lib.hid f1
                            have HF2 := Lib.hid f2
                            have HF3 := Lib.hid f3
                            have HF4 := Lib.hid f4
                            have HF5 := Lib.hid (own_base (f5 HO17.out (Nat.lt_succ_self X)) (by have h1 := HW17.out.hO; have h2 := HW17.out.hX; omega : w.heap.size ≤ X + 1))
                            clear hl f1 f2 f3 f4 f5 HW17 HO17
                            generalize hDF : sqV k br og cu (.slice Ai ts.length Ci) dn md ((st : Int) == 1) = DF at *
                            have HDF := Lib.hid hDF
                            clear hDF
                            go_wp2_with (first
                              | (refine wpList_load_mid rfl _ _ rfl X 0 rfl DF _ HRg.out Try.underlying65 rfl HLs.out ?_)
                              | (refine wpList_store_mid rfl _ _ _ rfl w.heap.size 0 DF.toArray rfl rfl HF4.out HLs2.out HOn.out ?_))
                            refine bodyPost_ret (results_cell_row rfl _ _ w.heap.size _ _ _ _ rfl HF3.out Try.underlying65 rfl HLs2.out) rfl ?_
                            have eK : sK l L p = k := HK.out.symm
                            have e1 : sP1 l L p = p1 := HP1.out.symm
                            have eB : sBr l L p = br := by unfold sBr; rw [e1]; exact HBr.out.symm
                            have e2 : sP2 l L p = p2 := by unfold sP2; rw [e1]; exact HP2.out.symm
                            have eO : sOg l L p = og := by unfold sOg; rw [e2]; exact HOg.out.symm
                            have e3 : sP3 l L p = p3 := by unfold sP3; rw [e2]; exact HP3.out.symm
                            have eC : sCu l L p = cu := by unfold sCu; rw [e3]; exact HCu.out.symm
                            have e4 : sP4 l L p = p4 := by unfold sP4; rw [e3]; exact HP4.out.symm
                            have eM : sM l L p = m := by unfold sM; rw [e4]; exact HM.out.symm
                            have e5 : sP5 l L p = p5 := by unfold sP5; rw [e4]; exact HP5.out.symm
                            have eQ : sQ l L p = (q, ts) := by unfold sQ; rw [eM, e5]; exact HQ.out.symm.trans HQe.out
                            have eD : sDn l L p = dn := by unfold sDn; rw [eQ]; exact HDn.out.symm
                            have e6 : sP6 l L p = p6 := by unfold sP6; rw [eQ]; exact HP6.out.symm
                            have eMd : sMd l L p = md := by unfold sMd; rw [e6]; exact HMd.out.symm
                            have e7 : sP7 l L p = p7 := by unfold sP7; rw [e6]; exact HP7.out.symm
                            have eS : sSt l L p = st := by unfold sSt; rw [e7]; exact HSt.out.symm
                            have e8 : sP8 l L p = p8 := by unfold sP8; rw [e7]; exact HP8.out.symm
                            have e9 : sP9 l L p = p9 := by unfold sP9; rw [eS, e8]; exact HP9.out.symm
                            have eE : sqE l L p = p9 := by unfold sqE; rw [if_neg (by rw [eK]; exact HKn.out)]; exact e9
                            have eqP : sqP l L p = ⟨(k : Nat), br, og, cu, ts, (dn : Nat), (md : Nat), st == 1⟩ := by unfold sqP; rw [if_neg (by rw [eK]; exact HKn.out), eK, eB, eO, eC, eQ, eD, eMd, eS]
                            have eb : ((st : Int) == 1) = (st == 1) := by rw [Bool.eq_iff_iff]; simp; omega
                            unfold SqRet
                            rw [eE, eqP]
                            exact ⟨HF1.out, HF2.out, Ai, Ci, by rw [← HDF.out, eb]; rfl, HF5.out⟩
                          · have hd1 : ¬ (1 : Int) < (st : Int) := by omega
                            obtain ⟨p9, hp9⟩ : ∃ p9 : Pl, p9 = p8 := ⟨_, rfl⟩
                            have HP9 : Hid (p9 = if 1 < st then (fl p8.1 16, p8.2) else p8) := Lib.hid (by rw [if_neg h1]; exact hp9)
                            rw [← hp9] at HW15
                            have HW16 := HW15
                            have HO16 := HO15
                            obtain ⟨w16, hw16⟩ : ∃ w16, w16 = w15 := ⟨_, rfl⟩
                            subst hw16
                            clear h1 hp9 HW15 HO15
                            have hcs : w16.cell? ⟨X, 69, none⟩ = some _ := HW16.out.cell 69 (by decide)
                            have hfs : w16.frozen? ⟨X, 69, none⟩ = false := HW16.out.rx.frozen _
                            have hW17 := HW16.out.set 69 (.bool ((st : Int) == 1))
                            rw [(sqV_set hol hcl).2.2.2.2] at hW17
                            have HW17 := Lib.hid hW17
                            have HO17 := Lib.hid (Ws.own_set HO16.out (Nat.lt_succ_self X) 69 (.bool ((st : Int) == 1)))
                            clear hW17 HW16 HO16
                            go_upto_region 17 with (fail)
                            clear hcs hfs
                            generalize w16.setCell ⟨X, 69, none⟩ (.bool ((st : Int) == 1)) = w17 at *
                            have hl := HW17.out.dl
                            obtain ⟨f1, f2, f3, f4, f5⟩ := HW17.out.fin (B := X + 1) (e := 84) (sz := 33) (n := ts.length) (v := .slice Ai ts.length Ci) (xs := tdsV ts)
                            have HRg := Lib.hid HW17.out.range
                            have HLs : Hid ((Try.prog.info? 65).map (·.size) = some (sqV k br og cu (.slice Ai ts.length Ci) dn md ((st : Int) == 1)).length) := Lib.hid (by rw [hl]; exact infoSq)
                            have HLs2 : Hid ((Try.prog.info? 65).map (·.size) = some (sqV k br og cu (.slice Ai ts.length Ci) dn md ((st : Int) == 1)).toArray.size) := Lib.hid (by rw [List.size_toArray]; exact HLs.out)
                            have HOn := Lib.hid (all_oneCell_toArray (cs := sqV k br og cu (.slice Ai ts.length Ci) dn md ((st : Int) == 1)) (sqV_one rfl))
                            have HF1 := Lib.hid f1
                            have HF2 := Lib.hid f2
                            have HF3 := Lib.hid f3
                            have HF4 := Lib.hid f4
                            have HF5 := Lib.hid (own_base (f5 HO17.out (Nat.lt_succ_self X)) (by have h1 := HW17.out.hO; have h2 := HW17.out.hX; omega : w.heap.size ≤ X + 1))
                            clear hl f1 f2 f3 f4 f5 HW17 HO17
                            generalize hDF : sqV k br og cu (.slice Ai ts.length Ci) dn md ((st : Int) == 1) = DF at *
                            have HDF := Lib.hid hDF
                            clear hDF
                            go_wp2_with (first
                              | (refine wpList_load_mid rfl _ _ rfl X 0 rfl DF _ HRg.out Try.underlying65 rfl HLs.out ?_)
                              | (refine wpList_store_mid rfl _ _ _ rfl w.heap.size 0 DF.toArray rfl rfl HF4.out HLs2.out HOn.out ?_))
                            refine bodyPost_ret (results_cell_row rfl _ _ w.heap.size _ _ _ _ rfl HF3.out Try.underlying65 rfl HLs2.out) rfl ?_
                            have eK : sK l L p = k := HK.out.symm
                            have e1 : sP1 l L p = p1 := HP1.out.symm
                            have eB : sBr l L p = br := by unfold sBr; rw [e1]; exact HBr.out.symm
                            have e2 : sP2 l L p = p2 := by unfold sP2; rw [e1]; exact HP2.out.symm
                            have eO : sOg l L p = og := by unfold sOg; rw [e2]; exact HOg.out.symm
                            have e3 : sP3 l L p = p3 := by unfold sP3; rw [e2]; exact HP3.out.symm
                            have eC : sCu l L p = cu := by unfold sCu; rw [e3]; exact HCu.out.symm
                            have e4 : sP4 l L p = p4 := by unfold sP4; rw [e3]; exact HP4.out.symm
                            have eM : sM l L p = m := by unfold sM; rw [e4]; exact HM.out.symm
                            have e5 : sP5 l L p = p5 := by unfold sP5; rw [e4]; exact HP5.out.symm
                            have eQ : sQ l L p = (q, ts) := by unfold sQ; rw [eM, e5]; exact HQ.out.symm.trans HQe.out
                            have eD : sDn l L p = dn := by unfold sDn; rw [eQ]; exact HDn.out.symm
                            have e6 : sP6 l L p = p6 := by unfold sP6; rw [eQ]; exact HP6.out.symm
                            have eMd : sMd l L p = md := by unfold sMd; rw [e6]; exact HMd.out.symm
                            have e7 : sP7 l L p = p7 := by unfold sP7; rw [e6]; exact HP7.out.symm
                            have eS : sSt l L p = st := by unfold sSt; rw [e7]; exact HSt.out.symm
                            have e8 : sP8 l L p = p8 := by unfold sP8; rw [e7]; exact HP8.out.symm
                            have e9 : sP9 l L p = p9 := by unfold sP9; rw [eS, e8]; exact HP9.out.symm
                            have eE : sqE l L p = p9 := by unfold sqE; rw [if_neg (by rw [eK]; exact HKn.out)]; exact e9
                            have eqP : sqP l L p = ⟨(k : Nat), br, og, cu, ts, (dn : Nat), (md : Nat), st == 1⟩ := by unfold sqP; rw [if_neg (by rw [eK]; exact HKn.out), eK, eB, eO, eC, eQ, eD, eMd, eS]
                            have eb : ((st : Int) == 1) = (st == 1) := by rw [Bool.eq_iff_iff]; simp; omega
                            unfold SqRet
                            rw [eE, eqP]
                            exact ⟨HF1.out, HF2.out, Ai, Ci, by rw [← HDF.out, eb]; rfl, HF5.out⟩
                        exact AllReadyH.nil
                      exact AllReadyH.nil
                    exact AllReadyH.nil
                  exact AllReadyH.nil
          exact AllReadyH.nil
        exact AllReadyH.nil
      exact AllReadyH.nil
    exact AllReadyH.nil
end Go.Proofs.Ytmcmapgllaopmaa.Cd
end

section
namespace Go.Proofs.Ytmcmapgllaopmaa.Cd
open Go.RowKit
set_option linter.unusedVariables false
/-- a row of entries that is read -/
structure RdE (w : World) (A : Option Addr) (n C : Nat) (es : List Fr.Ent) : Prop where
  len : es.length = n
  cap : n ≤ C
  max : C ≤ 9223372036854775807
  big : n ≤ 1000000
  ok : ∀ x ∈ es, x.id.length = 32 ∧ x.name.size ≤ 140737488351232
  cell : 0 < n → ∃ g o, A = some ⟨g, o, Option.none⟩ ∧ g < w.heap.size ∧ ∀ i, i < n → w.rangeAt g (o + i * 34) (es.getD i default).cells
theorem RdE.below {w w' : World} {A : Option Addr} {n C : Nat} {es : List Fr.Ent} (h : RdE w A n C es) (hb : Below w.heap.size w w') : RdE w' A n C es :=
  ⟨h.len, h.cap, h.max, h.big, h.ok, fun h0 => by
    obtain ⟨g, o, h1, h2, h3⟩ := h.cell h0
    exact ⟨g, o, h1, Nat.lt_of_lt_of_le h2 hb.size, fun i hi => range_below hb (h3 i hi) h2⟩⟩
theorem RdE.belowB {w w' : World} {A : Option Addr} {n C B : Nat} {es : List Fr.Ent} (h : RdE w A n C es) (hb : Below B w w') (hA : ∀ x, A = some x → 0 < n → x.block < B) : RdE w' A n C es :=
  ⟨h.len, h.cap, h.max, h.big, h.ok, fun h0 => by
    obtain ⟨g, o, h1, h2, h3⟩ := h.cell h0
    have hg := hA _ h1 h0
    exact ⟨g, o, h1, Nat.lt_of_lt_of_le h2 hb.size, fun i hi => range_below hb (h3 i hi) hg⟩⟩
theorem getDE_mem {es : List Fr.Ent} {k : Nat} (h : k < es.length) : es.getD k default ∈ es := by
  rw [List.getD_eq_getElem?_getD, List.getElem?_eq_getElem h]; exact List.getElem_mem h
theorem take_snoc (es : List Fr.Ent) (k : Nat) (hk : k < es.length) : es.take (k + 1) = es.take k ++ [es.getD k default] := by
  rw [List.take_succ_eq_append_getElem hk]
  congr 2
  simp [List.getD, hk]
theorem lastN_take (es : List Fr.Ent) (k : Nat) (hk : k < es.length) : lastN (es.take (k + 1)) = some (es.getD k default).name := by
  rw [take_snoc es k hk, lastN, List.getLast?_concat]
  rfl
/-- what lies ahead of the k-th -/
theorem RdE.ahd {w : World} {A : Option Addr} {n C : Nat} {es : List Fr.Ent} (h : RdE w A n C es) (k : Nat) (hk : k < n) : Ahd w A k C (lastN (es.take k)) := by
  have hc := h.cap
  have hbg := h.big
  have hl := h.len
  refine ⟨by omega, h.max, by omega, fun h0 => by subst h0; rfl, fun h0 => ?_⟩
  obtain ⟨g, o, h1, h2, h3⟩ := h.cell (by omega)
  obtain ⟨j, rfl⟩ : ∃ j, k = j + 1 := ⟨k - 1, by omega⟩
  refine ⟨g, o, (es.getD j default).name, h1, ?_, ?_, h2⟩
  · exact lastN_take es j (by omega)
  · have := h3 j (by omega) 0 _ rfl
    rw [Nat.add_zero] at this
    exact this
theorem own_drew {w : World} {B e sz n : Nat} {v : Value} {xs : List Value} (h : w.ownsRow B e sz v n xs) : w.drew.ownsRow B e sz v n xs := h
/-- why some entries may not stand behind one -/
def eF : List Fr.Ent → Option ByteArray → Int
  | [], _ => 0
  | x :: r, prev => if ce x.kind x.name x.id prev = 0 then eF r (some x.name) else ce x.kind x.name x.id prev
/-- a text's bytes -/
def sv (s : ByteArray) : List Int := s.data.toList.map (fun b => (b.toNat : Int))
theorem sv_len (s : ByteArray) : (sv s).length = s.size := by simp [sv]
theorem sv_cells (s : ByteArray) : bv (sv s) = Lib.strCells s := by simp [bv, sv, Lib.strCells]
/-- an entry's bytes -/
def eB1 (x : Fr.Ent) : List Int := x.kind :: (x.name.size : Int) :: (sv x.name ++ x.id)
def eB (es : List Fr.Ent) : List Int := es.flatMap eB1
def eE (es : List Fr.Ent) : Int := if 512 < es.length then 4 else eF es none
/-- what EncodeTree hands back -/
def EtRet (es : List Fr.Ent) (w : World) (e : Ending) (w' : World) : Prop :=
  Below w.heap.size w w' ∧
  ((eE es ≠ 0 ∧ e = .returned (.tuple #[.slice none 0 0, .int .i64 (eE es)])) ∨
   (eE es = 0 ∧ ∃ v, e = .returned (.tuple #[v, .int .i64 0]) ∧ w'.ownsRow w.heap.size 5 1 v (eB es).length (bv (eB es))))
theorem eF_step (es : List Fr.Ent) (k : Nat) (hk : k < es.length) : eF (es.drop k) (lastN (es.take k)) = if ce (es.getD k default).kind (es.getD k default).name (es.getD k default).id (lastN (es.take k)) = 0 then eF (es.drop (k + 1)) (lastN (es.take (k + 1))) else ce (es.getD k default).kind (es.getD k default).name (es.getD k default).id (lastN (es.take k)) := by
  have hx : es.getD k default = es[k] := by simp [List.getD, hk]
  rw [List.drop_eq_getElem_cons hk, eF, ← hx, lastN_take es k hk]
theorem eB_step (es : List Fr.Ent) (k : Nat) (hk : k < es.length) : eB (es.take (k + 1)) = eB (es.take k) ++ eB1 (es.getD k default) := by
  unfold eB
  rw [take_snoc es k hk, List.flatMap_append]
  simp only [List.flatMap_cons, List.flatMap_nil, List.append_nil]
theorem ce_zero {k : Int} {nm : ByteArray} {ids : List Int} {prev : Option ByteArray} (h : ce k nm ids prev = 0) : 1 ≤ k ∧ k ≤ 4 ∧ NmOk nm := by
  unfold ce at h
  by_cases h1 : k < 1 ∨ 4 < k
  · rw [if_pos h1] at h; exact absurd h (by decide)
  · rw [if_neg h1] at h
    by_cases h2 : ¬ NmOk nm
    · rw [if_pos h2] at h; exact absurd h (by decide)
    · exact ⟨by omega, by omega, Classical.not_not.1 h2⟩
set_option maxRecDepth 100000 in
set_option maxHeartbeats 1000000 in
theorem encodeTree_any (A : Option Addr) (n C : Nat) (es : List Fr.Ent) (w : World) (h : RdE w A n C es) :
    Calls Try.prog 12 #[.slice A n C] w (EtRet es w) := by
  obtain ⟨i0, hi, hz0, hz1, hz2⟩ := info_parts info5
  have hzE := zeroE
  have hl := h.len
  have hcap := h.cap
  have hmax := h.max
  have hbig := h.big
  have HRd := Lib.hid h
  have HLt : Hid (∀ x, A = some x → 0 < n → x.block < w.heap.size) := Lib.hid (fun x hx h0 => by
    obtain ⟨g, o, h1, h2, -⟩ := h.cell h0
    rw [h1] at hx
    obtain rfl := Option.some.inj hx
    exact h2)
  have HB0 := Lib.hid (Below.refl w.heap.size w)
  clear h
  by_cases hgt : 512 < n
  · have HE : Hid (eE es = 4) := Lib.hid (by unfold eE; rw [if_pos (by omega)])
    have hd : decide ((512 : Int) < (n : Int)) = true := by simp; omega
    go_enter Try.func12, Try.ntmps12
    go_wp2_with fail
    go_ret2
    exact ⟨HB0.out, .inl ⟨by rw [HE.out]; decide, by rw [HE.out]; rfl⟩⟩
  · have HE : Hid (eE es = eF es none) := Lib.hid (by unfold eE; rw [if_neg (by omega)])
    have hd : decide ((512 : Int) < (n : Int)) = false := by simp; omega
    generalize hZE : (ent ByteArray.empty 0 (List.replicate 32 0)).toArray = ZE at *
    have hZs : ZE.size = 34 := by rw [← hZE, List.size_toArray, ent_length _ _ _ (by simp)]
    have HZs := Lib.hid hZs
    clear hZE hZs
    go_enter Try.func12, Try.ntmps12
    go_wp2_with fail
    go_loopw [4, 13] (fun b i wr => ∃ (k : Nat), i = .int .i64 k ∧ k ≤ n ∧ Hid (eF (es.drop k) (lastN (es.take k)) = eF es none) ∧ Hid (wr.ownsRow w.heap.size 5 1 b (eB (es.take k)).length (bv (eB (es.take k)))) ∧ (eB (es.take k)).length ≤ k * 100 ∧ Hid (RdE wr A n C es) ∧ Hid (Below w.heap.size w wr)) (fun _ i _ => n - (intOf i).toNat)
    case atStart => exact ⟨0, rfl, Nat.zero_le _, Lib.hid rfl, Lib.hid ⟨rfl, .inl ⟨rfl, rfl⟩⟩, Nat.zero_le _, HRd, HB0⟩
    case round =>
      clear HRd HB0
      obtain ⟨k, rfl, hk, HF, HO, hlen, HRd, HB⟩ := hrel
      by_cases hlt : k < n
      · obtain ⟨g, o, rfl, hgl, hcc⟩ := HRd.out.cell (by omega)
        have HAh := Lib.hid (HRd.out.ahd k hlt)
        have hst := eF_step es k (by omega)
        rw [HF.out] at hst
        have hbs := eB_step es k (by omega)
        have hok := HRd.out.ok _ (getDE_mem (k := k) (by omega))
        obtain ⟨nm, hnm⟩ : ∃ nm, nm = (es.getD k default).name := ⟨_, rfl⟩
        obtain ⟨kd, hK⟩ : ∃ kd, kd = (es.getD k default).kind := ⟨_, rfl⟩
        obtain ⟨ids, hids⟩ : ∃ ids, ids = (es.getD k default).id := ⟨_, rfl⟩
        obtain ⟨prev, hprev⟩ : ∃ prev, prev = lastN (es.take k) := ⟨_, rfl⟩
        have HXc : Hid (wr.rangeAt g (o + k * 34) (ent nm kd ids)) := Lib.hid (by rw [hnm, hK, hids]; exact hcc k hlt)
        have he1 : eB1 (es.getD k default) = kd :: (nm.size : Int) :: (sv nm ++ ids) := by rw [hnm, hK, hids]; rfl
        rw [he1] at hbs
        rw [← hnm, ← hids] at hok
        rw [← hnm, ← hK, ← hids, ← hprev] at hst
        rw [← hprev] at HAh
        have HIl := Lib.hid hok.1
        have Hsz : Hid (nm.size ≤ 140737488355327) := Lib.hid (Nat.le_trans hok.2 (by decide))
        have HES : Hid ((Try.prog.info? 87).map (·.size) = some (ent nm kd ids).length) := Lib.hid (by rw [ent_length nm kd ids HIl.out]; kernel_rfl)
        have HBs := Lib.hid hbs
        have HSt := Lib.hid hst
        have hxr := row_new wr ZE 87
        rw [HZs.out] at hxr
        have HTh := Lib.hid (en_there hxr 0 (ent nm kd ids).toArray.size (by rw [List.size_toArray, ent_length nm kd ids HIl.out]; decide))
        have HSz : Hid ((Try.prog.info? 87).map (·.size) = some (ent nm kd ids).toArray.size) := Lib.hid (by rw [List.size_toArray]; exact HES.out)
        have HOne := Lib.hid (all_oneCell_toArray (ent_one' nm kd ids))
        have HX4 := Lib.hid (en_start hxr nm kd ids HIl.out)
        have hb4 := below_cells (Nat.le_refl wr.heap.size) (ent nm kd ids) 0 _ ((Below.refl wr.heap.size wr).alloc (Nat.le_refl _) (.cells ZE 87))
        have hwr : w.heap.size ≤ wr.heap.size := HB.out.size
        have HRd4 := Lib.hid (HRd.out.below hb4)
        have HO4 := Lib.hid (own_keep HO.out hb4)
        have HB4 := Lib.hid (HB.out.trans (hb4.mono hwr))
        have HAh4 : Hid (Ahd ((wr.alloc (.cells ZE 87)).setCells wr.heap.size 0 (ent nm kd ids)) (some ⟨g, o, none⟩) k C prev) := Lib.hid (by
          have := HRd4.out.ahd k hlt
          rw [← hprev] at this
          exact this)
        have hk0 : (0 : Int) ≤ (k : Int) := by omega
        have hk1 : (k : Int) < (n : Int) := by omega
        clear hxr hb4 HRd HO HB HAh hst hbs he1 hok hcc hnm hK hids hprev
        go_upto_region 7 with (first
          | (refine wpList_load_mid rfl _ _ rfl g (o + k * 34) rfl (ent nm kd ids) _ HXc.out Try.underlying87 rfl HES.out ?_)
          | (refine wpList_store_mid rfl _ _ _ rfl wr.heap.size 0 (ent nm kd ids).toArray rfl rfl HTh.out HSz.out HOne.out ?_))
        change Code.wp _ _ _ _ ((wr.alloc (.cells ZE 87)).setCells wr.heap.size 0 (ent nm kd ids))
        have hXs4 : wr.heap.size < ((wr.alloc (.cells ZE 87)).setCells wr.heap.size 0 (ent nm kd ids)).heap.size := HX4.out.lt
        clear HTh HSz HOne HXc hgl
        generalize (wr.alloc (.cells ZE 87)).setCells wr.heap.size 0 (ent nm kd ids) = w4 at *
        generalize wr.heap.size = X at *
        have dX := Lib.hid ((World.rangeAt_drew _ _ _ _).2 (en_range HX4.out HIl.out))
        have hXs : X < w4.drew.heap.size := hXs4
        have HAh : Hid (Ahd w4.drew (some ⟨g, o, none⟩) k C prev) := Lib.hid ⟨HAh4.out.cap, HAh4.out.max, HAh4.out.big, HAh4.out.none, HAh4.out.last⟩
        have HRd5 : Hid (RdE w4.drew (some ⟨g, o, none⟩) n C es) := Lib.hid ⟨HRd4.out.len, HRd4.out.cap, HRd4.out.max, HRd4.out.big, HRd4.out.ok, HRd4.out.cell⟩
        have HO5 := Lib.hid (own_drew HO4.out)
        have HB5 := Lib.hid HB4.out.drew
        have dXr := Lib.hid (World.rowIs.drew HX4.out)
        have dE := HES.out
        have hkC : k ≤ C := by omega
        have hkC2 : (k : Int) ≤ (C : Int) := by omega
        clear HAh4 HRd4 HO4 HB4 HX4 hXs4
        refine wp_region_noPanic ?_
        refine wp_region_held_drew (S := (fun wS => wS.rangeAt X 0 (ent nm kd ids))) (by kernel_rfl) ?_ (fun hHeld => ?_)
        · ((try dsimp only); exact dX.out)
        refine' wpAnyH_take (i := 0) (oi := { dst := some 18, op := Op.load 87 (Operand.tmp 6), type := 87, pos := "tree.go:12", after := #[], guard := none }) (v := _) rfl (by kernel_rfl) (by kernel_rfl) (by kernel_rfl) (fun _ _ _ h => h) (yieldsIf_load_mid (by rfl) _ _ rfl _ _ rfl (ent nm kd ids) _ (fun w hSw => hSw) Try.underlying87 rfl HES.out) (by assumption) ?_
        (try simp only [Act.put, List.setIfInBounds_toArray, List.set_cons_zero, List.set_cons_succ])
        refine wpAnyH_take (i := 1) (oi := { dst := some 19, op := Op.move (Operand.tmp 0), type := 22, pos := "tree.go:12", after := #[], guard := none }) (v := ?_) rfl (by kernel_rfl) (by kernel_rfl) (by kernel_rfl) (fun _ _ _ h => h) (Or.inl ⟨by rfl, ?_⟩) (by assumption) ?_
        rotate_left 1
        · ((intro w hSw; (try dsimp only at hSw); go_simp) <;> with_reducible rfl)
        (try simp only [Act.put, List.setIfInBounds_toArray, List.set_cons_zero, List.set_cons_succ])
        refine wpAnyH_take (i := 2) (oi := { dst := some 20, op := Op.move (Operand.tmp 5), type := 3, pos := "tree.go:12", after := #[], guard := none }) (v := ?_) rfl (by kernel_rfl) (by kernel_rfl) (by kernel_rfl) (fun _ _ _ h => h) (Or.inl ⟨by rfl, ?_⟩) (by assumption) ?_
        rotate_left 1
        · ((intro w hSw; (try dsimp only at hSw); go_simp) <;> with_reducible rfl)
        (try simp only [Act.put, List.setIfInBounds_toArray, List.set_cons_zero, List.set_cons_succ])
        refine wpAnyH_take (i := 3) (oi := { dst := some 21, op := Op.slice 22 (Operand.tmp 19) none (some (Operand.tmp 20)) none, type := 22, pos := "tree.go:12", after := #[{ on := 1, ground := Ground.data }, { on := 2, ground := Ground.data }], guard := none }) (v := ?_) rfl (by kernel_rfl) (by kernel_rfl) (by kernel_rfl) (fun _ _ _ h => h) (Or.inl ⟨by rfl, ?_⟩) (by assumption) ?_
        rotate_left 1
        · ((intro w hSw; (try dsimp only at hSw); go_simp) <;> with_reducible rfl)
        (try simp only [Act.put, List.setIfInBounds_toArray, List.set_cons_zero, List.set_cons_succ])
        refine wpAnyH_ready (rs := [4]) (by kernel_rfl) (by simp) ?_
        refine AllReadyH.cons (o := { dst := some 22, op := Op.call { callee := Callee.value (Operand.func 40), args := #[Operand.tmp 18, Operand.tmp 21], argTypes := #[87, 22] }, type := 25, pos := "tree.go:12", after := #[{ on := 0, ground := Ground.data }, { on := 3, ground := Ground.data }], guard := none }) rfl (fun K hK => ?_) ?_
        · go_simp
          refine (check_any nm kd ids HIl.out Hsz.out (some ⟨g, o, none⟩) k C prev _ HAh.out).mono ?_
          rintro e w7 ⟨rfl, hb7⟩
          have eX := Lib.hid (range_below hb7 dX.out hXs)
          have eXr := Lib.hid (World.rowIs.of_block dXr.out (hb7.block X hXs))
          have dR := Lib.hid (HRd5.out.below hb7)
          have dO := Lib.hid (own_keep HO5.out hb7)
          have dB := Lib.hid (HB5.out.trans (hb7.mono (by omega)))
          have hXs7 : X < w7.heap.size := Nat.lt_of_lt_of_le hXs hb7.size
          clear dX dXr hb7
          have dX := eX
          have dXr := eXr
          clear eX eXr
          (try go_wp2_with fail)
          refine hK.out _ _ ?_ (fun hNew => ?_)
          · ((try dsimp only); exact dX.out)
          clear hK K hHeld
          have hHeld := hNew
          clear hNew
          (try simp only [Act.put, List.setIfInBounds_toArray, List.set_cons_zero, List.set_cons_succ])
          refine wpAnyH_take (i := 5) (oi := { dst := some 7, op := Op.assign (Operand.tmp 22), type := 25, pos := "tree.go:12", after := #[{ on := 4, ground := Ground.data }, { on := 4, ground := Ground.chain }, { on := 0, ground := Ground.phase }, { on := 1, ground := Ground.phase }, { on := 2, ground := Ground.phase }, { on := 3, ground := Ground.phase }, { on := 4, ground := Ground.phase }], guard := none }) (v := ?_) rfl (by kernel_rfl) (by kernel_rfl) (by kernel_rfl) (fun _ _ _ h => h) (Or.inl ⟨by rfl, ?_⟩) (by assumption) ?_
          rotate_left 1
          · ((intro w hSw; (try dsimp only at hSw); go_simp) <;> with_reducible rfl)
          (try simp only [Act.put, List.setIfInBounds_toArray, List.set_cons_zero, List.set_cons_succ])
          refine wpAnyH_done (by kernel_rfl) ?_ _
          refine NoPanic.normal ?_
          clear hHeld
          obtain ⟨E, hE⟩ : ∃ E, E = ce kd nm ids prev := ⟨_, rfl⟩
          have hst := HSt.out
          rw [← hE] at hst ⊢
          by_cases h0 : E = 0
          · have hE0 : (E != 0) = false := by simp [h0]
            have hcz := ce_zero (hE.symm.trans h0)
            rw [if_pos h0] at hst
            have HF2 := Lib.hid hst.symm
            have hk1' := hcz.1
            have hk4' := hcz.2.1
            have hn40 : nm.size ≤ 40 := by have := hcz.2.2.2.1; omega
            have hwK : IntKind.u8.wrap kd = kd := IntWalk.u8_in _ (by omega)
            obtain ⟨hc0, hc1, hr2⟩ := range_ent dX.out
            have HR2 := Lib.hid hr2
            have HC0 := Lib.hid hc0
            have hszw := dB.out.size
            have hE00 : E = 0 := h0
            clear hE hst hcz hc0 hr2 dX h0 HSt hE00
            go_wp2_with (at_builtin; refine wpList_append_own _ rfl _ _ 23 rfl w.heap.size 5 i0 (.int .u8 0) 1 1 Try.underlying23 hi hz0 hz1 hz2 rfl (by decide) _ _ _ rfl (own_keep dO.out ((Below.refl w7.heap.size w7).alloc (Nat.le_refl _) (.cells (bv [kd]).toArray 5))) ⟨w7.heap.size, 0, none⟩ 1 1 (bv [kd]) rfl rfl ?c1 (bv_one _) ?c3 ?c4 ?c5 ?_)
            case c1 => exact new_cells [kd] w7 _
            case c3 => unfold maxLen; omega
            case c4 => omega
            case c5 => exact Nat.le_trans hszw (al_le w7 _)
            intro v8 w8 ho8 hg8 hnil8
            have hb78 : Below w.heap.size w7 w8 := ((Below.refl w.heap.size w7).alloc hszw (.cells (bv [kd]).toArray 5)).trans (below_grown (Nat.le_trans hszw (al_le w7 _)) (own_keep dO.out ((Below.refl w7.heap.size w7).alloc (Nat.le_refl _) (.cells (bv [kd]).toArray 5))) hg8)
            have hk78 : KeptT w7 w8 := KeptT.trans (al_le w7 _) (KeptT.alloc w7 _) (KeptT.own (own_keep dO.out ((Below.refl w7.heap.size w7).alloc (Nat.le_refl _) (.cells (bv [kd]).toArray 5))) hg8)
            have HB8 := Lib.hid (dB.out.trans hb78)
            have HX8 := Lib.hid (hk78.row dXr.out (by decide))
            have HRd8 := Lib.hid (dR.out.belowB hb78 HLt.out)
            have HO8 := Lib.hid ho8
            have hszw8 : w.heap.size ≤ w8.heap.size := HB8.out.size
            have hc8 : w8.cell? ⟨X, 0, none⟩ = some (.string nm) := HX8.out.cell (i := 0) (by omega)
            clear ho8 hg8 hnil8 hb78 hk78 hc1 dO dB dR dXr HC0 HR2 hszw
            have HTk := Lib.hid (text_k w.heap.size v8 _ _ nm 1 w8 hszw8 HO8.out (by omega) (by omega) (by omega))
            rw [show ((1 : Nat) : Int) = 1 from rfl] at HTk
            go_wp2_with fail
            refine HTk.out.mono ?_
            rintro e w9 ⟨v9, rfl, ho9, hb9, hk9⟩
            have HB9 := Lib.hid (HB8.out.trans hb9)
            have HX9 := Lib.hid (hk9.row HX8.out (by decide))
            have HRd9 := Lib.hid (HRd8.out.belowB hb9 HLt.out)
            have HO9 := Lib.hid ho9
            have hszw9 : w.heap.size ≤ w9.heap.size := HB9.out.size
            have HI9 : Hid (∀ j u, (bv ids)[j]? = some u → w9.cell? (Addr.add ⟨X, 2, none⟩ j) = some u) := Lib.hid (fun j u hj => by
              have hl := (List.getElem?_eq_some_iff.1 hj).1
              rw [bv_len, HIl.out] at hl
              rw [Addr.add_mid, HX9.out.cell (show 2 + j < 34 by omega), ← hj, Nat.add_comm]
              show some (Value.int .u8 (ids.getD j 0)) = _
              simp [bv, List.getD, show j < ids.length by have := HIl.out; omega])
            clear ho9 hb9 hk9 HTk HB8 HX8 HRd8 HO8 hc8 hszw8
            go_wp2_with (at_builtin; refine wpList_append_own _ rfl _ _ 23 rfl w.heap.size 5 i0 (.int .u8 0) 1 1 Try.underlying23 hi hz0 hz1 hz2 rfl (by decide) _ _ _ rfl HO9.out ⟨X, 2, none⟩ 32 32 (bv ids) rfl (by rw [bv_len, HIl.out]) HI9.out (bv_one _) ?d3 ?d4 ?d5 ?_)
            case d3 => unfold maxLen; omega
            case d4 => omega
            case d5 => exact hszw9
            intro v10 w10 ho10 hg10 hnil10
            have hb910 := below_grown hszw9 HO9.out hg10
            have hbe : be 1 (nm.size : Int) = [(nm.size : Int)] := by
              simp only [be]
              congr 1
              omega
            have HLn2 : Hid ((eB (es.take (k + 1))).length = (eB (es.take k)).length + 1 + 1 + nm.size + 32) := Lib.hid (by rw [HBs.out]; simp [sv_len, HIl.out]; omega)
            have HO10 := Lib.hid (own_eq (ys := bv (eB (es.take (k + 1)))) (m := (eB (es.take (k + 1))).length) ho10 (by rw [HBs.out, hbe, ← sv_cells]; simp [bv]) (by rw [HLn2.out]))
            have HB10 := Lib.hid (HB9.out.trans hb910)
            have HRd10 := Lib.hid (HRd9.out.belowB hb910 HLt.out)
            clear ho10 hg10 hnil10 hb910 HO9 HB9 HX9 HRd9 HI9
            go_wp2_with fail
            go_roundw
            case rel => exact ⟨k + 1, by go_num, by omega, HF2, HO10, by have := HLn2.out; omega, HRd10, HB10⟩
            case measure => simp [intOf]; omega
          · have hE0 : (E != 0) = true := by simp [h0]
            rw [if_neg h0] at hst
            have HE2 := Lib.hid (HE.out.trans hst)
            have H0 := Lib.hid h0
            clear hE hst h0
            go_wp2_with fail
            go_ret2
            exact ⟨dB.out, .inl ⟨by rw [HE2.out]; exact H0.out, by rw [HE2.out]; rfl⟩⟩
        exact AllReadyH.nil
      · have ek : k = n := by omega
        have hd2 : decide ((k : Int) < (n : Int)) = false := by simp; omega
        have HF2 : Hid (eF es none = 0) := Lib.hid (by
          have h := HF.out
          rw [ek, List.drop_of_length_le (by omega)] at h
          exact h.symm)
        have HO2 : Hid (wr.ownsRow w.heap.size 5 1 _ (eB es).length (bv (eB es))) := Lib.hid (by
          have h := HO.out
          rw [ek, List.take_of_length_le (by omega)] at h
          exact h)
        clear HF HO HRd hlen
        go_wp2_with fail
        go_ret2
        exact ⟨HB.out, .inr ⟨by rw [HE.out, HF2.out], _, rfl, HO2.out⟩⟩
end Go.Proofs.Ytmcmapgllaopmaa.Cd
end

section
namespace Go.Proofs.Ytmcmapgllaopmaa.Cd
open Go.RowKit
set_option linter.unusedVariables false
theorem tkF_st {f : Int} (h : f ≠ 0) (a L n : Nat) : tkF f a L n = f := (tk_no h [] a L n).1
theorem fl_st {f : Int} (h : f ≠ 0) (e : Int) : fl f e = f := by unfold fl; rw [if_neg h]
theorem tx2_st {f : Int} (h : f ≠ 0) (l : List Int) (a L n m : Nat) : tx2 f l a L n m = f := by
  unfold tx2
  rw [tkF_st h, fl_st h, ite_self]
theorem txF_st {f : Int} (h : f ≠ 0) (l : List Int) (a L n m : Nat) : txF f l a L n m = f := by
  unfold txF
  rw [tx2_st h, tkF_st h]
theorem pL_st {f : Int} (h : f ≠ 0) (l : List Int) (L n a : Nat) (ids : List (List Int)) : pL l L n f a ids = (f, a, ids) := by
  cases n with
  | zero => rfl
  | succ n => rw [pL, if_neg h]
end Go.Proofs.Ytmcmapgllaopmaa.Cd
end

section
namespace Go.Proofs.Ytmcmapgllaopmaa.Cd
open Go.RowKit
set_option linter.unusedVariables false
theorem entFields : ∃ f0 f1 f2 : Field, (Try.prog.fieldsOf 87).toList = [f0, f1, f2] ∧ f0.name ≠ "_" ∧ f1.name ≠ "_" ∧ f2.name ≠ "_" ∧ f0.type = 9 ∧ f1.type = 3 ∧ f2.type = 37 ∧ f0.offset = 0 ∧ f1.offset = 1 ∧ f2.offset = 2 := by
  unfold Program.fieldsOf
  rw [Try.underlying87]
  exact ⟨_, _, _, rfl, by decide, by decide, by decide, rfl, rfl, rfl, rfl, rfl, rfl⟩
theorem part_id (s : ByteArray) (k : Int) (ids : List Int) (hl : ids.length = 32) (w : World) : (part 37 (ent s k ids).toArray 2).run Try.prog w = .ok (.agg (bv ids).toArray) w := by
  obtain ⟨i, hi⟩ := info_of_underlying (P := Try.prog) Try.underlying37
  have hs : (Try.prog.info? 37).map (·.size) = some 32 := by kernel_rfl
  rw [hi] at hs
  have hsz : i.size = 32 := by simpa using hs
  have he : List.take 32 (List.drop 2 (ent s k ids)) = bv ids := by
    rw [show List.drop 2 (ent s k ids) = bv ids from rfl, List.take_of_length_le (by rw [bv_len]; omega)]
  unfold part isAgg
  simp only [Sem.run_bind, run_underlying Try.underlying37, Result.andThen_ok, Sem.run_pure]
  simp [sizeOf, typeInfo, hi, hsz, he]
theorem ids_eq9998 (a b : List Int) (ha : a.length = 32) (hb : b.length = 32) (w : World) :
    (Op.equalIn 9999 37 (.agg (bv a).toArray) (.agg (bv b).toArray)).run Try.prog w = .ok (decide (a = b)) w := by
  obtain ⟨i, hi⟩ := info_of_underlying (P := Try.prog) Try.underlying5
  rw [run_equalIn_array w 9998 (n := 32) (e := 5) (bv a).toArray (bv b).toArray Try.underlying37 hi, show Try.prog.cellsOf 5 = 1 from by kernel_rfl]
  rw [items_eq 9997 a b w _ (fun i hi => by have := List.mem_range.1 hi; omega), all_range a b 32 ha hb]
theorem fields3 {w : World} {d : Nat} {E : Array Value} {f0 f1 f2 : Field} {v0 v1 v2 : Value} (n0 : f0.name ≠ "_") (n1 : f1.name ≠ "_") (n2 : f2.name ≠ "_")
    (p0 : (part f0.type E f0.offset).run Try.prog w = .ok v0 w) (p1 : (part f1.type E f1.offset).run Try.prog w = .ok v1 w) (p2 : (part f2.type E f2.offset).run Try.prog w = .ok v2 w)
    (q0 : (Op.equalIn d f0.type v0 v0).run Try.prog w = .ok true w) (q1 : (Op.equalIn d f1.type v1 v1).run Try.prog w = .ok true w) (q2 : (Op.equalIn d f2.type v2 v2).run Try.prog w = .ok true w) :
    (Op.eqFields d E E [f0, f1, f2]).run Try.prog w = .ok true w := by
  simp only [Op.eqFields, n0, n1, n2, ne_eq, not_false_eq_true, if_true, Sem.run_bind, p0, p1, p2, q0, q1, q2, Result.andThen_ok, Bool.not_true, Bool.false_eq_true, if_false, Sem.run_pure]
theorem ent_self (s : ByteArray) (k : Int) (ids : List Int) (hl : ids.length = 32) (w : World) :
    (Op.equalIn 10000 87 (.agg (ent s k ids).toArray) (.agg (ent s k ids).toArray)).run Try.prog w = .ok true w := by
  obtain ⟨f0, f1, f2, hf, n0, n1, n2, t0, t1, t2, o0, o1, o2⟩ := entFields
  have hu : Try.prog.underlying 87 = some (.struct (Try.prog.fieldsOf 87)) := by
    unfold Program.fieldsOf
    rw [Try.underlying87]
  rw [run_equalIn_struct w 9999 87 _ _ hu (by kernel_rfl), hf]
  have p0 := run_part_plain (P := Try.prog) w (e := 9) (by kernel_rfl) (xs := (ent s k ids).toArray) (off := 0) (v := .string s) rfl
  have p1 := run_part_plain (P := Try.prog) w (e := 3) (by kernel_rfl) (xs := (ent s k ids).toArray) (off := 1) (v := .int .i64 k) rfl
  have p2 := part_id s k ids hl w
  have q2 := ids_eq9998 ids ids hl hl w
  have q0 : (Op.equalIn 9999 9 (.string s) (.string s)).run Try.prog w = .ok (s.toList == s.toList) w := run_equalIn_string w 9998 9 s s Try.underlying9
  have q1 : (Op.equalIn 9999 3 (.int .i64 k) (.int .i64 k)).run Try.prog w = .ok (k == k) w := run_equalIn_int w 9998 3 .i64 .i64 k k Try.underlying3
  rw [beq_self_eq_true] at q0 q1
  rw [decide_eq_true rfl] at q2
  generalize (ent s k ids).toArray = E at *
  generalize Value.agg (bv ids).toArray = V at *
  rw [← t0, ← o0] at p0
  rw [← t1, ← o1] at p1
  rw [← t2, ← o2] at p2
  rw [← t0] at q0
  rw [← t1] at q1
  rw [← t2] at q2
  exact fields3 n0 n1 n2 p0 p1 p2 q0 q1 q2
set_option maxRecDepth 100000 in
set_option maxHeartbeats 400000 in
theorem sameE_any (A : Option Addr) (n C : Nat) (A' : Option Addr) (C' : Nat) (es : List Fr.Ent) (w : World) (h : RdE w A n C es) (h' : RdE w A' n C' es) :
    Calls Try.prog 16 #[.slice A n C, .slice A' n C'] w fun e w' => e = .returned (.bool true) ∧ Below w.heap.size w w' := by
  have HR1 := Lib.hid h
  have HR2 := Lib.hid h'
  have hc1 := h.cap
  have hm1 := h.max
  have hc2 := h'.cap
  have hm2 := h'.max
  have hbig := h.big
  have HL := Lib.hid h.len
  have HB0 := Lib.hid (Below.refl w.heap.size w)
  clear h h'
  go_enter Try.func16, Try.ntmps16
  go_wp2_with fail
  go_loopw [5] (fun s wr => ∃ k : Nat, s = .int .i64 k ∧ k ≤ n ∧ Hid (RdE wr A n C es) ∧ Hid (RdE wr A' n C' es) ∧ Hid (Below w.heap.size w wr)) (fun s _ => n - (intOf s).toNat)
  case atStart => exact ⟨0, rfl, Nat.zero_le _, HR1, HR2, HB0⟩
  case round =>
    clear HR1 HR2 HB0
    obtain ⟨k, rfl, hk, HR1, HR2, HB⟩ := hrel
    by_cases hlt : k < n
    · obtain ⟨g, o, rfl, hg, hcc⟩ := HR1.out.cell (by omega)
      obtain ⟨g2, o2, rfl, hg2, hcc2⟩ := HR2.out.cell (by omega)
      have hok := (HR1.out.ok _ (getDE_mem (k := k) (by have := HL.out; omega))).1
      have hx1 := hcc k hlt
      have hx2 := hcc2 k hlt
      have hself := fun W => ent_self (es.getD k default).name (es.getD k default).kind (es.getD k default).id hok W
      have hen : (es.getD k default).cells = ent (es.getD k default).name (es.getD k default).kind (es.getD k default).id := rfl
      rw [hen] at hx1 hx2
      have hS1 : Hid ((Try.prog.info? 87).map (·.size) = some (ent (es.getD k default).name (es.getD k default).kind (es.getD k default).id).length) := Lib.hid (by rw [ent_length _ _ _ hok]; kernel_rfl)
      generalize ent (es.getD k default).name (es.getD k default).kind (es.getD k default).id = EL at *
      have HX1 := Lib.hid hx1
      have HX2 := Lib.hid hx2
      have hk0 : (0 : Int) ≤ (k : Int) := by omega
      have hk1 : (k : Int) < (n : Int) := by omega
      have hkn : k < n := hlt
      have HR1d : Hid (RdE wr.drew (some ⟨g, o, none⟩) n C es) := Lib.hid ⟨HR1.out.len, HR1.out.cap, HR1.out.max, HR1.out.big, HR1.out.ok, HR1.out.cell⟩
      have HR2d : Hid (RdE wr.drew (some ⟨g2, o2, none⟩) n C' es) := Lib.hid ⟨HR2.out.len, HR2.out.cap, HR2.out.max, HR2.out.big, HR2.out.ok, HR2.out.cell⟩
      have HBd := Lib.hid HB.out.drew
      clear hx1 hx2 hcc hcc2 hok hen HR1 HR2 HB hg hg2
      go_wp2_with fail
      refine wp_region_noPanic ?_
      refine wp_region_held_drew (S := (fun wS => wS.rangeAt g (o + k * 34) EL ∧ wS.rangeAt g2 (o2 + k * 34) EL)) (by kernel_rfl) ?_ (fun hHeld => ?_)
      · ((try dsimp only); exact ⟨HX1.out, HX2.out⟩)
      refine wpAnyH_take (i := 0) (oi := { dst := some 17, op := Op.move (Operand.tmp 0), type := 22, pos := "law.go:32", after := #[], guard := none }) (v := ?_) rfl (by kernel_rfl) (by kernel_rfl) (by kernel_rfl) (fun _ _ _ h => h) (Or.inl ⟨by rfl, ?_⟩) (by assumption) ?_
      rotate_left 1
      · ((intro w hSw; (try dsimp only at hSw); go_simp) <;> with_reducible rfl)
      (try simp only [Act.put, List.setIfInBounds_toArray, List.set_cons_zero, List.set_cons_succ])
      refine wpAnyH_take (i := 1) (oi := { dst := some 18, op := Op.move (Operand.tmp 5), type := 3, pos := "law.go:32", after := #[], guard := none }) (v := ?_) rfl (by kernel_rfl) (by kernel_rfl) (by kernel_rfl) (fun _ _ _ h => h) (Or.inl ⟨by rfl, ?_⟩) (by assumption) ?_
      rotate_left 1
      · ((intro w hSw; (try dsimp only at hSw); go_simp) <;> with_reducible rfl)
      (try simp only [Act.put, List.setIfInBounds_toArray, List.set_cons_zero, List.set_cons_succ])
      refine wpAnyH_take (i := 2) (oi := { dst := some 19, op := Op.indexAddr 22 (Operand.tmp 17) (Operand.tmp 18), type := 0, pos := "law.go:32", after := #[{ on := 0, ground := Ground.data }, { on := 1, ground := Ground.data }], guard := none }) (v := ?_) rfl (by kernel_rfl) (by kernel_rfl) (by kernel_rfl) (fun _ _ _ h => h) (Or.inl ⟨by rfl, ?_⟩) (by assumption) ?_
      rotate_left 1
      · ((intro w hSw; (try dsimp only at hSw); go_simp) <;> with_reducible rfl)
      (try simp only [Act.put, List.setIfInBounds_toArray, List.set_cons_zero, List.set_cons_succ])
      refine' wpAnyH_take (i := 3) (oi := { dst := some 20, op := Op.load 87 (Operand.tmp 19), type := 87, pos := "law.go:32", after := #[{ on := 2, ground := Ground.data }], guard := none }) (v := _) rfl (by kernel_rfl) (by kernel_rfl) (by kernel_rfl) (fun _ _ _ h => h) (yieldsIf_load_mid (by rfl) _ _ rfl _ _ rfl EL _ (fun w hSw => hSw.1) Try.underlying87 rfl hS1.out) (by assumption) ?_
      (try simp only [Act.put, List.setIfInBounds_toArray, List.set_cons_zero, List.set_cons_succ])
      refine wpAnyH_take (i := 4) (oi := { dst := some 21, op := Op.move (Operand.tmp 1), type := 22, pos := "law.go:32", after := #[], guard := none }) (v := ?_) rfl (by kernel_rfl) (by kernel_rfl) (by kernel_rfl) (fun _ _ _ h => h) (Or.inl ⟨by rfl, ?_⟩) (by assumption) ?_
      rotate_left 1
      · ((intro w hSw; (try dsimp only at hSw); go_simp) <;> with_reducible rfl)
      (try simp only [Act.put, List.setIfInBounds_toArray, List.set_cons_zero, List.set_cons_succ])
      refine wpAnyH_take (i := 5) (oi := { dst := some 22, op := Op.move (Operand.tmp 5), type := 3, pos := "law.go:32", after := #[], guard := none }) (v := ?_) rfl (by kernel_rfl) (by kernel_rfl) (by kernel_rfl) (fun _ _ _ h => h) (Or.inl ⟨by rfl, ?_⟩) (by assumption) ?_
      rotate_left 1
      · ((intro w hSw; (try dsimp only at hSw); go_simp) <;> with_reducible rfl)
      (try simp only [Act.put, List.setIfInBounds_toArray, List.set_cons_zero, List.set_cons_succ])
      refine wpAnyH_take (i := 6) (oi := { dst := some 23, op := Op.indexAddr 22 (Operand.tmp 21) (Operand.tmp 22), type := 0, pos := "law.go:32", after := #[{ on := 4, ground := Ground.data }, { on := 5, ground := Ground.data }], guard := none }) (v := ?_) rfl (by kernel_rfl) (by kernel_rfl) (by kernel_rfl) (fun _ _ _ h => h) (Or.inl ⟨by rfl, ?_⟩) (by assumption) ?_
      rotate_left 1
      · ((intro w hSw; (try dsimp only at hSw); go_simp) <;> with_reducible rfl)
      (try simp only [Act.put, List.setIfInBounds_toArray, List.set_cons_zero, List.set_cons_succ])
      refine' wpAnyH_take (i := 7) (oi := { dst := some 24, op := Op.load 87 (Operand.tmp 23), type := 87, pos := "law.go:32", after := #[{ on := 6, ground := Ground.data }], guard := none }) (v := _) rfl (by kernel_rfl) (by kernel_rfl) (by kernel_rfl) (fun _ _ _ h => h) (yieldsIf_load_mid (by rfl) _ _ rfl _ _ rfl EL _ (fun w hSw => hSw.2) Try.underlying87 rfl hS1.out) (by assumption) ?_
      (try simp only [Act.put, List.setIfInBounds_toArray, List.set_cons_zero, List.set_cons_succ])
      refine wpAnyH_take (i := 8) (oi := { dst := some 25, op := Op.binOp BinOp.neq 87 (Operand.tmp 20) (Operand.tmp 24) 87, type := 4, pos := "law.go:32", after := #[{ on := 3, ground := Ground.data }, { on := 7, ground := Ground.data }], guard := none }) (v := ?_) rfl (by kernel_rfl) (by kernel_rfl) (by kernel_rfl) (fun _ _ _ h => h) (Or.inl ⟨by rfl, ?_⟩) (by assumption) ?_
      rotate_left 1
      · ((intro w hSw; (try dsimp only at hSw); go_simp) <;> with_reducible rfl)
      (try simp only [Act.put, List.setIfInBounds_toArray, List.set_cons_zero, List.set_cons_succ])
      refine wpAnyH_done (by kernel_rfl) ?_ _
      refine NoPanic.normal ?_
      skip
      go_wp2_with fail
      go_roundw
      case rel => exact ⟨k + 1, by go_num, by omega, HR1d, HR2d, HBd⟩
      case measure => simp [intOf]; omega
    · have hd : decide ((k : Int) < (n : Int)) = false := by simp; omega
      have hd2 : ¬ k < n := hlt
      go_wp2_with fail
      go_ret
      exact ⟨rfl, HB.out⟩
end Go.Proofs.Ytmcmapgllaopmaa.Cd
end

section
namespace Go.Proofs.Ytmcmapgllaopmaa.Cd
open Go.RowKit
set_option linter.unusedVariables false
/-- entries that came in -/
theorem RdE.of_ents {w : World} {a : Option Addr} {n cap : Nat} {es : List Fr.Ent} (h : Fr.IsEnts w a n cap es) (hn : n ≤ 1000000) : RdE w a n cap es := by
  rcases h with ⟨rfl, rfl, rfl, rfl⟩ | ⟨x, rfl, hl, hc, hlen, hcell, hwf⟩
  · exact ⟨rfl, Nat.le_refl _, by omega, by omega, fun x hx => by simp at hx, fun h0 => absurd h0 (by omega)⟩
  · refine ⟨hlen, hl, by omega, hn, fun x hx => ⟨(hwf x hx).2.2.1, (hwf x hx).1⟩, fun h0 => ?_⟩
    have hc0 := hcell 0 h0 0 _ rfl
    obtain ⟨b, off, spot⟩ := x
    have hspot : spot = Option.none := by simpa [Addr.add] using World.cell?_spot hc0
    subst hspot
    refine ⟨b, off, rfl, by simpa [Addr.add] using block_lt_of_cell hc0, fun i hi j v hj => ?_⟩
    have := hcell i hi j v hj
    rw [Addr.add_mid, Addr.add_mid] at this
    exact this
theorem entsV_get : ∀ (l : List Fr.Ent), (∀ x ∈ l, x.id.length = 32) → ∀ i j, i < l.length → j < 34 → (entsV l)[i * 34 + j]? = (l.getD i default).cells[j]?
  | [], _, i, j, hi, _ => absurd hi (by simp)
  | x :: l, h, 0, j, _, hj => by
    have hx := ent_len x (h x (List.mem_cons_self ..))
    rw [entsV, List.flatMap_cons, List.getElem?_append_left (by omega)]
    simp
  | x :: l, h, i + 1, j, hi, hj => by
    have hx := ent_len x (h x (List.mem_cons_self ..))
    rw [entsV, List.flatMap_cons, List.getElem?_append_right (by omega), show (i + 1) * 34 + j - x.cells.length = i * 34 + j by omega]
    exact entsV_get l (fun y hy => h y (List.mem_cons_of_mem _ hy)) i j (by simpa using hi) hj
/-- entries of one's own -/
theorem RdE.of_own {w : World} {B n : Nat} {Ae : Option Addr} {Ce : Nat} {es : List Fr.Ent} (h : w.ownsRow B 87 34 (.slice Ae n Ce) n (entsV es)) (hid : ∀ x ∈ es, x.id.length = 32 ∧ x.name.size ≤ 140737488351232) (hn : n ≤ 1000000) (he : es.length = n) : RdE w Ae n Ce es := by
  rcases h.2 with ⟨hv, hz⟩ | ⟨g, cap, cur, hv, hb, hg, hnc, hcm, hcs, htake⟩
  · simp only [Value.slice.injEq] at hv
    obtain ⟨rfl, -, rfl⟩ := hv
    subst hz
    exact ⟨he, Nat.le_refl _, by omega, by omega, hid, fun h => absurd h (by omega)⟩
  · simp only [Value.slice.injEq, true_and] at hv
    obtain ⟨rfl, rfl⟩ := hv
    refine ⟨he, hnc, hcm, hn, hid, fun h0 => ⟨g, 0, rfl, ?_, fun i hi j v hj => ?_⟩⟩
    · rcases Nat.lt_or_ge g w.heap.size with h | h
      · exact h
      · rw [Array.getElem?_eq_none h] at hg; simp at hg
    · have hx := ent_len (es.getD i default) (hid _ (getDE_mem (by omega))).1
      have hj2 : j < 34 := by have := (List.getElem?_eq_some_iff.1 hj).1; omega
      rw [Nat.zero_add, World.ownsRow.cellAt h _ (by omega), entsV_get es (fun x hx => (hid x hx).1) i j (by omega) hj2]
      exact hj
/-- bytes of one's own as a text -/
theorem conv_own' {w : World} {B n : Nat} {v : Value} {l : List Int} (h : w.ownsRow B 5 1 v n (bv l)) : (convert 23 9 v).run Try.prog w = .ok (.string (sb l)) w := by
  have hl : l.length = n := by have := h.1; simpa [bv] using this
  rcases h.2 with ⟨rfl, rfl⟩ | ⟨g, cap, cur, rfl, hg, hh, hc1, hc2, hc3, ht⟩
  · obtain rfl : l = [] := List.eq_nil_of_length_eq_zero hl
    exact Lib.run_convert_nil_bytes w _ _ 5 0 Try.underlying23 Try.underlying5 Try.underlying9
  · have := conv_own h n (Nat.le_refl _)
    rw [List.take_of_length_le (by omega)] at this
    exact this
theorem RdE.nil (w : World) : RdE w none 0 0 [] := ⟨rfl, Nat.le_refl _, by omega, by omega, fun x hx => by simp at hx, fun h => absurd h (by omega)⟩
end Go.Proofs.Ytmcmapgllaopmaa.Cd
end

section
namespace Go.Proofs.Ytmcmapgllaopmaa.Cd
open Go.RowKit
set_option linter.unusedVariables false
theorem wpList_load_g {ops : Array Oper} {rest : List Oper} {op : Oper} {a : Act} {w : World} {Q : Exit → Act → World → Prop} (hw : Region.wanted op (yielded ops a.tmps) = true) (ty : TypeId) (x : Operand) (ho : op.op = .load ty x)
    (b o : Nat) (hx : a.eval x = .pointer (some ⟨b, o, none⟩)) (cs : List Value) (d : TypeDesc) (hc : w.rangeAt b o cs)
    (hu : Try.prog.underlying ty = some d) (hd : d.isRow = true) (hi : (Try.prog.info? ty).map (·.size) = some cs.length)
    (h : wpList Try.prog ops Q rest (a.put op.dst (.agg cs.toArray)) w) : wpList Try.prog ops Q (op :: rest) a w :=
  wpList_step fun K hK => by
    rw [if_pos hw]
    exact wp_load_mid ty x ho b o hx cs d hc hu hd hi (hK _ _ h)
end Go.Proofs.Ytmcmapgllaopmaa.Cd
end
