/- Texts of one's own, merged: CdRPc, CdChk. -/
import Derived.Test.YtmcmapgllaopmaaMg

section
/- The document's ParseCommit of any bytes. -/
namespace Go.Proofs.Ytmcmapgllaopmaa.Cd
open Go.RowKit
set_option linter.unusedVariables false

theorem wpList_build1 {ops : Array Oper} {rest : List Oper} {o : Oper} {a : Act} {w : World} {Q : Exit → Act → World → Prop} (hgd : o.guard = none) (t : TypeId) (i : Nat) (x : Operand) (ho : o.op = .build t #[(i, x)]) (v : Value) (hx : a.eval x = v) (cs : Array Value) (hb : Try.prog.built t [(i, v)] = some cs)
    (h : wpList Try.prog ops Q rest (a.put o.dst (.agg cs)) w) : wpList Try.prog ops Q (o :: rest) a w := by
  refine wpList_build hgd t #[(i, x)] ho ?_ ?_
  · simp [hx, hb]
  · simpa [hx, hb] using h
theorem wpList_load_g {ops : Array Oper} {rest : List Oper} {op : Oper} {a : Act} {w : World} {Q : Exit → Act → World → Prop} (hw : Region.wanted op (yielded ops a.tmps) = true) (ty : TypeId) (x : Operand) (ho : op.op = .load ty x)
    (b o : Nat) (hx : a.eval x = .pointer (some ⟨b, o, none⟩)) (cs : List Value) (d : TypeDesc) (hc : w.rangeAt b o cs)
    (hu : Try.prog.underlying ty = some d) (hd : d.isRow = true) (hi : (Try.prog.info? ty).map (·.size) = some cs.length)
    (h : wpList Try.prog ops Q rest (a.put op.dst (.agg cs.toArray)) w) : wpList Try.prog ops Q (op :: rest) a w :=
  wpList_step fun K hK => by
    rw [if_pos hw]
    exact wp_load_mid ty x ho b o hx cs d hc hu hd hi (hK _ _ h)
theorem cu_t (l : List Int) (p n L : Nat) : cuB true l p n L = [] ∧ cuP true p n L = p ∧ cuC true p n L = true := ⟨rfl, rfl, rfl⟩
theorem Pc.append {w0 w w' : World} {O R X : Nat} {A : Option Addr} {L C : Nat} {l : List Int} {P : Nat} {cut : Bool} {ZC : Array Value} {tr : List Int} {Ai : Option Addr} {ni Ci : Nat} {ids : List (List Int)} {au : ByteArray} {tm : Int} {ms : ByteArray} {A' : Option Addr} {n' C' : Nat} {ids' : List (List Int)}
    (h : Pc w0 w O R X A L C l P cut ZC tr Ai ni Ci ids au tm ms) (hg : w.grownBy w' (Value.slice Ai ni Ci).ownBlock) (ho : w'.ownsRow (X + 1) 37 32 (.slice A' n' C') n' (idsV ids')) (hX : X + 1 ≤ w.heap.size) :
    Pc w0 (w'.setCell ⟨X, 32, none⟩ (.slice A' n' C')) O R X A L C l P cut ZC tr A' n' C' ids' au tm ms := by
  have h1 := h.hOR
  have h2 := h.hRX
  have hb := (Below.refl (X + 1) w).grown hg hX (fun q hq => (h.own.lt q hq).1)
  have hu := h.u.belowB hb (by omega) (fun x hx h0 => by have := h.hA x hx h0; omega)
  exact ⟨hu.setX X 32 _ (by omega) (fun x hx h0 => by have := h.hA x hx h0; omega), (h.o.of_block (hb.block O (by omega))).setOther (a := ⟨X, 32, none⟩) (by show O ≠ X; omega) _,
    ((h.x.of_block (hb.block X (by omega))).set 32 _).congr (fun j _ => cmF_ps _ _ _ _ _ _ j),
    own_grown ho (grown_set w' X 32 _) (fun e => by have := (ho.lt X e).1; omega), (h.b.trans (hb.mono (by omega))).setCell (p := ⟨X, 32, none⟩) (by show O ≤ X; omega) _, h1, h2, h.hA⟩

set_option maxRecDepth 100000 in
set_option maxHeartbeats 8000000 in
theorem rparseCommit_any (A : Option Addr) (L C : Nat) (l : List Int) (w : World) (h : RdB w A L C l) :
    Calls Try.prog 20 #[.slice A L C] w (PcRet l L w) := by
  have hz : ∀ w : World, (zeroValue 40).run Try.prog w = .ok (.agg cm0.toArray) w := zeroCm
  have hZl : cm0.toArray.size = 36 := by rw [List.size_toArray, cm0_len]
  generalize hZC : cm0.toArray = ZC at *
  have HZC := Lib.hid hZC
  have HZl := Lib.hid hZl
  have HL := Lib.hid h.len
  have HBy := Lib.hid h.byte
  have HRd := Lib.hid h
  have HB0 := Lib.hid (Below.refl w.heap.size w)
  clear hZl h hZC
  go_enter Try.func20, Try.ntmps20
  go_upto_region 1 with (fail)
  have hro := row_new w ZC 40
  rw [HZl.out] at hro
  have HO1 := Lib.hid hro
  have hX1 : (w.alloc (.cells ZC 40)).heap.size = w.heap.size + 1 := by show (w.heap.push _).size = _; simp
  have HB1 := Lib.hid (HB0.out.alloc (Nat.le_refl _) (.cells ZC 40))
  have HRd1 := Lib.hid (HRd.out.below HB1.out)
  have HLt : Hid (∀ x, A = some x → 0 < L → x.block < w.heap.size) := Lib.hid (fun x hx h0 => (HRd.out.cell x hx).1 h0)
  clear hro HB0 HRd
  generalize w.alloc (.cells ZC 40) = w1 at *
  go_upto_region 2 with (fail)
  have HB2 := Lib.hid (HB1.out.alloc (show w.heap.size ≤ w1.heap.size by omega) (.cells #[.slice A L C, .int .i64 0, .bool false] 99))
  have HO2 := Lib.hid (World.rowIs.alloc HO1.out (.cells #[.slice A L C, .int .i64 0, .bool false] 99))
  have hr2 := row_new w1 #[.slice A L C, .int .i64 0, .bool false] 99
  have HU2 : Hid (Cu (w1.alloc (.cells #[.slice A L C, .int .i64 0, .bool false] 99)) w1.heap.size A L C l 0 false) := Lib.hid ⟨hr2.congr (fun j hj => by
      match j, hj with
      | 0, _ => rfl
      | 1, _ => rfl
      | 2, _ => rfl), HRd1.out.below ((Below.refl w1.heap.size w1).alloc (Nat.le_refl _) _), fun x hx h0 => by have := HLt.out x hx h0; omega, Nat.zero_le _⟩
  clear hr2 HO1 HB1 HRd1
  obtain ⟨R, hR⟩ : ∃ R, R = w.heap.size + 1 := ⟨_, rfl⟩
  obtain ⟨O, hO⟩ : ∃ O, O = w.heap.size := ⟨_, rfl⟩
  rw [hX1, ← hR] at HU2
  rw [← hR]
  rw [← hO] at HO2 HLt HB2 ⊢
  have hRO : O < R := by omega
  clear hX1
  generalize w1.alloc (.cells #[.slice A L C, .int .i64 0, .bool false] 99) = w2 at *
  have HOw := Lib.hid hO
  clear hR hO
  have HI := Lib.hid (cid_r R A L C l 0 false w2 HU2.out)
  unfold CiRet at HI
  have hil : (idv (cuB false l 0 32 L)).length = 32 := idv_len _ (cuB_len _ _ _ _ _)
  obtain ⟨tr, htr⟩ : ∃ tr, tr = idv (cuB false l 0 32 L) := ⟨_, rfl⟩
  obtain ⟨P1, hP1⟩ : ∃ P1, P1 = cuP false 0 32 L := ⟨_, rfl⟩
  obtain ⟨C1, hC1⟩ : ∃ C1, C1 = cuC false 0 32 L := ⟨_, rfl⟩
  rw [← htr] at HI hil
  rw [← hP1, ← hC1] at HI
  have HTr0 := Lib.hid htr
  have HTr : Hid (cT 0 l 0 L = tr) := Lib.hid (by rw [(c1_of l L).1, htr])
  have HP1 := Lib.hid hP1
  have HC1 := Lib.hid hC1
  have HTl := Lib.hid hil
  have hRs := HU2.out.row.lt
  clear htr hP1 hC1 hil HU2
  go_wp2_with fail
  refine HI.out.mono ?_
  rintro e w3 ⟨rfl, hU3, hg3⟩
  have hO3 := HO2.out.of_block (hg3.block O HO2.out.lt (fun e => by have := Option.some.inj e; omega))
  have hB3 := HB2.out.grown hg3 (by omega) (fun k hk => by have := Option.some.inj hk; omega)
  have hR3 : R < w3.heap.size := hU3.row.lt
  have hxr := row_new w3 ZC 40
  rw [HZl.out] at hxr
  have hcl := cm_len tr (.slice none 0 0) ByteArray.empty 0 ByteArray.empty HTl.out
  have hco := cm_one tr (.slice none 0 0) ByteArray.empty 0 ByteArray.empty rfl
  have hb34 := (Below.refl w3.heap.size w3).alloc (Nat.le_refl _) (.cells ZC 40)
  have hb4 := below_cells (Nat.le_refl w3.heap.size) (cm tr (.slice none 0 0) ByteArray.empty 0 ByteArray.empty) 0 _ hb34
  have HFx := Lib.hid (Fin.mk' hcl hco hxr hb34 (Nat.le_refl _))
  have HPc : Hid (Pc w ((w3.alloc (.cells ZC 40)).setCells w3.heap.size 0 (cm tr (.slice none 0 0) ByteArray.empty 0 ByteArray.empty)) O R w3.heap.size A L C l P1 C1 ZC tr none 0 0 [] ByteArray.empty 0 ByteArray.empty) := Lib.hid
    ⟨hU3.below hb4, hO3.of_block (hb4.block O hO3.lt), (row_lay hxr 0 (cm tr (.slice none 0 0) ByteArray.empty 0 ByteArray.empty)).congr (fun j hj => by
        rw [layF, if_pos (by omega), Nat.sub_zero, List.getD_eq_getElem?_getD, cm_get tr _ _ _ _ HTl.out j hj]; rfl),
      ⟨by simp [idsV], .inl ⟨rfl, rfl⟩⟩, hB3.trans (hb4.mono (by omega)), hRO, hR3, HLt.out⟩
  have HBu := Lib.hid (built_cm tr HTl.out)
  have HRg : Hid (((w3.alloc (.cells ZC 40)).setCells w3.heap.size 0 (cm tr (.slice none 0 0) ByteArray.empty 0 ByteArray.empty)).rangeAt w3.heap.size 0 (bv tr)) := Lib.hid (fun j v hj => by
    have hl := (List.getElem?_eq_some_iff.1 hj).1
    have hl2 : j < 32 := by rw [bv_len, HTl.out] at hl; exact hl
    rw [Nat.zero_add, HPc.out.x.cell (show j < 36 by omega), cmF, if_neg (by omega), if_neg (by omega), if_neg (by omega), if_neg (by omega), ← hj]
    simp [bv, List.getD, show j < tr.length by have := HTl.out; omega])
  have HSz1 : Hid ((Try.prog.info? 37).map (·.size) = some (bv tr).length) := Lib.hid (by rw [bv_len, HTl.out]; kernel_rfl)
  have hq : ∀ W, (Op.equalIn 10000 37 (.agg (bv tr).toArray) (.agg #[.int .u8 0, .int .u8 0, .int .u8 0, .int .u8 0, .int .u8 0, .int .u8 0, .int .u8 0, .int .u8 0, .int .u8 0, .int .u8 0, .int .u8 0, .int .u8 0, .int .u8 0, .int .u8 0, .int .u8 0, .int .u8 0, .int .u8 0, .int .u8 0, .int .u8 0, .int .u8 0, .int .u8 0, .int .u8 0, .int .u8 0, .int .u8 0, .int .u8 0, .int .u8 0, .int .u8 0, .int .u8 0, .int .u8 0, .int .u8 0, .int .u8 0, .int .u8 0])).run Try.prog W = .ok (decide (tr = List.replicate 32 0)) W := fun W => ids_none tr HTl.out W
  have hXs : w3.heap.size < ((w3.alloc (.cells ZC 40)).setCells w3.heap.size 0 (cm tr (.slice none 0 0) ByteArray.empty 0 ByteArray.empty)).heap.size := HPc.out.x.lt
  clear hU3 hg3 hO3 hB3 hxr hcl hco hb34 hb4 HO2 HB2 HI
  generalize hCM0 : cm tr (.slice none 0 0) ByteArray.empty 0 ByteArray.empty = CM0 at *
  clear hCM0
  generalize hDI : bv tr = DI at *
  have HDI := Lib.hid hDI
  clear hDI
  go_upto_region 3 with (first
    | (refine wpList_build1 rfl 40 0 _ rfl (.agg DI.toArray) rfl CM0.toArray HBu.out ?_)
    | (refine wpList_store_mid rfl _ _ _ rfl w3.heap.size 0 CM0.toArray rfl rfl HFx.out.there HFx.out.size HFx.out.one ?_))
  change Code.wp _ _ _ _ ((w3.alloc (.cells ZC 40)).setCells w3.heap.size 0 CM0)
  clear HFx HBu
  generalize (w3.alloc (.cells ZC 40)).setCells w3.heap.size 0 CM0 = w4 at *
  generalize w3.heap.size = X at *
  cases C1 with
  | true =>
    have HErr : Hid (cF7 0 l 0 L = 14) := Lib.hid (c2_st (by decide) (by rw [c2_of, ← HC1.out]; show (if _ then fl 14 1 else 14) = 14; rw [fl_14, ite_self]))
    have hc2 := HPc.out.u.c2
    have HN := Lib.hid (cnum_r R A L C l P1 true 1 w4 HPc.out.u (by omega))
    unfold CnRet at HN
    rw [(cu_t l P1 1 L).1, (cu_t l P1 1 L).2.1, (cu_t l P1 1 L).2.2, show tv [] = 0 from rfl, show ((1 : Nat) : Int) = 1 from rfl] at HN
    go_wp2_with fail
    refine HN.out.mono ?_
    rintro e w11 ⟨rfl, hU, hg⟩
    have HPn := Lib.hid (HPc.out.grown hg hU)
    clear hU hg HN HPc
    have HPc := HPn
    clear HPn
    have hc2 := HPc.out.u.c2
    go_wp2_with fail
    have HP0 := HPc
    clear HPc hc2
    go_loopw [7] (fun s wr => s = .int .i64 0 ∧ wr = w11) (fun _ _ => 0)
    case atStart => exact ⟨rfl, rfl⟩
    obtain ⟨rfl, rfl⟩ := hrel
    have HPc := HP0
    clear HP0
    have hc2 := HPc.out.u.c2
    have HN := Lib.hid (cnum_r R A L C l P1 true 2 wr HPc.out.u (by omega))
    unfold CnRet at HN
    rw [(cu_t l P1 2 L).1, (cu_t l P1 2 L).2.1, (cu_t l P1 2 L).2.2, show tv [] = 0 from rfl, show ((2 : Nat) : Int) = 2 from rfl] at HN
    go_wp2_with fail
    refine HN.out.mono ?_
    rintro e w12 ⟨rfl, hU, hg⟩
    have HPn := Lib.hid (HPc.out.grown hg hU)
    clear hU hg HN HPc
    have HPc := HPn
    clear HPn
    have hc2 := HPc.out.u.c2
    have HN := Lib.hid (cbytes_r R A L C l P1 true 0 w12 HPc.out.u (by omega))
    unfold CbRet at HN
    rw [(cu_t l P1 0 L).1, (cu_t l P1 0 L).2.1, (cu_t l P1 0 L).2.2, show ((0 : Nat) : Int) = 0 from rfl] at HN
    go_wp2_with fail
    refine HN.out.mono ?_
    rintro e w13 ⟨A', C', rfl, ho, hU, hg⟩
    clear hc2
    have cv : (convert 23 9 (.slice A' 0 C')).run Try.prog w13 = .ok (.string (sb [])) w13 := conv_own' ho
    have HPn := Lib.hid (HPc.out.grown hg hU)
    have hc : w13.cell? ⟨X, 33, none⟩ = some _ := HPn.out.x.cell (i := 33) (by omega)
    have hf : w13.frozen? ⟨X, 33, none⟩ = false := HPn.out.x.frozen _
    have HPm := Lib.hid (HPn.out.set 33 (.string (sb [])) (fun j => cmF_au _ _ _ _ _ _ j))
    clear ho hU hg HN HPc HPn
    go_upto_region 22 with (fail)
    have HPc := HPm
    clear HPm
    generalize w13.setCell ⟨X, 33, none⟩ (.string (sb [])) = w14 at *
    clear hc hf cv
    have hc2 := HPc.out.u.c2
    have HN := Lib.hid (cnum_r R A L C l P1 true 8 w14 HPc.out.u (by omega))
    unfold CnRet at HN
    rw [(cu_t l P1 8 L).1, (cu_t l P1 8 L).2.1, (cu_t l P1 8 L).2.2, show tv [] = 0 from rfl, show ((8 : Nat) : Int) = 8 from rfl] at HN
    go_wp2_with fail
    refine HN.out.mono ?_
    rintro e w15 ⟨rfl, hU, hg⟩
    have HPn := Lib.hid (HPc.out.grown hg hU)
    clear hU hg HN HPc
    have HPc := HPn
    clear HPn
    have hc2 := HPc.out.u.c2
    have hc : w15.cell? ⟨X, 34, none⟩ = some _ := HPc.out.x.cell (i := 34) (by omega)
    have hf : w15.frozen? ⟨X, 34, none⟩ = false := HPc.out.x.frozen _
    have HPm := Lib.hid (HPc.out.set 34 (.int .i64 0) (fun j => cmF_time _ _ _ _ _ _ j))
    clear HPc
    go_upto_region 23 with (fail)
    have HPc := HPm
    clear HPm hc2
    generalize w15.setCell ⟨X, 34, none⟩ (.int .i64 0) = w16 at *
    clear hc hf
    have hc2 := HPc.out.u.c2
    have HN := Lib.hid (cnum_r R A L C l P1 true 2 w16 HPc.out.u (by omega))
    unfold CnRet at HN
    rw [(cu_t l P1 2 L).1, (cu_t l P1 2 L).2.1, (cu_t l P1 2 L).2.2, show tv [] = 0 from rfl, show ((2 : Nat) : Int) = 2 from rfl] at HN
    go_wp2_with fail
    refine HN.out.mono ?_
    rintro e w17 ⟨rfl, hU, hg⟩
    have HPn := Lib.hid (HPc.out.grown hg hU)
    clear hU hg HN HPc
    have HPc := HPn
    clear HPn
    have hc2 := HPc.out.u.c2
    have HN := Lib.hid (cbytes_r R A L C l P1 true 0 w17 HPc.out.u (by omega))
    unfold CbRet at HN
    rw [(cu_t l P1 0 L).1, (cu_t l P1 0 L).2.1, (cu_t l P1 0 L).2.2, show ((0 : Nat) : Int) = 0 from rfl] at HN
    go_wp2_with fail
    refine HN.out.mono ?_
    rintro e w18 ⟨A', C', rfl, ho, hU, hg⟩
    clear hc2
    have cv : (convert 23 9 (.slice A' 0 C')).run Try.prog w18 = .ok (.string (sb [])) w18 := conv_own' ho
    have HPn := Lib.hid (HPc.out.grown hg hU)
    have hc : w18.cell? ⟨X, 35, none⟩ = some _ := HPn.out.x.cell (i := 35) (by omega)
    have hf : w18.frozen? ⟨X, 35, none⟩ = false := HPn.out.x.frozen _
    have HPm := Lib.hid (HPn.out.set 35 (.string (sb [])) (fun j => cmF_msg _ _ _ _ _ _ j))
    clear ho hU hg HN HPc HPn
    go_upto_region 27 with (fail)
    have HPc := HPm
    clear HPm
    generalize w18.setCell ⟨X, 35, none⟩ (.string (sb [])) = w19 at *
    clear hc hf cv
    have hc2 := HPc.out.u.c2
    have HFz := Lib.hid HPc.out.fin
    clear HPc
    go_wp2_with (refine wpList_store_mid rfl _ _ _ rfl O 0 cm0.toArray rfl (show _ = _ from congrArg Value.agg HZC.out.symm) HFz.out.there HFz.out.size HFz.out.one ?_)
    refine bodyPost_ret (results_cell2 rfl _ _ O _ _ _ _ rfl HFz.out.stored Try.underlying40 rfl HFz.out.size (.int .i64 14) rfl) rfl ?_
    exact ⟨by rw [← HOw.out]; exact HFz.out.bel, .inl ⟨by rw [HErr.out]; decide, by rw [HErr.out]⟩⟩
  | false =>
    have hc2 := HPc.out.u.c2
    by_cases hz0 : tr = List.replicate 32 0
    · rw [decide_eq_true hz0] at hq
      have HErr : Hid (cF7 0 l 0 L = 1) := Lib.hid (c2_st (by decide) (by rw [c2_of, ← HC1.out, if_pos (by rw [← HTr0.out]; exact hz0)]; rfl))
      clear hz0
      have HFz := Lib.hid HPc.out.fin
      clear HPc
      go_wp2_with (first
        | (refine wpList_load_g (by rfl) _ _ rfl X 0 rfl DI _ HRg.out Try.underlying37 rfl HSz1.out ?_)
        | (refine wpList_store_mid rfl _ _ _ rfl O 0 cm0.toArray rfl (show _ = _ from congrArg Value.agg HZC.out.symm) HFz.out.there HFz.out.size HFz.out.one ?_))
      refine bodyPost_ret (results_cell2 rfl _ _ O _ _ _ _ rfl HFz.out.stored Try.underlying40 rfl HFz.out.size (.int .i64 1) rfl) rfl ?_
      exact ⟨by rw [← HOw.out]; exact HFz.out.bel, .inl ⟨by rw [HErr.out]; decide, by rw [HErr.out]⟩⟩
    · rw [decide_eq_false hz0] at hq
      have H2 : Hid (cF2 0 l 0 L = ff false) := Lib.hid (by rw [c2_of, ← HC1.out, if_neg (by rw [← HTr0.out]; exact hz0)])
      have HQ := Lib.hid (cQ_of (P1 := P1) H2.out (by rw [(c1_of l L).2.2]; exact HP1.out.symm))
      clear hz0
      go_upto_region 5 with (refine wpList_load_g (by rfl) _ _ rfl X 0 rfl DI _ HRg.out Try.underlying37 rfl HSz1.out ?_)
      clear hq HRg HSz1
      have HN := Lib.hid (cnum_r R A L C l P1 false 1 w4 HPc.out.u (by omega))
      have hcn := cu_num (cut := false) (l := l) (p := P1) (n := 1) (L := L) (by omega) HL.out HBy.out
      obtain ⟨M, hM⟩ : ∃ mz, mz = (nv (cuB false l P1 1 L)).toNat := ⟨_, rfl⟩
      have hmt : tv (cuB false l P1 1 L) = ((M : Nat) : Int) := by rw [hcn.1, hM]; omega
      have hmb : M < 16777216 := by rw [hM]; omega
      have hm0 : cuC false P1 1 L = true → M = 0 := fun hh => by rw [hM, (cu_yes hh l).2]; rfl
      have HM := Lib.hid hM
      unfold CnRet at HN
      rw [hmt, show ((1 : Nat) : Int) = 1 from rfl] at HN
      obtain ⟨P2, hPn⟩ : ∃ pz, pz = cuP false P1 1 L := ⟨_, rfl⟩
      obtain ⟨C2, hCn⟩ : ∃ pz, pz = cuC false P1 1 L := ⟨_, rfl⟩
      rw [← hPn, ← hCn] at HN
      rw [← hCn] at hm0
      have HP2 := Lib.hid hPn
      have HC2 := Lib.hid hCn
      have HM0 := Lib.hid hm0
      clear hcn hmt hPn hCn hM hm0
      go_wp2_with fail
      refine HN.out.mono ?_
      rintro e w20 ⟨rfl, hU, hg⟩
      have HPn := Lib.hid (HPc.out.grown hg hU)
      clear hU hg HN HPc
      have HPc := HPn
      clear HPn
      have hc2 := HPc.out.u.c2
      rw [← HM.out, ← HC2.out, ← HP2.out] at HQ
      cases C2 with
      | true =>
        have hz := HM0.out rfl
        have HErr : Hid (cF7 0 l 0 L = 14) := Lib.hid (cQ_st (by decide) (by rw [HQ.out, hz]; rfl))
        rw [hz]
        clear hz HM0 HQ
        go_wp2_with fail
        have HP0 := HPc
        clear HPc hc2
        go_loopw [7] (fun s wr => s = .int .i64 0 ∧ wr = w20) (fun _ _ => 0)
        case atStart => exact ⟨rfl, rfl⟩
        obtain ⟨rfl, rfl⟩ := hrel
        have HPc := HP0
        clear HP0
        have hc2 := HPc.out.u.c2
        have HN := Lib.hid (cnum_r R A L C l P2 true 2 wr HPc.out.u (by omega))
        unfold CnRet at HN
        rw [(cu_t l P2 2 L).1, (cu_t l P2 2 L).2.1, (cu_t l P2 2 L).2.2, show tv [] = 0 from rfl, show ((2 : Nat) : Int) = 2 from rfl] at HN
        go_wp2_with fail
        refine HN.out.mono ?_
        rintro e w21 ⟨rfl, hU, hg⟩
        have HPn := Lib.hid (HPc.out.grown hg hU)
        clear hU hg HN HPc
        have HPc := HPn
        clear HPn
        have hc2 := HPc.out.u.c2
        have HN := Lib.hid (cbytes_r R A L C l P2 true 0 w21 HPc.out.u (by omega))
        unfold CbRet at HN
        rw [(cu_t l P2 0 L).1, (cu_t l P2 0 L).2.1, (cu_t l P2 0 L).2.2, show ((0 : Nat) : Int) = 0 from rfl] at HN
        go_wp2_with fail
        refine HN.out.mono ?_
        rintro e w22 ⟨A', C', rfl, ho, hU, hg⟩
        clear hc2
        have cv : (convert 23 9 (.slice A' 0 C')).run Try.prog w22 = .ok (.string (sb [])) w22 := conv_own' ho
        have HPn := Lib.hid (HPc.out.grown hg hU)
        have hc : w22.cell? ⟨X, 33, none⟩ = some _ := HPn.out.x.cell (i := 33) (by omega)
        have hf : w22.frozen? ⟨X, 33, none⟩ = false := HPn.out.x.frozen _
        have HPm := Lib.hid (HPn.out.set 33 (.string (sb [])) (fun j => cmF_au _ _ _ _ _ _ j))
        clear ho hU hg HN HPc HPn
        go_upto_region 22 with (fail)
        have HPc := HPm
        clear HPm
        generalize w22.setCell ⟨X, 33, none⟩ (.string (sb [])) = w23 at *
        clear hc hf cv
        have hc2 := HPc.out.u.c2
        have HN := Lib.hid (cnum_r R A L C l P2 true 8 w23 HPc.out.u (by omega))
        unfold CnRet at HN
        rw [(cu_t l P2 8 L).1, (cu_t l P2 8 L).2.1, (cu_t l P2 8 L).2.2, show tv [] = 0 from rfl, show ((8 : Nat) : Int) = 8 from rfl] at HN
        go_wp2_with fail
        refine HN.out.mono ?_
        rintro e w24 ⟨rfl, hU, hg⟩
        have HPn := Lib.hid (HPc.out.grown hg hU)
        clear hU hg HN HPc
        have HPc := HPn
        clear HPn
        have hc2 := HPc.out.u.c2
        have hc : w24.cell? ⟨X, 34, none⟩ = some _ := HPc.out.x.cell (i := 34) (by omega)
        have hf : w24.frozen? ⟨X, 34, none⟩ = false := HPc.out.x.frozen _
        have HPm := Lib.hid (HPc.out.set 34 (.int .i64 0) (fun j => cmF_time _ _ _ _ _ _ j))
        clear HPc
        go_upto_region 23 with (fail)
        have HPc := HPm
        clear HPm hc2
        generalize w24.setCell ⟨X, 34, none⟩ (.int .i64 0) = w25 at *
        clear hc hf
        have hc2 := HPc.out.u.c2
        have HN := Lib.hid (cnum_r R A L C l P2 true 2 w25 HPc.out.u (by omega))
        unfold CnRet at HN
        rw [(cu_t l P2 2 L).1, (cu_t l P2 2 L).2.1, (cu_t l P2 2 L).2.2, show tv [] = 0 from rfl, show ((2 : Nat) : Int) = 2 from rfl] at HN
        go_wp2_with fail
        refine HN.out.mono ?_
        rintro e w26 ⟨rfl, hU, hg⟩
        have HPn := Lib.hid (HPc.out.grown hg hU)
        clear hU hg HN HPc
        have HPc := HPn
        clear HPn
        have hc2 := HPc.out.u.c2
        have HN := Lib.hid (cbytes_r R A L C l P2 true 0 w26 HPc.out.u (by omega))
        unfold CbRet at HN
        rw [(cu_t l P2 0 L).1, (cu_t l P2 0 L).2.1, (cu_t l P2 0 L).2.2, show ((0 : Nat) : Int) = 0 from rfl] at HN
        go_wp2_with fail
        refine HN.out.mono ?_
        rintro e w27 ⟨A', C', rfl, ho, hU, hg⟩
        clear hc2
        have cv : (convert 23 9 (.slice A' 0 C')).run Try.prog w27 = .ok (.string (sb [])) w27 := conv_own' ho
        have HPn := Lib.hid (HPc.out.grown hg hU)
        have hc : w27.cell? ⟨X, 35, none⟩ = some _ := HPn.out.x.cell (i := 35) (by omega)
        have hf : w27.frozen? ⟨X, 35, none⟩ = false := HPn.out.x.frozen _
        have HPm := Lib.hid (HPn.out.set 35 (.string (sb [])) (fun j => cmF_msg _ _ _ _ _ _ j))
        clear ho hU hg HN HPc HPn
        go_upto_region 27 with (fail)
        have HPc := HPm
        clear HPm
        generalize w27.setCell ⟨X, 35, none⟩ (.string (sb [])) = w28 at *
        clear hc hf cv
        have hc2 := HPc.out.u.c2
        have HFz := Lib.hid HPc.out.fin
        clear HPc
        go_wp2_with (refine wpList_store_mid rfl _ _ _ rfl O 0 cm0.toArray rfl (show _ = _ from congrArg Value.agg HZC.out.symm) HFz.out.there HFz.out.size HFz.out.one ?_)
        refine bodyPost_ret (results_cell2 rfl _ _ O _ _ _ _ rfl HFz.out.stored Try.underlying40 rfl HFz.out.size (.int .i64 14) rfl) rfl ?_
        exact ⟨by rw [← HOw.out]; exact HFz.out.bel, .inl ⟨by rw [HErr.out]; decide, by rw [HErr.out]⟩⟩
      | false =>
        by_cases h8 : 8 < M
        · have hd : decide ((8 : Int) < (M : Int)) = true := by simp; omega
          have HErr : Hid (cF7 0 l 0 L = 4) := Lib.hid (cQ_st (by decide) (by rw [HQ.out, if_pos h8]; show (pL l L M 4 P2 []).1 = 4; rw [pL_st (by decide)]))
          have HFz := Lib.hid HPc.out.fin
          clear HPc
          go_wp2_with (refine wpList_store_mid rfl _ _ _ rfl O 0 cm0.toArray rfl (show _ = _ from congrArg Value.agg HZC.out.symm) HFz.out.there HFz.out.size HFz.out.one ?_)
          refine bodyPost_ret (results_cell2 rfl _ _ O _ _ _ _ rfl HFz.out.stored Try.underlying40 rfl HFz.out.size (.int .i64 4) rfl) rfl ?_
          exact ⟨by rw [← HOw.out]; exact HFz.out.bel, .inl ⟨by rw [HErr.out]; decide, by rw [HErr.out]⟩⟩
        · have hd : decide ((8 : Int) < (M : Int)) = false := by simp; omega
          have HQ2 : Hid (pL l L (M - 0) 0 P2 [] = cQ 0 l 0 L) := Lib.hid (by rw [HQ.out, if_neg h8]; rfl)
          have hM8 : M ≤ 8 := by omega
          have HP0 := HPc
          clear HPc HQ h8 H2 HM0
          go_wp2_with fail
          clear hc2
          go_loopw [7] (fun s wr => ∃ (k P : Nat) (Ai : Option Addr) (Ci : Nat) (ids : List (List Int)), s = .int .i64 k ∧ k ≤ M ∧ Hid (pL l L (M - k) 0 P ids = cQ 0 l 0 L) ∧ Hid (ids.length = k) ∧ Hid (∀ x ∈ ids, x.length = 32) ∧ Hid (Pc w wr O R X A L C l P false ZC tr Ai k Ci ids ByteArray.empty 0 ByteArray.empty)) (fun s _ => M - (intOf s).toNat)
          case atStart => exact ⟨0, P2, none, 0, [], rfl, Nat.zero_le _, HQ2, Lib.hid rfl, Lib.hid (by simp), HP0⟩
          case round =>
            clear HP0 HQ2
            obtain ⟨k, P, Ai, Ci, ids, rfl, hk, HQ, HIl, HI32, HPc⟩ := hrel
            have hc2 := HPc.out.u.c2
            by_cases hlt : k < M
            · have hkm : (k : Int) < (M : Int) := by omega
              have hkm2 : k < M := hlt
              have hqs := HQ.out
              obtain ⟨j, hj⟩ : ∃ j, M - k = j + 1 := ⟨M - k - 1, by omega⟩
              rw [hj, pL, if_pos rfl] at hqs
              have t1 : tkF 0 P L 32 = ff (cuC false P 32 L) := tkF_ff false P 32 L
              have t2 : tkA 0 P L 32 = cuP false P 32 L := tkA_ff false P 32 L
              have t3 : tkL 0 l P L 32 = cuB false l P 32 L := tkL_ff false l P 32 L
              rw [t1, t2, t3] at hqs
              clear t1 t2 t3
              have HIr := Lib.hid (cid_r R A L C l P false wr HPc.out.u)
              unfold CiRet at HIr
              have hil : (idv (cuB false l P 32 L)).length = 32 := idv_len _ (cuB_len _ _ _ _ _)
              obtain ⟨p, hp⟩ : ∃ ids, ids = idv (cuB false l P 32 L) := ⟨_, rfl⟩
              obtain ⟨P3, hP3⟩ : ∃ P3, P3 = cuP false P 32 L := ⟨_, rfl⟩
              obtain ⟨C3, hC3⟩ : ∃ C3, C3 = cuC false P 32 L := ⟨_, rfl⟩
              rw [← hp] at HIr hil hqs
              rw [← hP3, ← hC3] at HIr hqs
              have HQs := Lib.hid hqs
              have Hil := Lib.hid hil
              clear hp hP3 hC3 hqs HQ hil
              go_wp2_with fail
              refine HIr.out.mono ?_
              rintro e wa ⟨rfl, hU, hg⟩
              have HPa := Lib.hid (HPc.out.grown hg hU)
              clear hU hg HIr HPc hc2
              have hYr := row_new wa (bv (List.replicate 32 0)).toArray 37
              have hZs : (bv (List.replicate 32 0)).toArray.size = 32 := by simp [bv]
              rw [hZs] at hYr
              have hz32 := zero32
              have HTh : Hid ((wa.alloc (.cells (bv (List.replicate 32 0)).toArray 37)).there wa.heap.size 0 (bv p).toArray.size) := Lib.hid (fun j hj => by
                rw [List.size_toArray, bv_len, Hil.out] at hj
                rw [Nat.zero_add]
                exact ⟨by rw [hYr.cell hj]; rfl, hYr.frozen _⟩)
              have HSzp2 : Hid ((Try.prog.info? 37).map (·.size) = some (bv p).toArray.size) := Lib.hid (by rw [List.size_toArray, bv_len, Hil.out]; kernel_rfl)
              have HSzp : Hid ((Try.prog.info? 37).map (·.size) = some (bv p).length) := Lib.hid (by rw [bv_len, Hil.out]; kernel_rfl)
              have HOnp := Lib.hid (all_oneCell_toArray (bv_one p))
              have HRgp : Hid (((wa.alloc (.cells (bv (List.replicate 32 0)).toArray 37)).setCells wa.heap.size 0 (bv p)).rangeAt wa.heap.size 0 (bv p)) := Lib.hid (World.rangeAt_setCells_same _ _ _ _ (by have := HTh.out; rwa [List.size_toArray] at this))
              have HPb := Lib.hid (HPa.out.cells (.cells (bv (List.replicate 32 0)).toArray 37) (bv p))
              clear hYr hZs HPa
              generalize hZI : (bv (List.replicate 32 0)).toArray = ZI at *
              have HZI := Lib.hid hZI
              clear hZI
              generalize hDP : bv p = DP at *
              have HDP := Lib.hid hDP
              clear hDP
              have hqp : ∀ W, (Op.equalIn 10000 37 (.agg DP.toArray) (.agg ZI)).run Try.prog W = .ok (decide (p = List.replicate 32 0)) W := fun W => by rw [← HZI.out, ← HDP.out]; exact ids_none p Hil.out W
              go_upto_region 12 with (refine wpList_store_mid rfl _ _ _ rfl wa.heap.size 0 DP.toArray rfl rfl HTh.out HSzp2.out HOnp.out ?_)
              change Code.wp _ _ _ _ ((wa.alloc (.cells ZI 37)).setCells wa.heap.size 0 DP)
              clear HTh HSzp2 HOnp
              have hYl : wa.heap.size < ((wa.alloc (.cells ZI 37)).setCells wa.heap.size 0 DP).heap.size := HRgp.out.lt_of (by rw [← HDP.out, bv_len, Hil.out]; decide)
              generalize (wa.alloc (.cells ZI 37)).setCells wa.heap.size 0 DP = wb at *
              generalize wa.heap.size = Y at *
              have HPc := HPb
              clear HPb
              have hc2 := HPc.out.u.c2
              cases C3 with
              | true =>
                have hcq : cQ 0 l 0 L = (14, P3, ids ++ [p]) := by
                  rw [← HQs.out]
                  show pL l L j (fl 14 _) P3 _ = _
                  rw [fl_14, pL_st (by decide)]
                have HErr : Hid (cF7 0 l 0 L = 14) := Lib.hid (cQ_st (by decide) (by rw [hcq]))
                clear hcq hqp
                go_wp2_with fail
                have hc2 := HPc.out.u.c2
                have HN := Lib.hid (cnum_r R A L C l P3 true 2 wb HPc.out.u (by omega))
                unfold CnRet at HN
                rw [(cu_t l P3 2 L).1, (cu_t l P3 2 L).2.1, (cu_t l P3 2 L).2.2, show tv [] = 0 from rfl, show ((2 : Nat) : Int) = 2 from rfl] at HN
                go_wp2_with fail
                refine HN.out.mono ?_
                rintro e w29 ⟨rfl, hU, hg⟩
                have HPn := Lib.hid (HPc.out.grown hg hU)
                clear hU hg HN HPc
                have HPc := HPn
                clear HPn
                have hc2 := HPc.out.u.c2
                have HN := Lib.hid (cbytes_r R A L C l P3 true 0 w29 HPc.out.u (by omega))
                unfold CbRet at HN
                rw [(cu_t l P3 0 L).1, (cu_t l P3 0 L).2.1, (cu_t l P3 0 L).2.2, show ((0 : Nat) : Int) = 0 from rfl] at HN
                go_wp2_with fail
                refine HN.out.mono ?_
                rintro e w30 ⟨A', C', rfl, ho, hU, hg⟩
                clear hc2
                have cv : (convert 23 9 (.slice A' 0 C')).run Try.prog w30 = .ok (.string (sb [])) w30 := conv_own' ho
                have HPn := Lib.hid (HPc.out.grown hg hU)
                have hc : w30.cell? ⟨X, 33, none⟩ = some _ := HPn.out.x.cell (i := 33) (by omega)
                have hf : w30.frozen? ⟨X, 33, none⟩ = false := HPn.out.x.frozen _
                have HPm := Lib.hid (HPn.out.set 33 (.string (sb [])) (fun j => cmF_au _ _ _ _ _ _ j))
                clear ho hU hg HN HPc HPn
                go_upto_region 22 with (fail)
                have HPc := HPm
                clear HPm
                generalize w30.setCell ⟨X, 33, none⟩ (.string (sb [])) = w31 at *
                clear hc hf cv
                have hc2 := HPc.out.u.c2
                have HN := Lib.hid (cnum_r R A L C l P3 true 8 w31 HPc.out.u (by omega))
                unfold CnRet at HN
                rw [(cu_t l P3 8 L).1, (cu_t l P3 8 L).2.1, (cu_t l P3 8 L).2.2, show tv [] = 0 from rfl, show ((8 : Nat) : Int) = 8 from rfl] at HN
                go_wp2_with fail
                refine HN.out.mono ?_
                rintro e w32 ⟨rfl, hU, hg⟩
                have HPn := Lib.hid (HPc.out.grown hg hU)
                clear hU hg HN HPc
                have HPc := HPn
                clear HPn
                have hc2 := HPc.out.u.c2
                have hc : w32.cell? ⟨X, 34, none⟩ = some _ := HPc.out.x.cell (i := 34) (by omega)
                have hf : w32.frozen? ⟨X, 34, none⟩ = false := HPc.out.x.frozen _
                have HPm := Lib.hid (HPc.out.set 34 (.int .i64 0) (fun j => cmF_time _ _ _ _ _ _ j))
                clear HPc
                go_upto_region 23 with (fail)
                have HPc := HPm
                clear HPm hc2
                generalize w32.setCell ⟨X, 34, none⟩ (.int .i64 0) = w33 at *
                clear hc hf
                have hc2 := HPc.out.u.c2
                have HN := Lib.hid (cnum_r R A L C l P3 true 2 w33 HPc.out.u (by omega))
                unfold CnRet at HN
                rw [(cu_t l P3 2 L).1, (cu_t l P3 2 L).2.1, (cu_t l P3 2 L).2.2, show tv [] = 0 from rfl, show ((2 : Nat) : Int) = 2 from rfl] at HN
                go_wp2_with fail
                refine HN.out.mono ?_
                rintro e w34 ⟨rfl, hU, hg⟩
                have HPn := Lib.hid (HPc.out.grown hg hU)
                clear hU hg HN HPc
                have HPc := HPn
                clear HPn
                have hc2 := HPc.out.u.c2
                have HN := Lib.hid (cbytes_r R A L C l P3 true 0 w34 HPc.out.u (by omega))
                unfold CbRet at HN
                rw [(cu_t l P3 0 L).1, (cu_t l P3 0 L).2.1, (cu_t l P3 0 L).2.2, show ((0 : Nat) : Int) = 0 from rfl] at HN
                go_wp2_with fail
                refine HN.out.mono ?_
                rintro e w35 ⟨A', C', rfl, ho, hU, hg⟩
                clear hc2
                have cv : (convert 23 9 (.slice A' 0 C')).run Try.prog w35 = .ok (.string (sb [])) w35 := conv_own' ho
                have HPn := Lib.hid (HPc.out.grown hg hU)
                have hc : w35.cell? ⟨X, 35, none⟩ = some _ := HPn.out.x.cell (i := 35) (by omega)
                have hf : w35.frozen? ⟨X, 35, none⟩ = false := HPn.out.x.frozen _
                have HPm := Lib.hid (HPn.out.set 35 (.string (sb [])) (fun j => cmF_msg _ _ _ _ _ _ j))
                clear ho hU hg HN HPc HPn
                go_upto_region 27 with (fail)
                have HPc := HPm
                clear HPm
                generalize w35.setCell ⟨X, 35, none⟩ (.string (sb [])) = w36 at *
                clear hc hf cv
                have hc2 := HPc.out.u.c2
                have HFz := Lib.hid HPc.out.fin
                clear HPc
                go_wp2_with (refine wpList_store_mid rfl _ _ _ rfl O 0 cm0.toArray rfl (show _ = _ from congrArg Value.agg HZC.out.symm) HFz.out.there HFz.out.size HFz.out.one ?_)
                refine bodyPost_ret (results_cell2 rfl _ _ O _ _ _ _ rfl HFz.out.stored Try.underlying40 rfl HFz.out.size (.int .i64 14) rfl) rfl ?_
                exact ⟨by rw [← HOw.out]; exact HFz.out.bel, .inl ⟨by rw [HErr.out]; decide, by rw [HErr.out]⟩⟩
              | false =>
                by_cases hz0 : p = List.replicate 32 0
                · rw [decide_eq_true hz0] at hqp
                  have HErr : Hid (cF7 0 l 0 L = 1) := Lib.hid (cQ_st (f := 1) (by decide) (by
                    rw [← HQs.out]
                    show (pL l L j (fl 0 (cp p ids)) P3 _).1 = 1
                    rw [fl_0, show cp p ids = 1 from by unfold cp; rw [if_pos hz0], pL_st (by decide)]))
                  clear hz0
                  have HFz := Lib.hid HPc.out.fin
                  clear HPc
                  go_wp2_with (first
                    | (refine wpList_load_mid rfl _ _ rfl Y 0 rfl DP _ HRgp.out Try.underlying37 rfl HSzp.out ?_)
                    | (refine wpList_store_mid rfl _ _ _ rfl O 0 cm0.toArray rfl (show _ = _ from congrArg Value.agg HZC.out.symm) HFz.out.there HFz.out.size HFz.out.one ?_))
                  refine bodyPost_ret (results_cell2 rfl _ _ O _ _ _ _ rfl HFz.out.stored Try.underlying40 rfl HFz.out.size (.int .i64 1) rfl) rfl ?_
                  exact ⟨by rw [← HOw.out]; exact HFz.out.bel, .inl ⟨by rw [HErr.out]; decide, by rw [HErr.out]⟩⟩
                · rw [decide_eq_false hz0] at hqp
                  have HRi := Lib.hid (rdids_of_own HPc.out.own HI32.out (by omega) HIl.out)
                  have HHs := Lib.hid (has_any Ai k Ci ids p Hil.out wb HRi.out)
                  rw [HDP.out] at HHs
                  have hcx : wb.cell? ⟨X, 32, none⟩ = some (.slice Ai k Ci) := HPc.out.x.cell (i := 32) (by omega)
                  by_cases hin : p ∈ ids
                  · rw [decide_eq_true hin] at HHs
                    have HErr : Hid (cF7 0 l 0 L = 18) := Lib.hid (cQ_st (f := 18) (by decide) (by
                      rw [← HQs.out]
                      show (pL l L j (fl 0 (cp p ids)) P3 _).1 = 18
                      rw [fl_0, show cp p ids = 18 from by unfold cp; rw [if_neg hz0, if_pos hin], pL_st (by decide)]))
                    clear hz0 hin
                    go_wp2_with (refine wpList_load_mid rfl _ _ rfl Y 0 rfl DP _ HRgp.out Try.underlying37 rfl HSzp.out ?_)
                    refine HHs.out.mono ?_
                    rintro e wc ⟨rfl, hb⟩
                    have HFz := Lib.hid (HPc.out.below hb).fin
                    clear HPc hb HHs HRi hcx
                    go_wp2_with (refine wpList_store_mid rfl _ _ _ rfl O 0 cm0.toArray rfl (show _ = _ from congrArg Value.agg HZC.out.symm) HFz.out.there HFz.out.size HFz.out.one ?_)
                    refine bodyPost_ret (results_cell2 rfl _ _ O _ _ _ _ rfl HFz.out.stored Try.underlying40 rfl HFz.out.size (.int .i64 18) rfl) rfl ?_
                    exact ⟨by rw [← HOw.out]; exact HFz.out.bel, .inl ⟨by rw [HErr.out]; decide, by rw [HErr.out]⟩⟩
                  · rw [decide_eq_false hin] at HHs
                    have HQn : Hid (pL l L (M - (k + 1)) 0 P3 (ids ++ [p]) = cQ 0 l 0 L) := Lib.hid (by
                      rw [← HQs.out, show M - (k + 1) = j by omega]
                      show _ = pL l L j (fl 0 (cp p ids)) P3 _
                      rw [fl_0, show cp p ids = 0 from by unfold cp; rw [if_neg hz0, if_neg hin]])
                    clear hz0 hin
                    go_wp2_with (refine wpList_load_mid rfl _ _ rfl Y 0 rfl DP _ HRgp.out Try.underlying37 rfl HSzp.out ?_)
                    refine HHs.out.mono ?_
                    rintro e wc ⟨rfl, hb⟩
                    have HPd := Lib.hid (HPc.out.below hb)
                    have HRg2 := Lib.hid (range_below hb HRgp.out hYl)
                    have hYc : Y < wc.heap.size := Nat.lt_of_lt_of_le hYl hb.size
                    have hcd : wc.cell? ⟨X, 32, none⟩ = some (.slice Ai k Ci) := HPd.out.x.cell (i := 32) (by omega)
                    clear HPc hb HHs HRi hcx HRgp hqp hc2
                    have hXc : X < wc.heap.size := HPd.out.x.lt
                    have hb9 := (Below.refl wc.heap.size wc).alloc (Nat.le_refl _) (.cells DP.toArray 37)
                    have HPe := Lib.hid (HPd.out.below hb9)
                    have HNew : Hid (∀ j u, (bv p)[j]? = some u → (wc.alloc (.cells DP.toArray 37)).cell? ((⟨wc.heap.size, 0, none⟩ : Addr).add j) = some u) := Lib.hid (by rw [← HDP.out]; exact new_id wc p _)
                    have hse : X + 1 ≤ (wc.alloc (.cells DP.toArray 37)).heap.size := by have := al_lt wc (.cells DP.toArray 37); omega
                    have HDl : Hid (DP.length = 32) := Lib.hid (by rw [← HDP.out, bv_len, Hil.out])
                    have hce : (wc.alloc (.cells DP.toArray 37)).cell? ⟨X, 32, none⟩ = some (.slice Ai k Ci) := HPe.out.x.cell (i := 32) (by omega)
                    clear hb9
                    go_wp2_with (first
                      | (refine wpList_load_mid rfl _ _ rfl Y 0 rfl DP _ HRg2.out Try.underlying37 rfl HSzp.out ?_)
                      | (refine wpList_build_id _ rfl _ rfl DP rfl HDl.out ?_)
                      | (refine wpList_append_id _ rfl _ _ rfl (X + 1) _ k ids rfl HPe.out.own wc.heap.size p rfl HNew.out (by rw [HDP.out, HDl.out]) (by omega) hse ?_))
                    intro A' C' wd ho hg
                    have HPf := Lib.hid (HPe.out.append hg ho hse)
                    have hbd := (Below.refl (X + 1) (wc.alloc (.cells DP.toArray 37))).grown hg hse (fun q hq => (HPe.out.own.lt q hq).1)
                    have hcf : wd.cell? ⟨X, 32, none⟩ = some (.slice Ai k Ci) := (hbd.cell (p := ⟨X, 32, none⟩) (Nat.lt_succ_self X)).trans hce
                    have hff : wd.frozen? ⟨X, 32, none⟩ = false := (HPe.out.x.of_block (hbd.block X (Nat.lt_succ_self X))).frozen _
                    clear ho hg hbd HPd HPe HNew HRg2 hcd hce
                    go_wp2_with fail
                    go_roundw
                    case rel => exact ⟨k + 1, P3, A', C', ids ++ [p], by go_num, by omega, HQn, Lib.hid (by rw [List.length_append, HIl.out]; rfl), Lib.hid (fun x hx => by
                      rcases List.mem_append.1 hx with hx | hx
                      · exact HI32.out x hx
                      · rw [List.mem_singleton.1 hx]; exact Hil.out), HPf⟩
                    case measure => simp [intOf]; omega
            · have ek : k = M := by omega
              have hd2 : decide ((k : Int) < (M : Int)) = false := by simp; omega
              have hd3 : ¬ k < M := hlt
              have hcq : cQ 0 l 0 L = (0, P, ids) := by rw [← HQ.out, ek, Nat.sub_self]; rfl
              have HQ1 : Hid ((cQ 0 l 0 L).1 = ff false) := Lib.hid (by rw [hcq]; rfl)
              have HQ2 : Hid ((cQ 0 l 0 L).2.1 = P) := Lib.hid (by rw [hcq])
              have HQ3 : Hid ((cQ 0 l 0 L).2.2 = ids) := Lib.hid (by rw [hcq])
              clear hcq HQ ek
              go_wp2_with fail
              have HN := Lib.hid (cnum_r R A L C l P false 2 wr HPc.out.u (by omega))
              have hcn := cu_num (cut := false) (l := l) (p := P) (n := 2) (L := L) (by omega) HL.out HBy.out
              obtain ⟨M2, hM2⟩ : ∃ mz, mz = (nv (cuB false l P 2 L)).toNat := ⟨_, rfl⟩
              have hmt : tv (cuB false l P 2 L) = ((M2 : Nat) : Int) := by rw [hcn.1, hM2]; omega
              have hmb : M2 < 16777216 := by rw [hM2]; omega
              have hm0 : cuC false P 2 L = true → M2 = 0 := fun hh => by rw [hM2, (cu_yes hh l).2]; rfl
              have HM2 := Lib.hid hM2
              unfold CnRet at HN
              rw [hmt, show ((2 : Nat) : Int) = 2 from rfl] at HN
              obtain ⟨P4, hPn⟩ : ∃ pz, pz = cuP false P 2 L := ⟨_, rfl⟩
              obtain ⟨C4, hCn⟩ : ∃ pz, pz = cuC false P 2 L := ⟨_, rfl⟩
              rw [← hPn, ← hCn] at HN
              rw [← hCn] at hm0
              have HP4 := Lib.hid hPn
              have HC4 := Lib.hid hCn
              have HM0 := Lib.hid hm0
              clear hcn hmt hPn hCn hM2 hm0
              go_wp2_with fail
              refine HN.out.mono ?_
              rintro e w37 ⟨rfl, hU, hg⟩
              have HPn := Lib.hid (HPc.out.grown hg hU)
              clear hU hg HN HPc
              have HPc := HPn
              clear HPn
              have hc2 := HPc.out.u.c2
              cases C4 with
              | true =>
                have hz := HM0.out rfl
                have ht : tx2 (ff false) l P L 2 1000 = ff true := by rw [tx_of, ← HM2.out, hz, if_neg (by decide), ← HC4.out]
                have HErr : Hid (cF7 0 l 0 L = 14) := Lib.hid (ca_st (by decide) (by rw [HQ1.out, HQ2.out]; exact ht))
                rw [hz]
                clear hz ht HM0
                have hc2 := HPc.out.u.c2
                have HN := Lib.hid (cbytes_r R A L C l P4 true 0 w37 HPc.out.u (by omega))
                unfold CbRet at HN
                rw [(cu_t l P4 0 L).1, (cu_t l P4 0 L).2.1, (cu_t l P4 0 L).2.2, show ((0 : Nat) : Int) = 0 from rfl] at HN
                go_wp2_with fail
                refine HN.out.mono ?_
                rintro e w38 ⟨A', C', rfl, ho, hU, hg⟩
                clear hc2
                have cv : (convert 23 9 (.slice A' 0 C')).run Try.prog w38 = .ok (.string (sb [])) w38 := conv_own' ho
                have HPn := Lib.hid (HPc.out.grown hg hU)
                have hc : w38.cell? ⟨X, 33, none⟩ = some _ := HPn.out.x.cell (i := 33) (by omega)
                have hf : w38.frozen? ⟨X, 33, none⟩ = false := HPn.out.x.frozen _
                have HPm := Lib.hid (HPn.out.set 33 (.string (sb [])) (fun j => cmF_au _ _ _ _ _ _ j))
                clear ho hU hg HN HPc HPn
                go_upto_region 22 with (fail)
                have HPc := HPm
                clear HPm
                generalize w38.setCell ⟨X, 33, none⟩ (.string (sb [])) = w39 at *
                clear hc hf cv
                have hc2 := HPc.out.u.c2
                have HN := Lib.hid (cnum_r R A L C l P4 true 8 w39 HPc.out.u (by omega))
                unfold CnRet at HN
                rw [(cu_t l P4 8 L).1, (cu_t l P4 8 L).2.1, (cu_t l P4 8 L).2.2, show tv [] = 0 from rfl, show ((8 : Nat) : Int) = 8 from rfl] at HN
                go_wp2_with fail
                refine HN.out.mono ?_
                rintro e w40 ⟨rfl, hU, hg⟩
                have HPn := Lib.hid (HPc.out.grown hg hU)
                clear hU hg HN HPc
                have HPc := HPn
                clear HPn
                have hc2 := HPc.out.u.c2
                have hc : w40.cell? ⟨X, 34, none⟩ = some _ := HPc.out.x.cell (i := 34) (by omega)
                have hf : w40.frozen? ⟨X, 34, none⟩ = false := HPc.out.x.frozen _
                have HPm := Lib.hid (HPc.out.set 34 (.int .i64 0) (fun j => cmF_time _ _ _ _ _ _ j))
                clear HPc
                go_upto_region 23 with (fail)
                have HPc := HPm
                clear HPm hc2
                generalize w40.setCell ⟨X, 34, none⟩ (.int .i64 0) = w41 at *
                clear hc hf
                have hc2 := HPc.out.u.c2
                have HN := Lib.hid (cnum_r R A L C l P4 true 2 w41 HPc.out.u (by omega))
                unfold CnRet at HN
                rw [(cu_t l P4 2 L).1, (cu_t l P4 2 L).2.1, (cu_t l P4 2 L).2.2, show tv [] = 0 from rfl, show ((2 : Nat) : Int) = 2 from rfl] at HN
                go_wp2_with fail
                refine HN.out.mono ?_
                rintro e w42 ⟨rfl, hU, hg⟩
                have HPn := Lib.hid (HPc.out.grown hg hU)
                clear hU hg HN HPc
                have HPc := HPn
                clear HPn
                have hc2 := HPc.out.u.c2
                have HN := Lib.hid (cbytes_r R A L C l P4 true 0 w42 HPc.out.u (by omega))
                unfold CbRet at HN
                rw [(cu_t l P4 0 L).1, (cu_t l P4 0 L).2.1, (cu_t l P4 0 L).2.2, show ((0 : Nat) : Int) = 0 from rfl] at HN
                go_wp2_with fail
                refine HN.out.mono ?_
                rintro e w43 ⟨A', C', rfl, ho, hU, hg⟩
                clear hc2
                have cv : (convert 23 9 (.slice A' 0 C')).run Try.prog w43 = .ok (.string (sb [])) w43 := conv_own' ho
                have HPn := Lib.hid (HPc.out.grown hg hU)
                have hc : w43.cell? ⟨X, 35, none⟩ = some _ := HPn.out.x.cell (i := 35) (by omega)
                have hf : w43.frozen? ⟨X, 35, none⟩ = false := HPn.out.x.frozen _
                have HPm := Lib.hid (HPn.out.set 35 (.string (sb [])) (fun j => cmF_msg _ _ _ _ _ _ j))
                clear ho hU hg HN HPc HPn
                go_upto_region 27 with (fail)
                have HPc := HPm
                clear HPm
                generalize w43.setCell ⟨X, 35, none⟩ (.string (sb [])) = w44 at *
                clear hc hf cv
                have hc2 := HPc.out.u.c2
                have HFz := Lib.hid HPc.out.fin
                clear HPc
                go_wp2_with (refine wpList_store_mid rfl _ _ _ rfl O 0 cm0.toArray rfl (show _ = _ from congrArg Value.agg HZC.out.symm) HFz.out.there HFz.out.size HFz.out.one ?_)
                refine bodyPost_ret (results_cell2 rfl _ _ O _ _ _ _ rfl HFz.out.stored Try.underlying40 rfl HFz.out.size (.int .i64 14) rfl) rfl ?_
                exact ⟨by rw [← HOw.out]; exact HFz.out.bel, .inl ⟨by rw [HErr.out]; decide, by rw [HErr.out]⟩⟩
              | false =>
                by_cases h1000 : 1000 < M2
                · have hd : decide ((1000 : Int) < (M2 : Int)) = true := by simp; omega
                  have HErr : Hid (cF7 0 l 0 L = 5) := Lib.hid (ca_st (by decide) (by rw [HQ1.out, HQ2.out]; show tx2 (ff false) l P L 2 1000 = 5; rw [tx_of, ← HM2.out, if_pos h1000, ← HC4.out]; rfl))
                  have HFz := Lib.hid HPc.out.fin
                  clear HPc
                  go_wp2_with (refine wpList_store_mid rfl _ _ _ rfl O 0 cm0.toArray rfl (show _ = _ from congrArg Value.agg HZC.out.symm) HFz.out.there HFz.out.size HFz.out.one ?_)
                  refine bodyPost_ret (results_cell2 rfl _ _ O _ _ _ _ rfl HFz.out.stored Try.underlying40 rfl HFz.out.size (.int .i64 5) rfl) rfl ?_
                  exact ⟨by rw [← HOw.out]; exact HFz.out.bel, .inl ⟨by rw [HErr.out]; decide, by rw [HErr.out]⟩⟩
                · have hd : decide ((1000 : Int) < (M2 : Int)) = false := by simp; omega
                  have Ht : Hid (tx2 (ff false) l P L 2 1000 = ff false) := Lib.hid (by rw [tx_of, ← HM2.out, if_neg h1000, ← HC4.out])
                  have h4 := c4_of (l := l) (L := L) (P3 := P) (C3 := false) (C4 := false) HQ1.out HQ2.out Ht.out
                  rw [← HM2.out, ← HP4.out] at h4
                  have H4 := Lib.hid h4
                  clear h4 h1000
                  have HN := Lib.hid (cbytes_r R A L C l P4 false M2 w37 HPc.out.u (by omega))
                  have HLn := Lib.hid (cuB_len false l P4 M2 L)
                  obtain ⟨T5, hT⟩ : ∃ tz, tz = cuB false l P4 M2 L := ⟨_, rfl⟩
                  obtain ⟨P5, hPn⟩ : ∃ pz, pz = cuP false P4 M2 L := ⟨_, rfl⟩
                  obtain ⟨C5, hCn⟩ : ∃ pz, pz = cuC false P4 M2 L := ⟨_, rfl⟩
                  unfold CbRet at HN
                  rw [← hT, ← hPn, ← hCn] at HN
                  have HT5 := Lib.hid hT
                  have HP5 := Lib.hid hPn
                  have HC5 := Lib.hid hCn
                  clear hT hPn hCn
                  go_wp2_with fail
                  refine HN.out.mono ?_
                  rintro e w45 ⟨A', C', rfl, ho, hU, hg⟩
                  clear hc2
                  have cv := conv_own' ho
                  have HPn := Lib.hid (HPc.out.grown hg hU)
                  have hc : w45.cell? ⟨X, 33, none⟩ = some _ := HPn.out.x.cell (i := 33) (by omega)
                  have hf : w45.frozen? ⟨X, 33, none⟩ = false := HPn.out.x.frozen _
                  have HPm := Lib.hid (HPn.out.set 33 (.string (sb T5)) (fun j => cmF_au _ _ _ _ _ _ j))
                  clear ho hU hg HN HPc HPn
                  go_upto_region 22 with (fail)
                  have HPc := HPm
                  clear HPm
                  generalize w45.setCell ⟨X, 33, none⟩ (.string (sb T5)) = w46 at *
                  clear hc hf cv
                  have hc2 := HPc.out.u.c2
                  have H4' : Hid (cAu 0 l 0 L = sb T5 ∧ cA4 0 l 0 L = P5 ∧ cF4 0 l 0 L = ff C5) := Lib.hid ⟨by rw [H4.out.1, HT5.out], by rw [H4.out.2.1, HP5.out], by rw [H4.out.2.2, HC5.out]⟩
                  cases C5 with
                  | true =>
                    have HErr : Hid (cF7 0 l 0 L = 14) := Lib.hid (c4_st (by decide) H4'.out.2.2)
                    have hc2 := HPc.out.u.c2
                    have HN := Lib.hid (cnum_r R A L C l P5 true 8 w46 HPc.out.u (by omega))
                    unfold CnRet at HN
                    rw [(cu_t l P5 8 L).1, (cu_t l P5 8 L).2.1, (cu_t l P5 8 L).2.2, show tv [] = 0 from rfl, show ((8 : Nat) : Int) = 8 from rfl] at HN
                    go_wp2_with fail
                    refine HN.out.mono ?_
                    rintro e w47 ⟨rfl, hU, hg⟩
                    have HPn := Lib.hid (HPc.out.grown hg hU)
                    clear hU hg HN HPc
                    have HPc := HPn
                    clear HPn
                    have hc2 := HPc.out.u.c2
                    have hc : w47.cell? ⟨X, 34, none⟩ = some _ := HPc.out.x.cell (i := 34) (by omega)
                    have hf : w47.frozen? ⟨X, 34, none⟩ = false := HPc.out.x.frozen _
                    have HPm := Lib.hid (HPc.out.set 34 (.int .i64 0) (fun j => cmF_time _ _ _ _ _ _ j))
                    clear HPc
                    go_upto_region 23 with (fail)
                    have HPc := HPm
                    clear HPm hc2
                    generalize w47.setCell ⟨X, 34, none⟩ (.int .i64 0) = w48 at *
                    clear hc hf
                    have hc2 := HPc.out.u.c2
                    have HN := Lib.hid (cnum_r R A L C l P5 true 2 w48 HPc.out.u (by omega))
                    unfold CnRet at HN
                    rw [(cu_t l P5 2 L).1, (cu_t l P5 2 L).2.1, (cu_t l P5 2 L).2.2, show tv [] = 0 from rfl, show ((2 : Nat) : Int) = 2 from rfl] at HN
                    go_wp2_with fail
                    refine HN.out.mono ?_
                    rintro e w49 ⟨rfl, hU, hg⟩
                    have HPn := Lib.hid (HPc.out.grown hg hU)
                    clear hU hg HN HPc
                    have HPc := HPn
                    clear HPn
                    have hc2 := HPc.out.u.c2
                    have HN := Lib.hid (cbytes_r R A L C l P5 true 0 w49 HPc.out.u (by omega))
                    unfold CbRet at HN
                    rw [(cu_t l P5 0 L).1, (cu_t l P5 0 L).2.1, (cu_t l P5 0 L).2.2, show ((0 : Nat) : Int) = 0 from rfl] at HN
                    go_wp2_with fail
                    refine HN.out.mono ?_
                    rintro e w50 ⟨A', C', rfl, ho, hU, hg⟩
                    clear hc2
                    have cv : (convert 23 9 (.slice A' 0 C')).run Try.prog w50 = .ok (.string (sb [])) w50 := conv_own' ho
                    have HPn := Lib.hid (HPc.out.grown hg hU)
                    have hc : w50.cell? ⟨X, 35, none⟩ = some _ := HPn.out.x.cell (i := 35) (by omega)
                    have hf : w50.frozen? ⟨X, 35, none⟩ = false := HPn.out.x.frozen _
                    have HPm := Lib.hid (HPn.out.set 35 (.string (sb [])) (fun j => cmF_msg _ _ _ _ _ _ j))
                    clear ho hU hg HN HPc HPn
                    go_upto_region 27 with (fail)
                    have HPc := HPm
                    clear HPm
                    generalize w50.setCell ⟨X, 35, none⟩ (.string (sb [])) = w51 at *
                    clear hc hf cv
                    have hc2 := HPc.out.u.c2
                    have HFz := Lib.hid HPc.out.fin
                    clear HPc
                    go_wp2_with (refine wpList_store_mid rfl _ _ _ rfl O 0 cm0.toArray rfl (show _ = _ from congrArg Value.agg HZC.out.symm) HFz.out.there HFz.out.size HFz.out.one ?_)
                    refine bodyPost_ret (results_cell2 rfl _ _ O _ _ _ _ rfl HFz.out.stored Try.underlying40 rfl HFz.out.size (.int .i64 14) rfl) rfl ?_
                    exact ⟨by rw [← HOw.out]; exact HFz.out.bel, .inl ⟨by rw [HErr.out]; decide, by rw [HErr.out]⟩⟩
                  | false =>
                    have HN := Lib.hid (cnum_r R A L C l P5 false 8 w46 HPc.out.u (by omega))
                    obtain ⟨T6, hT⟩ : ∃ tz, tz = cuB false l P5 8 L := ⟨_, rfl⟩
                    obtain ⟨P6, hPn⟩ : ∃ pz, pz = cuP false P5 8 L := ⟨_, rfl⟩
                    obtain ⟨C6, hCn⟩ : ∃ pz, pz = cuC false P5 8 L := ⟨_, rfl⟩
                    unfold CnRet at HN
                    rw [← hT, ← hPn, ← hCn, show ((8 : Nat) : Int) = 8 from rfl] at HN
                    have h5 := c5_of (l := l) (L := L) (P5 := P5) (C5 := false) H4'.out.2.2 H4'.out.2.1
                    rw [← hT, ← hPn, ← hCn] at h5
                    have H5 := Lib.hid h5
                    clear hT hPn hCn hc2 h5
                    go_wp2_with fail
                    refine HN.out.mono ?_
                    rintro e w52 ⟨rfl, hU, hg⟩
                    have HPn := Lib.hid (HPc.out.grown hg hU)
                    have hc : w52.cell? ⟨X, 34, none⟩ = some _ := HPn.out.x.cell (i := 34) (by omega)
                    have hf : w52.frozen? ⟨X, 34, none⟩ = false := HPn.out.x.frozen _
                    have HPm := Lib.hid (HPn.out.set 34 (.int .i64 (tv T6)) (fun j => cmF_time _ _ _ _ _ _ j))
                    clear hU hg HN HPc HPn
                    have HTM : Hid (tv (cB 0 l 0 L) = tv T6) := Lib.hid (by rw [H5.out.1])
                    generalize tv T6 = TM at *
                    go_upto_region 23 with (fail)
                    have HPc := HPm
                    clear HPm
                    generalize w52.setCell ⟨X, 34, none⟩ (.int .i64 TM) = w53 at *
                    clear hc hf
                    have hc2 := HPc.out.u.c2
                    cases C6 with
                    | true =>
                      have HErr : Hid (cF7 0 l 0 L = 14) := Lib.hid (cm_st (by decide) (by rw [H5.out.2.2, tx2_st (by decide)]; rfl))
                      have hc2 := HPc.out.u.c2
                      have HN := Lib.hid (cnum_r R A L C l P6 true 2 w53 HPc.out.u (by omega))
                      unfold CnRet at HN
                      rw [(cu_t l P6 2 L).1, (cu_t l P6 2 L).2.1, (cu_t l P6 2 L).2.2, show tv [] = 0 from rfl, show ((2 : Nat) : Int) = 2 from rfl] at HN
                      go_wp2_with fail
                      refine HN.out.mono ?_
                      rintro e w54 ⟨rfl, hU, hg⟩
                      have HPn := Lib.hid (HPc.out.grown hg hU)
                      clear hU hg HN HPc
                      have HPc := HPn
                      clear HPn
                      have hc2 := HPc.out.u.c2
                      have HN := Lib.hid (cbytes_r R A L C l P6 true 0 w54 HPc.out.u (by omega))
                      unfold CbRet at HN
                      rw [(cu_t l P6 0 L).1, (cu_t l P6 0 L).2.1, (cu_t l P6 0 L).2.2, show ((0 : Nat) : Int) = 0 from rfl] at HN
                      go_wp2_with fail
                      refine HN.out.mono ?_
                      rintro e w55 ⟨A', C', rfl, ho, hU, hg⟩
                      clear hc2
                      have cv : (convert 23 9 (.slice A' 0 C')).run Try.prog w55 = .ok (.string (sb [])) w55 := conv_own' ho
                      have HPn := Lib.hid (HPc.out.grown hg hU)
                      have hc : w55.cell? ⟨X, 35, none⟩ = some _ := HPn.out.x.cell (i := 35) (by omega)
                      have hf : w55.frozen? ⟨X, 35, none⟩ = false := HPn.out.x.frozen _
                      have HPm := Lib.hid (HPn.out.set 35 (.string (sb [])) (fun j => cmF_msg _ _ _ _ _ _ j))
                      clear ho hU hg HN HPc HPn
                      go_upto_region 27 with (fail)
                      have HPc := HPm
                      clear HPm
                      generalize w55.setCell ⟨X, 35, none⟩ (.string (sb [])) = w56 at *
                      clear hc hf cv
                      have hc2 := HPc.out.u.c2
                      have HFz := Lib.hid HPc.out.fin
                      clear HPc
                      go_wp2_with (refine wpList_store_mid rfl _ _ _ rfl O 0 cm0.toArray rfl (show _ = _ from congrArg Value.agg HZC.out.symm) HFz.out.there HFz.out.size HFz.out.one ?_)
                      refine bodyPost_ret (results_cell2 rfl _ _ O _ _ _ _ rfl HFz.out.stored Try.underlying40 rfl HFz.out.size (.int .i64 14) rfl) rfl ?_
                      exact ⟨by rw [← HOw.out]; exact HFz.out.bel, .inl ⟨by rw [HErr.out]; decide, by rw [HErr.out]⟩⟩
                    | false =>
                      have HN := Lib.hid (cnum_r R A L C l P6 false 2 w53 HPc.out.u (by omega))
                      have hcn := cu_num (cut := false) (l := l) (p := P6) (n := 2) (L := L) (by omega) HL.out HBy.out
                      obtain ⟨M3, hM3⟩ : ∃ mz, mz = (nv (cuB false l P6 2 L)).toNat := ⟨_, rfl⟩
                      have hmt : tv (cuB false l P6 2 L) = ((M3 : Nat) : Int) := by rw [hcn.1, hM3]; omega
                      have hmb : M3 < 16777216 := by rw [hM3]; omega
                      have hm0 : cuC false P6 2 L = true → M3 = 0 := fun hh => by rw [hM3, (cu_yes hh l).2]; rfl
                      have HM3 := Lib.hid hM3
                      unfold CnRet at HN
                      rw [hmt, show ((2 : Nat) : Int) = 2 from rfl] at HN
                      obtain ⟨P7, hPn⟩ : ∃ pz, pz = cuP false P6 2 L := ⟨_, rfl⟩
                      obtain ⟨C7, hCn⟩ : ∃ pz, pz = cuC false P6 2 L := ⟨_, rfl⟩
                      rw [← hPn, ← hCn] at HN
                      rw [← hCn] at hm0
                      have HP7 := Lib.hid hPn
                      have HC7 := Lib.hid hCn
                      have HM0 := Lib.hid hm0
                      clear hcn hmt hPn hCn hM3 hm0
                      go_wp2_with fail
                      refine HN.out.mono ?_
                      rintro e w57 ⟨rfl, hU, hg⟩
                      have HPn := Lib.hid (HPc.out.grown hg hU)
                      clear hU hg HN HPc
                      have HPc := HPn
                      clear HPn
                      have hc2 := HPc.out.u.c2
                      cases C7 with
                      | true =>
                        have hz := HM0.out rfl
                        have ht : tx2 (ff false) l P6 L 2 1000 = ff true := by rw [tx_of, ← HM3.out, hz, if_neg (by decide), ← HC7.out]
                        have HErr : Hid (cF7 0 l 0 L = 14) := Lib.hid (cm_st (by decide) (by rw [H5.out.2.2, H5.out.2.1]; exact ht))
                        rw [hz]
                        clear hz ht HM0
                        have hc2 := HPc.out.u.c2
                        have HN := Lib.hid (cbytes_r R A L C l P7 true 0 w57 HPc.out.u (by omega))
                        unfold CbRet at HN
                        rw [(cu_t l P7 0 L).1, (cu_t l P7 0 L).2.1, (cu_t l P7 0 L).2.2, show ((0 : Nat) : Int) = 0 from rfl] at HN
                        go_wp2_with fail
                        refine HN.out.mono ?_
                        rintro e w58 ⟨A', C', rfl, ho, hU, hg⟩
                        clear hc2
                        have cv : (convert 23 9 (.slice A' 0 C')).run Try.prog w58 = .ok (.string (sb [])) w58 := conv_own' ho
                        have HPn := Lib.hid (HPc.out.grown hg hU)
                        have hc : w58.cell? ⟨X, 35, none⟩ = some _ := HPn.out.x.cell (i := 35) (by omega)
                        have hf : w58.frozen? ⟨X, 35, none⟩ = false := HPn.out.x.frozen _
                        have HPm := Lib.hid (HPn.out.set 35 (.string (sb [])) (fun j => cmF_msg _ _ _ _ _ _ j))
                        clear ho hU hg HN HPc HPn
                        go_upto_region 27 with (fail)
                        have HPc := HPm
                        clear HPm
                        generalize w58.setCell ⟨X, 35, none⟩ (.string (sb [])) = w59 at *
                        clear hc hf cv
                        have hc2 := HPc.out.u.c2
                        have HFz := Lib.hid HPc.out.fin
                        clear HPc
                        go_wp2_with (refine wpList_store_mid rfl _ _ _ rfl O 0 cm0.toArray rfl (show _ = _ from congrArg Value.agg HZC.out.symm) HFz.out.there HFz.out.size HFz.out.one ?_)
                        refine bodyPost_ret (results_cell2 rfl _ _ O _ _ _ _ rfl HFz.out.stored Try.underlying40 rfl HFz.out.size (.int .i64 14) rfl) rfl ?_
                        exact ⟨by rw [← HOw.out]; exact HFz.out.bel, .inl ⟨by rw [HErr.out]; decide, by rw [HErr.out]⟩⟩
                      | false =>
                        by_cases h1000 : 1000 < M3
                        · have hd3 : decide ((1000 : Int) < (M3 : Int)) = true := by simp; omega
                          have HErr : Hid (cF7 0 l 0 L = 5) := Lib.hid (cm_st (by decide) (by rw [H5.out.2.2, H5.out.2.1]; show tx2 (ff false) l P6 L 2 1000 = 5; rw [tx_of, ← HM3.out, if_pos h1000, ← HC7.out]; rfl))
                          have HFz := Lib.hid HPc.out.fin
                          clear HPc
                          go_wp2_with (refine wpList_store_mid rfl _ _ _ rfl O 0 cm0.toArray rfl (show _ = _ from congrArg Value.agg HZC.out.symm) HFz.out.there HFz.out.size HFz.out.one ?_)
                          refine bodyPost_ret (results_cell2 rfl _ _ O _ _ _ _ rfl HFz.out.stored Try.underlying40 rfl HFz.out.size (.int .i64 5) rfl) rfl ?_
                          exact ⟨by rw [← HOw.out]; exact HFz.out.bel, .inl ⟨by rw [HErr.out]; decide, by rw [HErr.out]⟩⟩
                        · have hd3 : decide ((1000 : Int) < (M3 : Int)) = false := by simp; omega
                          have Ht6 : Hid (tx2 (ff false) l P6 L 2 1000 = ff false) := Lib.hid (by rw [tx_of, ← HM3.out, if_neg h1000, ← HC7.out])
                          have h6 := c6_of (l := l) (L := L) (P6 := P6) (C6 := false) (C7 := false) H5.out.2.2 H5.out.2.1 Ht6.out
                          rw [← HM3.out, ← HP7.out] at h6
                          have H6 := Lib.hid h6
                          clear h6 h1000
                          have HN := Lib.hid (cbytes_r R A L C l P7 false M3 w57 HPc.out.u (by omega))
                          have HLn := Lib.hid (cuB_len false l P7 M3 L)
                          obtain ⟨T8, hT⟩ : ∃ tz, tz = cuB false l P7 M3 L := ⟨_, rfl⟩
                          obtain ⟨P8, hPn⟩ : ∃ pz, pz = cuP false P7 M3 L := ⟨_, rfl⟩
                          obtain ⟨C8, hCn⟩ : ∃ pz, pz = cuC false P7 M3 L := ⟨_, rfl⟩
                          unfold CbRet at HN
                          rw [← hT, ← hPn, ← hCn] at HN
                          have HT8 := Lib.hid hT
                          have HP8 := Lib.hid hPn
                          have HC8 := Lib.hid hCn
                          clear hT hPn hCn
                          go_wp2_with fail
                          refine HN.out.mono ?_
                          rintro e w60 ⟨A', C', rfl, ho, hU, hg⟩
                          clear hc2
                          have cv := conv_own' ho
                          have HPn := Lib.hid (HPc.out.grown hg hU)
                          have hc : w60.cell? ⟨X, 35, none⟩ = some _ := HPn.out.x.cell (i := 35) (by omega)
                          have hf : w60.frozen? ⟨X, 35, none⟩ = false := HPn.out.x.frozen _
                          have HPm := Lib.hid (HPn.out.set 35 (.string (sb T8)) (fun j => cmF_msg _ _ _ _ _ _ j))
                          clear ho hU hg HN HPc HPn
                          go_upto_region 27 with (fail)
                          have HPc := HPm
                          clear HPm
                          generalize w60.setCell ⟨X, 35, none⟩ (.string (sb T8)) = w61 at *
                          clear hc hf cv
                          have hc2 := HPc.out.u.c2
                          have H6' : Hid (cMs 0 l 0 L = sb T8 ∧ cA6 0 l 0 L = P8 ∧ cF6 0 l 0 L = ff C8) := Lib.hid ⟨by rw [H6.out.1, HT8.out], by rw [H6.out.2.1, HP8.out], by rw [H6.out.2.2, HC8.out]⟩
                          cases C8 with
                          | true =>
                            have HErr : Hid (cF7 0 l 0 L = 14) := Lib.hid (c6_st (by decide) H6'.out.2.2)
                            have HFz := Lib.hid HPc.out.fin
                            clear HPc
                            go_wp2_with (refine wpList_store_mid rfl _ _ _ rfl O 0 cm0.toArray rfl (show _ = _ from congrArg Value.agg HZC.out.symm) HFz.out.there HFz.out.size HFz.out.one ?_)
                            refine bodyPost_ret (results_cell2 rfl _ _ O _ _ _ _ rfl HFz.out.stored Try.underlying40 rfl HFz.out.size (.int .i64 14) rfl) rfl ?_
                            exact ⟨by rw [← HOw.out]; exact HFz.out.bel, .inl ⟨by rw [HErr.out]; decide, by rw [HErr.out]⟩⟩
                          | false =>
                            have hle8 := HPc.out.u.le
                            have hc1 := HPc.out.u.c1
                            by_cases h8 : P8 < L
                            · have hd8 : decide ((P8 : Int) < (L : Int)) = true := by simp; omega
                              have HErr : Hid (cF7 0 l 0 L = 15) := Lib.hid (by unfold cF7 enF; rw [H6'.out.2.2, H6'.out.2.1, if_neg (by omega)]; rfl)
                              have HFz := Lib.hid HPc.out.fin
                              clear HPc
                              go_wp2_with (refine wpList_store_mid rfl _ _ _ rfl O 0 cm0.toArray rfl (show _ = _ from congrArg Value.agg HZC.out.symm) HFz.out.there HFz.out.size HFz.out.one ?_)
                              refine bodyPost_ret (results_cell2 rfl _ _ O _ _ _ _ rfl HFz.out.stored Try.underlying40 rfl HFz.out.size (.int .i64 15) rfl) rfl ?_
                              exact ⟨by rw [← HOw.out]; exact HFz.out.bel, .inl ⟨by rw [HErr.out]; decide, by rw [HErr.out]⟩⟩
                            · have hd8 : decide ((P8 : Int) < (L : Int)) = false := by simp; omega
                              have hn8 : ¬ P8 < L := h8
                              have HOk : Hid (cF7 0 l 0 L = 0) := Lib.hid (by unfold cF7 enF; rw [H6'.out.2.2, H6'.out.2.1, if_pos (by omega)]; rfl)
                              have hcl := cm_len tr (.slice Ai k Ci) (sb T5) TM (sb T8) HTl.out
                              have hco := cm_one tr (.slice Ai k Ci) (sb T5) TM (sb T8) rfl
                              have HFo := Lib.hid (Fin.mk' hcl hco HPc.out.o HPc.out.b (Nat.le_refl _))
                              have HLd : Hid (w61.rangeAt X 0 (cm tr (.slice Ai k Ci) (sb T5) TM (sb T8))) := Lib.hid (fun j v hj => by
                                have hl := (List.getElem?_eq_some_iff.1 hj).1
                                rw [hcl] at hl
                                rw [Nat.zero_add, HPc.out.x.cell hl, ← hj, cm_get tr _ (sb T5) _ (sb T8) HTl.out j hl])
                              have HLs : Hid ((Try.prog.info? 40).map (·.size) = some (cm tr (.slice Ai k Ci) (sb T5) TM (sb T8)).length) := Lib.hid (by rw [hcl]; kernel_rfl)
                              have HOz := Lib.hid (own_grown HPc.out.own (grown_cells w61 O (cm tr (.slice Ai k Ci) (sb T5) TM (sb T8)) 0) (fun e => by have := (HPc.out.own.lt O e).1; have := HPc.out.hOR; have := HPc.out.hRX; omega))
                              have hXO : O ≤ X + 1 := by have := HPc.out.hOR; have := HPc.out.hRX; omega
                              clear hcl hco HPc h8
                              generalize hCM : cm tr (.slice Ai k Ci) (sb T5) TM (sb T8) = CM at *
                              have HCM := Lib.hid hCM
                              clear hCM
                              go_wp2_with (first
                                | (refine wpList_load_mid rfl _ _ rfl X 0 rfl CM _ HLd.out Try.underlying40 rfl HLs.out ?_)
                                | (refine wpList_store_mid rfl _ _ _ rfl O 0 CM.toArray rfl rfl HFo.out.there HFo.out.size HFo.out.one ?_))
                              refine bodyPost_ret (results_cell2 rfl _ _ O _ _ _ _ rfl HFo.out.stored Try.underlying40 rfl HFo.out.size (.int .i64 0) rfl) rfl ?_
                              refine ⟨by rw [← HOw.out]; exact HFo.out.bel, .inr ⟨HOk.out, by rw [HQ3.out]; exact HI32.out, Ai, Ci, ?_, ?_⟩⟩
                              · rw [HQ3.out, HIl.out, HTr.out, H4'.out.1, HTM.out, H6'.out.1, HCM.out]
                              · rw [HQ3.out, HIl.out, ← HOw.out]; exact own_base HOz.out hXO
end Go.Proofs.Ytmcmapgllaopmaa.Cd
end

section
/- codec.checkCommit at any commit. -/
namespace Go.Proofs.Ytmcmapgllaopmaa.Cd
open Go.RowKit
set_option linter.unusedVariables false

/-- why some parents may not stand behind others -/
def pwF : List (List Int) → List (List Int) → Int
  | _, [] => 0
  | ahead, p :: r => if cp p ahead = 0 then pwF (ahead ++ [p]) r else cp p ahead
/-- why a commit may not be -/
def wE (tr : List Int) (ids : List (List Int)) (au ms : ByteArray) : Int :=
  if tr = List.replicate 32 0 then 1 else if 8 < ids.length then 4 else if pwF [] ids = 0 then (if 1000 < au.size ∨ 1000 < ms.size then 5 else 0) else pwF [] ids
theorem pwF_step (ids : List (List Int)) (k : Nat) (hk : k < ids.length) : pwF (ids.take k) (ids.drop k) = if cp (ids.getD k []) (ids.take k) = 0 then pwF (ids.take (k + 1)) (ids.drop (k + 1)) else cp (ids.getD k []) (ids.take k) := by
  have hx : ids.getD k [] = ids[k] := by simp [List.getD, hk]
  rw [List.drop_eq_getElem_cons hk, pwF, ← hx, List.take_succ_eq_append_getElem hk, ← hx]
theorem RdIds.take {w : World} {A : Option Addr} {n C : Nat} {l : List (List Int)} (h : RdIds w A n C l) (k : Nat) (hk : k ≤ n) : RdIds w A k C (l.take k) :=
  ⟨by have := h.cap; omega, h.max, by have := h.big; omega, by rw [List.length_take, h.len]; omega, fun x hx => h.ids x (List.mem_of_mem_take hx), fun h0 => by
    obtain ⟨g, o, h1, h2, h3⟩ := h.cell (by omega)
    refine ⟨g, o, h1, h2, fun i hi => ?_⟩
    have : (l.take k).getD i [] = l.getD i [] := by simp [List.getD, hi]
    rw [this]
    exact h3 i (by omega)⟩
/-- a commit's own cells -/
theorem cm_row (w : World) (tr : List Int) (ps : Value) (au : ByteArray) (tm : Int) (ms : ByteArray) (hl : tr.length = 32) : (w.alloc (.cells (cm tr ps au tm ms).toArray 40)).rowIs w.heap.size 40 36 (cmF tr ps au tm ms) := by
  have hr := row_new w (cm tr ps au tm ms).toArray 40
  have hs : (cm tr ps au tm ms).toArray.size = 36 := by rw [List.size_toArray, cm_len _ _ _ _ _ hl]
  rw [hs] at hr
  exact hr.congr (fun j hj => by
    have := cm_get tr ps au tm ms hl j hj
    simp [this])
theorem cm_tree {w : World} {X : Nat} {tr : List Int} {ps : Value} {au : ByteArray} {tm : Int} {ms : ByteArray} (h : w.rowIs X 40 36 (cmF tr ps au tm ms)) (hl : tr.length = 32) : w.rangeAt X 0 (bv tr) := fun j v hj => by
  have hl2 := (List.getElem?_eq_some_iff.1 hj).1
  have hl3 : j < 32 := by rw [bv_len, hl] at hl2; exact hl2
  rw [Nat.zero_add, h.cell (show j < 36 by omega), cmF, if_neg (by omega), if_neg (by omega), if_neg (by omega), if_neg (by omega), ← hj]
  simp [bv, List.getD, show j < tr.length by omega]
theorem row_drew {w : World} {b : Nat} {t : TypeId} {n : Nat} {f : Nat → Value} (h : w.rowIs b t n f) : w.drew.rowIs b t n f := h

set_option maxRecDepth 100000 in
set_option maxHeartbeats 2000000 in
theorem checkCommit_any (tr : List Int) (hl : tr.length = 32) (A : Option Addr) (n C : Nat) (ids : List (List Int)) (au : ByteArray) (tm : Int) (ms : ByteArray) (w : World) (h : RdIds w A n C ids) :
    Calls Try.prog 50 #[.agg (cm tr (.slice A n C) au tm ms).toArray] w fun e w' => e = .returned (.int .i64 (wE tr ids au ms)) ∧ Below w.heap.size w w' := by
  have hX := cm_row w tr (.slice A n C) au tm ms hl
  have hb0 := (Below.refl w.heap.size w).alloc (Nat.le_refl _) (.cells (cm tr (.slice A n C) au tm ms).toArray 40)
  have HI := Lib.hid (h.below hb0)
  have HB := Lib.hid hb0
  have HX := Lib.hid hX
  have hsX := hX.lt
  have HRg := Lib.hid (cm_tree hX hl)
  have HSz := Lib.hid (show (Try.prog.info? 37).map (·.size) = some (bv tr).length by rw [bv_len, hl]; kernel_rfl)
  have hq : ∀ W, (Op.equalIn 10000 37 (.agg (bv tr).toArray) (.agg (bv (List.replicate 32 0)).toArray)).run Try.prog W = .ok (decide (tr = List.replicate 32 0)) W := fun W => ids_none tr hl W
  have hz32 := zero32
  have hcap := h.cap
  have hmax := h.max
  have hbig := h.big
  have HLn := Lib.hid h.len
  have hw0 := wE tr ids au ms
  clear hw0
  have HW := Lib.hid (show wE tr ids au ms = if tr = List.replicate 32 0 then 1 else if 8 < ids.length then 4 else if pwF [] ids = 0 then (if 1000 < au.size ∨ 1000 < ms.size then 5 else 0) else pwF [] ids from rfl)
  clear hX hb0 h
  generalize hZI : (bv (List.replicate 32 0)).toArray = ZI at *
  have HZI := Lib.hid hZI
  clear hZI
  have hZl : ZI.size = 32 := by rw [← HZI.out]; simp [bv]
  have HZl := Lib.hid hZl
  clear hZl
  have hc32 : (w.alloc (.cells (cm tr (.slice A n C) au tm ms).toArray 40)).cell? ⟨w.heap.size, 32, none⟩ = some (.slice A n C) := HX.out.cell (i := 32) (by omega)
  have hc33 : (w.alloc (.cells (cm tr (.slice A n C) au tm ms).toArray 40)).cell? ⟨w.heap.size, 33, none⟩ = some (.string au) := HX.out.cell (i := 33) (by omega)
  have hc35 : (w.alloc (.cells (cm tr (.slice A n C) au tm ms).toArray 40)).cell? ⟨w.heap.size, 35, none⟩ = some (.string ms) := HX.out.cell (i := 35) (by omega)
  generalize hCM : cm tr (.slice A n C) au tm ms = CM at *
  clear hCM
  generalize hDI : bv tr = DI at *
  clear hDI
  go_enter Try.func50, Try.ntmps50
  have hag : (Value.agg CM.toArray).cells = CM.toArray := rfl
  go_upto_region 1 with (fail)
  generalize w.alloc (.cells CM.toArray 40) = w1 at *
  obtain ⟨X, hX⟩ : ∃ X, X = w.heap.size := ⟨_, rfl⟩
  rw [← hX] at HX HRg hsX hc32 hc33 hc35 HB ⊢
  have HXw := Lib.hid hX
  clear hX
  by_cases hz0 : tr = List.replicate 32 0
  · rw [decide_eq_true hz0] at hq
    have hw := HW.out
    rw [if_pos hz0] at hw
    have HW3 := Lib.hid hw
    clear hz0 HW hw
    go_wp2_with (refine wpList_load_mid rfl _ _ rfl X 0 rfl DI _ HRg.out Try.underlying37 rfl HSz.out ?_)
    go_ret
    exact ⟨by rw [HW3.out]; rfl, by rw [← HXw.out]; exact HB.out⟩
  · rw [decide_eq_false hz0] at hq
    by_cases h8 : 8 < n
    · have hw := HW.out
      rw [if_neg hz0, if_pos (by rw [HLn.out]; exact h8)] at hw
      have hd : decide ((8 : Int) < (n : Int)) = true := by simp; omega
      have HW3 := Lib.hid hw
      clear hz0 HW hw
      go_wp2_with (refine wpList_load_mid rfl _ _ rfl X 0 rfl DI _ HRg.out Try.underlying37 rfl HSz.out ?_)
      go_ret
      exact ⟨by rw [HW3.out]; rfl, by rw [← HXw.out]; exact HB.out⟩
    · have hw := HW.out
      rw [if_neg hz0, if_neg (by rw [HLn.out]; exact h8)] at hw
      have HW2 := Lib.hid hw
      have hd : decide ((8 : Int) < (n : Int)) = false := by simp; omega
      clear hz0 HW hw
      go_wp2_with (refine wpList_load_mid rfl _ _ rfl X 0 rfl DI _ HRg.out Try.underlying37 rfl HSz.out ?_)
      clear hc32 hc33 hc35 hq HRg
      go_loopw [19] (fun s wr => ∃ k : Nat, s = .int .i64 k ∧ k ≤ n ∧ Hid (pwF (ids.take k) (ids.drop k) = pwF [] ids) ∧ Hid (RdIds wr A n C ids) ∧ Hid (wr.rowIs X 40 36 (cmF tr (.slice A n C) au tm ms)) ∧ Hid (Below X w wr)) (fun s _ => n - (intOf s).toNat)
      case atStart => exact ⟨0, rfl, Nat.zero_le _, Lib.hid rfl, HI, HX, HB⟩
      case round =>
        clear HI HX HB
        obtain ⟨k, rfl, hk, HF, HI, HX, HB⟩ := hrel
        have hXw : X < wr.heap.size := HX.out.lt
        by_cases hlt : k < n
        · obtain ⟨g, o, rfl, hg, hc⟩ := HI.out.cell (by omega)
          have hst := pwF_step ids k (by have := HLn.out; omega)
          rw [HF.out] at hst
          have hpl := HI.out.ids _ (getD_mem (k := k) (by have := HLn.out; omega))
          have hpr := hc k hlt
          obtain ⟨p, hp⟩ : ∃ p, p = ids.getD k [] := ⟨_, rfl⟩
          rw [← hp] at hst hpl hpr
          have Hpl := Lib.hid hpl
          have HSt := Lib.hid hst
          have HPr := Lib.hid hpr
          have HES : Hid ((Try.prog.info? 37).map (·.size) = some (bv p).length) := Lib.hid (by rw [bv_len, hpl]; kernel_rfl)
          have hyr := row_new wr ZI 37
          rw [HZl.out] at hyr
          have HTh : Hid ((wr.alloc (.cells ZI 37)).there wr.heap.size 0 (bv p).toArray.size) := Lib.hid (fun j hj => by
            rw [List.size_toArray, bv_len, hpl] at hj
            rw [Nat.zero_add]
            exact ⟨by rw [hyr.cell hj]; rfl, hyr.frozen _⟩)
          have HSz2 : Hid ((Try.prog.info? 37).map (·.size) = some (bv p).toArray.size) := Lib.hid (by rw [List.size_toArray]; exact HES.out)
          have HOne := Lib.hid (all_oneCell_toArray (bv_one p))
          have HRy : Hid (((wr.alloc (.cells ZI 37)).setCells wr.heap.size 0 (bv p)).rangeAt wr.heap.size 0 (bv p)) := Lib.hid (World.rangeAt_setCells_same _ _ _ _ (by have := HTh.out; rwa [List.size_toArray] at this))
          have hb4 := below_cells (Nat.le_refl wr.heap.size) (bv p) 0 _ ((Below.refl wr.heap.size wr).alloc (Nat.le_refl _) (.cells ZI 37))
          have HI4 := Lib.hid (HI.out.below hb4)
          have HX4 := Lib.hid (World.rowIs.of_block HX.out (hb4.block X hXw))
          have HB4 := Lib.hid (HB.out.trans (hb4.mono (Nat.le_of_lt hXw)))
          have hYs : wr.heap.size < ((wr.alloc (.cells ZI 37)).setCells wr.heap.size 0 (bv p)).heap.size := HRy.out.lt_of (by rw [bv_len, hpl]; decide)
          have hk0 : (0 : Int) ≤ (k : Int) := by omega
          have hk1 : (k : Int) < (n : Int) := by omega
          have hkC : k ≤ C := by omega
          have hkC2 : (k : Int) ≤ (C : Int) := by omega
          clear hyr hb4 hst hpl hpr hp hc HF HI HX HB hg
          go_upto_region 8 with (first
            | (refine wpList_load_mid rfl _ _ rfl g (o + k * 32) rfl (bv p) _ HPr.out Try.underlying37 rfl HES.out ?_)
            | (refine wpList_store_mid rfl _ _ _ rfl wr.heap.size 0 (bv p).toArray rfl rfl HTh.out HSz2.out HOne.out ?_))
          change Code.wp _ _ _ _ ((wr.alloc (.cells ZI 37)).setCells wr.heap.size 0 (bv p))
          clear HTh HSz2 HOne HPr
          generalize (wr.alloc (.cells ZI 37)).setCells wr.heap.size 0 (bv p) = w4 at *
          generalize wr.heap.size = Y at *
          have HIt : Hid (RdIds w4.drew (some ⟨g, o, none⟩) k C (ids.take k)) := Lib.hid (by
            have h := HI4.out.take k hk
            exact ⟨h.cap, h.max, h.big, h.len, h.ids, h.cell⟩)
          have dX := Lib.hid ((World.rangeAt_drew _ _ _ _).2 HRy.out)
          have dR := Lib.hid (row_drew HX4.out)
          have dI : Hid (RdIds w4.drew (some ⟨g, o, none⟩) n C ids) := Lib.hid ⟨HI4.out.cap, HI4.out.max, HI4.out.big, HI4.out.len, HI4.out.ids, HI4.out.cell⟩
          have dB := Lib.hid HB4.out.drew
          have dC : Hid (w4.drew.cell? ⟨X, 32, none⟩ = some (.slice (some ⟨g, o, none⟩) n C)) := Lib.hid (dR.out.cell (i := 32) (by omega))
          have hYd : Y < w4.drew.heap.size := hYs
          clear HI4 HX4 HB4 HRy hYs
          refine wp_region_noPanic ?_
          refine wp_region_held_drew (S := (fun wS => wS.rangeAt Y 0 (bv p) ∧ wS.cell? ⟨X, 32, none⟩ = some (.slice (some ⟨g, o, none⟩) n C))) (by kernel_rfl) ?_ (fun hHeld => ?_)
          · ((try dsimp only); exact ⟨dX.out, dC.out⟩)
          refine' wpAnyH_take (i := 0) (oi := { dst := some 24, op := Op.load 37 (Operand.tmp 4), type := 37, pos := "commit.go:32", after := #[], guard := none }) (v := _) rfl (by kernel_rfl) (by kernel_rfl) (by kernel_rfl) (fun _ _ _ h => h) (yieldsIf_load_mid (by rfl) _ _ rfl _ _ rfl (bv p) _ (fun w hSw => hSw.1) Try.underlying37 rfl HES.out) (by assumption) ?_
          (try simp only [Act.put, List.setIfInBounds_toArray, List.set_cons_zero, List.set_cons_succ])
          refine wpAnyH_take (i := 1) (oi := { dst := some 25, op := Op.fieldAddr 40 (Operand.tmp 1) 1, type := 0, pos := "commit.go:32", after := #[], guard := none }) (v := ?_) rfl (by kernel_rfl) (by kernel_rfl) (by kernel_rfl) (fun _ _ _ h => h) (Or.inl ⟨by rfl, ?_⟩) (by assumption) ?_
          rotate_left 1
          · ((intro w hSw; (try dsimp only at hSw); go_simp) <;> with_reducible rfl)
          (try simp only [Act.put, List.setIfInBounds_toArray, List.set_cons_zero, List.set_cons_succ])
          refine wpAnyH_take (i := 2) (oi := { dst := some 26, op := Op.load 38 (Operand.tmp 25), type := 38, pos := "commit.go:32", after := #[{ on := 1, ground := Ground.data }], guard := none }) (v := ?_) rfl (by kernel_rfl) (by kernel_rfl) (by kernel_rfl) (fun _ _ _ h => h) (Or.inl ⟨by rfl, ?_⟩) (by assumption) ?_
          rotate_left 1
          · ((intro w hSw; (try dsimp only at hSw); go_simp) <;> with_reducible rfl)
          (try simp only [Act.put, List.setIfInBounds_toArray, List.set_cons_zero, List.set_cons_succ])
          refine wpAnyH_take (i := 3) (oi := { dst := some 27, op := Op.move (Operand.tmp 3), type := 3, pos := "commit.go:32", after := #[], guard := none }) (v := ?_) rfl (by kernel_rfl) (by kernel_rfl) (by kernel_rfl) (fun _ _ _ h => h) (Or.inl ⟨by rfl, ?_⟩) (by assumption) ?_
          rotate_left 1
          · ((intro w hSw; (try dsimp only at hSw); go_simp) <;> with_reducible rfl)
          (try simp only [Act.put, List.setIfInBounds_toArray, List.set_cons_zero, List.set_cons_succ])
          refine wpAnyH_take (i := 4) (oi := { dst := some 28, op := Op.slice 38 (Operand.tmp 26) none (some (Operand.tmp 27)) none, type := 38, pos := "commit.go:32", after := #[{ on := 2, ground := Ground.data }, { on := 3, ground := Ground.data }], guard := none }) (v := ?_) rfl (by kernel_rfl) (by kernel_rfl) (by kernel_rfl) (fun _ _ _ h => h) (Or.inl ⟨by rfl, ?_⟩) (by assumption) ?_
          rotate_left 1
          · ((intro w hSw; (try dsimp only at hSw); go_simp) <;> with_reducible rfl)
          (try simp only [Act.put, List.setIfInBounds_toArray, List.set_cons_zero, List.set_cons_succ])
          refine wpAnyH_ready (rs := [5]) (by kernel_rfl) (by simp) ?_
          refine AllReadyH.cons (o := { dst := some 29, op := Op.call { callee := Callee.value (Operand.func 87), args := #[Operand.tmp 24, Operand.tmp 28], argTypes := #[37, 38] }, type := 25, pos := "commit.go:32", after := #[{ on := 0, ground := Ground.data }, { on := 4, ground := Ground.data }], guard := none }) rfl (fun K hK => ?_) ?_
          · go_simp
            refine (parent_any p Hpl.out (some ⟨g, o, none⟩) k C (ids.take k) _ HIt.out).mono ?_
            rintro e w7 ⟨rfl, hb7⟩
            have eX := Lib.hid (range_below hb7 dX.out hYd)
            have eR := Lib.hid (World.rowIs.of_block dR.out (hb7.block X dR.out.lt))
            have eI := Lib.hid (dI.out.below hb7)
            have eB := Lib.hid (dB.out.trans (hb7.mono (Nat.le_of_lt dR.out.lt)))
            have eC : Hid (w7.cell? ⟨X, 32, none⟩ = some (.slice (some ⟨g, o, none⟩) n C)) := Lib.hid (eR.out.cell (i := 32) (by omega))
            clear dX dR dI dB dC hb7 hYd
            have dX := eX
            have dR := eR
            have dI := eI
            have dB := eB
            have dC := eC
            clear eX eR eI eB eC
            (try go_wp2_with fail)
            refine hK.out _ _ ?_ (fun hNew => ?_)
            · ((try dsimp only); exact ⟨dX.out, dC.out⟩)
            clear hK K hHeld
            have hHeld := hNew
            clear hNew
            (try simp only [Act.put, List.setIfInBounds_toArray, List.set_cons_zero, List.set_cons_succ])
            refine wpAnyH_take (i := 6) (oi := { dst := some 5, op := Op.assign (Operand.tmp 29), type := 25, pos := "commit.go:32", after := #[{ on := 5, ground := Ground.data }, { on := 5, ground := Ground.chain }, { on := 0, ground := Ground.phase }, { on := 1, ground := Ground.phase }, { on := 2, ground := Ground.phase }, { on := 3, ground := Ground.phase }, { on := 4, ground := Ground.phase }, { on := 5, ground := Ground.phase }], guard := none }) (v := ?_) rfl (by kernel_rfl) (by kernel_rfl) (by kernel_rfl) (fun _ _ _ h => h) (Or.inl ⟨by rfl, ?_⟩) (by assumption) ?_
            rotate_left 1
            · ((intro w hSw; (try dsimp only at hSw); go_simp) <;> with_reducible rfl)
            (try simp only [Act.put, List.setIfInBounds_toArray, List.set_cons_zero, List.set_cons_succ])
            refine wpAnyH_done (by kernel_rfl) ?_ _
            refine NoPanic.normal ?_
            clear hHeld
            obtain ⟨E, hE⟩ : ∃ E, E = cp p (ids.take k) := ⟨_, rfl⟩
            have hst := HSt.out
            rw [← hE] at hst ⊢
            by_cases h0 : E = 0
            · have hE0 : (E != 0) = false := by simp [h0]
              rw [if_pos h0] at hst
              have HF2 := Lib.hid hst.symm
              clear hE hst h0 HSt dX dC
              go_wp2_with fail
              go_roundw
              case rel => exact ⟨k + 1, by go_num, by omega, HF2, dI, dR, dB⟩
              case measure => simp [intOf]; omega
            · have hE0 : (E != 0) = true := by simp [h0]
              rw [if_neg h0] at hst
              have hw := HW2.out
              rw [if_neg (by rw [hst]; exact h0), hst] at hw
              have HW3 := Lib.hid hw
              clear hE hst h0 HSt dX dC HW2 hw
              go_wp2_with fail
              go_ret
              exact ⟨by rw [HW3.out]; rfl, by rw [← HXw.out]; exact dB.out⟩
          exact AllReadyH.nil
        · have ek : k = n := by omega
          have hd2 : decide ((k : Int) < (n : Int)) = false := by simp; omega
          have hp0 : pwF [] ids = 0 := by
            rw [← HF.out, ek, List.drop_of_length_le (by rw [HLn.out]; omega)]
            cases ids.take n <;> rfl
          have hw := HW2.out
          rw [if_pos hp0] at hw
          have hc33 : wr.cell? ⟨X, 33, none⟩ = some (.string au) := HX.out.cell (i := 33) (by omega)
          have hc35 : wr.cell? ⟨X, 35, none⟩ = some (.string ms) := HX.out.cell (i := 35) (by omega)
          have HW3 := Lib.hid hw
          clear hp0 HF HI HX ek HW2 hw
          by_cases ha : 1000 < au.size
          · have hda : decide ((1000 : Int) < (au.size : Int)) = true := by simp; omega
            have HA := Lib.hid ha
            clear ha
            go_wp2_with fail
            go_ret
            exact ⟨by rw [HW3.out, if_pos (.inl HA.out)]; rfl, by rw [← HXw.out]; exact HB.out⟩
          · have hda : decide ((1000 : Int) < (au.size : Int)) = false := by simp; omega
            by_cases hm : 1000 < ms.size
            · have hdm : decide ((1000 : Int) < (ms.size : Int)) = true := by simp; omega
              have HM := Lib.hid hm
              clear hm
              go_wp2_with fail
              go_ret
              exact ⟨by rw [HW3.out, if_pos (.inr HM.out)]; rfl, by rw [← HXw.out]; exact HB.out⟩
            · have hdm : decide ((1000 : Int) < (ms.size : Int)) = false := by simp; omega
              have HN := Lib.hid (show ¬ (1000 < au.size ∨ 1000 < ms.size) from fun h => h.elim ha hm)
              clear ha hm
              go_wp2_with fail
              go_ret
              exact ⟨by rw [HW3.out, if_neg HN.out]; rfl, by rw [← HXw.out]; exact HB.out⟩
end Go.Proofs.Ytmcmapgllaopmaa.Cd
end
