/- Texts of one's own, merged: CdSTx, CdRSeq, CdETx, CdTxI, CdSd, CdSdT. -/
import Derived.Test.YtmcmapgllaopmaaMe

section
namespace Go.Proofs.Ytmcmapgllaopmaa.Cd
open Go.RowKit
set_option linter.unusedVariables false
theorem step_load_mid {w : World} {ops : Array Oper} {o : Oper} {a : Act} {K : Act → World → Prop} {Q : Exit → Act → World → Prop} {E : Prop} (hgd : o.guard = none) (ty : TypeId) (x : Operand) (ho : o.op = .load ty x)
    (b off : Nat) (hx : a.eval x = .pointer (some ⟨b, off, none⟩)) (cs : List Value) (d : TypeDesc) (hc : w.rangeAt b off cs)
    (hu : Try.prog.underlying ty = some d) (hd : d.isRow = true) (hi : (Try.prog.info? ty).map (·.size) = some cs.length)
    (h : K (a.put o.dst (.agg cs.toArray)) w) : if Region.wanted o (yielded ops a.tmps) = true then Oper.wp Try.prog o a w K Q else E := by
  have hw : Region.wanted o (yielded ops a.tmps) = true := by simp [Region.wanted, hgd]
  rw [if_pos hw]
  exact wp_load_mid ty x ho b off hx cs d hc hu hd hi h
/-- are two transactions the same in everything that is asked of them? -/
def sxEq (a b : TxD) : Bool := (a.hh == b.hh) && (sEq (akH a.hh a.hd) (akH b.hh b.hd) && ((a.hs == b.hs) && (eqL mvEq a.ms b.ms && (sqEq (a.sq.ask a.hs) (b.sq.ask b.hs) && eqL myEq a.ys b.ys))))
set_option maxRecDepth 100000 in
set_option maxHeartbeats 8000000 in
theorem sameTx_any (G : Nat) (hh1 : Bool) (hd1 : ByteArray) (A1 : Option Addr) (n1 C1 : Nat) (ms1 : List Mv) (hs1 : Bool) (k1 : Int) (br1 : ByteArray) (og1 cu1 : List Int) (At1 : Option Addr) (nt1 Ct1 : Nat) (ts1 : List Td) (dn1 md1 : Int) (st1 : Bool) (Am1 : Option Addr) (m1 Cm1 : Nat) (ys1 : List My) (hh2 : Bool) (hd2 : ByteArray) (A2 : Option Addr) (n2 C2 : Nat) (ms2 : List Mv) (hs2 : Bool) (k2 : Int) (br2 : ByteArray) (og2 cu2 : List Int) (At2 : Option Addr) (nt2 Ct2 : Nat) (ts2 : List Td) (dn2 md2 : Int) (st2 : Bool) (Am2 : Option Addr) (m2 Cm2 : Nat) (ys2 : List My) (w : World)
    (ho1 : IdOk og1) (hc1 : IdOk cu1) (hM1 : RdM G w A1 n1 C1 ms1) (hT1 : RdT G w At1 nt1 Ct1 ts1) (hTi1 : ∀ t ∈ ts1, IdOk t.id) (hY1 : RdY G w Am1 m1 Cm1 ys1) (hn1 : n1 ≤ 1000000000) (hm1 : m1 ≤ 1000000000) (hnt1 : nt1 ≤ 1000000000) (hbr1 : br1.size ≤ 1000000000) (ho2 : IdOk og2) (hc2 : IdOk cu2) (hM2 : RdM G w A2 n2 C2 ms2) (hT2 : RdT G w At2 nt2 Ct2 ts2) (hTi2 : ∀ t ∈ ts2, IdOk t.id) (hY2 : RdY G w Am2 m2 Cm2 ys2) (hn2 : n2 ≤ 1000000000) (hm2 : m2 ≤ 1000000000) (hnt2 : nt2 ≤ 1000000000) (hbr2 : br2.size ≤ 1000000000) (hG : G ≤ w.heap.size) :
    Calls Try.prog 34 #[.agg (txV hh1 hd1 (.slice A1 n1 C1) hs1 (sqV k1 br1 og1 cu1 (.slice At1 nt1 Ct1) dn1 md1 st1) (.slice Am1 m1 Cm1)).toArray, .agg (txV hh2 hd2 (.slice A2 n2 C2) hs2 (sqV k2 br2 og2 cu2 (.slice At2 nt2 Ct2) dn2 md2 st2) (.slice Am2 m2 Cm2)).toArray] w fun e w' => e = .returned (.bool (sxEq ⟨hh1, hd1, ms1, hs1, ⟨k1, br1, og1, cu1, ts1, dn1, md1, st1⟩, ys1⟩ ⟨hh2, hd2, ms2, hs2, ⟨k2, br2, og2, cu2, ts2, dn2, md2, st2⟩, ys2⟩)) ∧ Below w.heap.size w w' := by
  have hql1 := sqV_len (k := k1) (br := br1) (td := Value.slice At1 nt1 Ct1) (dn := dn1) (md := md1) (st := st1) ho1.1 hc1.1
  have hxl1 := txV_len (hh := hh1) (hd := hd1) (mv := .slice A1 n1 C1) (hs := hs1) (mm := .slice Am1 m1 Cm1) hql1
  have HAk1 := Lib.hid (fun W => asked_any hh1 hd1 (.slice A1 n1 C1) hs1 k1 br1 og1 cu1 (.slice At1 nt1 Ct1) dn1 md1 st1 (.slice Am1 m1 Cm1) W ho1.1 hc1.1 rfl rfl rfl)
  obtain ⟨q1, bq1, oq1, cq1, Aq1, nq1, Cq1, tq1, dq1, mq1, sq1, e1, e2, ho', hc', hT', hTi', hnt', hbr'⟩ := ak_form G hs1 k1 br1 og1 cu1 At1 nt1 Ct1 ts1 dn1 md1 st1 w ho1 hc1 hT1 hTi1 hnt1 hbr1
  rw [e1] at HAk1
  have HAsk1 := Lib.hid e2
  have HIo1 := Lib.hid ho'
  have HIc1 := Lib.hid hc'
  have HTq1 := Lib.hid hT'
  have hnq1 := hnt'
  have hqq1 := sqV_len (k := q1) (br := bq1) (td := Value.slice Aq1 nq1 Cq1) (dn := dq1) (md := mq1) (st := sq1) ho'.1 hc'.1
  clear e1 e2 ho' hc' hT' hTi' hnt' hbr'
  obtain ⟨h1, hh'⟩ : ∃ h1, h1 = akH hh1 hd1 := ⟨_, rfl⟩
  rw [← hh'] at HAk1
  have HH1 := Lib.hid hh'
  clear hh'
  have hxq1 := txV_len (hh := hh1) (hd := h1) (mv := .slice A1 n1 C1) (hs := hs1) (mm := .slice Am1 m1 Cm1) hqq1
  have hx11 := txV_one (hh := hh1) (hd := h1) (mv := .slice A1 n1 C1) (hs := hs1) (mm := .slice Am1 m1 Cm1) rfl (sqV_one (k := q1) (br := bq1) (og := oq1) (cu := cq1) (td := .slice Aq1 nq1 Cq1) (dn := dq1) (md := mq1) (st := sq1) rfl) rfl
  have HXl1 := Lib.hid hxq1
  have HX11 := Lib.hid hx11
  have HQl1 := Lib.hid hqq1
  have hql2 := sqV_len (k := k2) (br := br2) (td := Value.slice At2 nt2 Ct2) (dn := dn2) (md := md2) (st := st2) ho2.1 hc2.1
  have hxl2 := txV_len (hh := hh2) (hd := hd2) (mv := .slice A2 n2 C2) (hs := hs2) (mm := .slice Am2 m2 Cm2) hql2
  have HAk2 := Lib.hid (fun W => asked_any hh2 hd2 (.slice A2 n2 C2) hs2 k2 br2 og2 cu2 (.slice At2 nt2 Ct2) dn2 md2 st2 (.slice Am2 m2 Cm2) W ho2.1 hc2.1 rfl rfl rfl)
  obtain ⟨q2, bq2, oq2, cq2, Aq2, nq2, Cq2, tq2, dq2, mq2, sq2, e1, e2, ho', hc', hT', hTi', hnt', hbr'⟩ := ak_form G hs2 k2 br2 og2 cu2 At2 nt2 Ct2 ts2 dn2 md2 st2 w ho2 hc2 hT2 hTi2 hnt2 hbr2
  rw [e1] at HAk2
  have HAsk2 := Lib.hid e2
  have HIo2 := Lib.hid ho'
  have HIc2 := Lib.hid hc'
  have HTq2 := Lib.hid hT'
  have hnq2 := hnt'
  have hqq2 := sqV_len (k := q2) (br := bq2) (td := Value.slice Aq2 nq2 Cq2) (dn := dq2) (md := mq2) (st := sq2) ho'.1 hc'.1
  clear e1 e2 ho' hc' hT' hTi' hnt' hbr'
  obtain ⟨h2, hh'⟩ : ∃ h2, h2 = akH hh2 hd2 := ⟨_, rfl⟩
  rw [← hh'] at HAk2
  have HH2 := Lib.hid hh'
  clear hh'
  have hxq2 := txV_len (hh := hh2) (hd := h2) (mv := .slice A2 n2 C2) (hs := hs2) (mm := .slice Am2 m2 Cm2) hqq2
  have hx12 := txV_one (hh := hh2) (hd := h2) (mv := .slice A2 n2 C2) (hs := hs2) (mm := .slice Am2 m2 Cm2) rfl (sqV_one (k := q2) (br := bq2) (og := oq2) (cu := cq2) (td := .slice Aq2 nq2 Cq2) (dn := dq2) (md := mq2) (st := sq2) rfl) rfl
  have HXl2 := Lib.hid hxq2
  have HX12 := Lib.hid hx12
  have HQl2 := Lib.hid hqq2
  have hb1 := (Below.refl w.heap.size w).alloc (Nat.le_refl _) (.cells (txV hh1 hd1 (.slice A1 n1 C1) hs1 (sqV k1 br1 og1 cu1 (.slice At1 nt1 Ct1) dn1 md1 st1) (.slice Am1 m1 Cm1)).toArray 68)
  have hr1 := row_newL w (txV hh1 hd1 (.slice A1 n1 C1) hs1 (sqV k1 br1 og1 cu1 (.slice At1 nt1 Ct1) dn1 md1 st1) (.slice Am1 m1 Cm1)) 68 75 hxl1
  have hX1 : (w.alloc (.cells (txV hh1 hd1 (.slice A1 n1 C1) hs1 (sqV k1 br1 og1 cu1 (.slice At1 nt1 Ct1) dn1 md1 st1) (.slice Am1 m1 Cm1)).toArray 68)).heap.size = w.heap.size + 1 := by show (w.heap.push _).size = _; simp
  have hb2 := hb1.alloc (al_le w _) (.cells (txV hh2 hd2 (.slice A2 n2 C2) hs2 (sqV k2 br2 og2 cu2 (.slice At2 nt2 Ct2) dn2 md2 st2) (.slice Am2 m2 Cm2)).toArray 68)
  have hr1b := World.rowIs.alloc hr1 (.cells (txV hh2 hd2 (.slice A2 n2 C2) hs2 (sqV k2 br2 og2 cu2 (.slice At2 nt2 Ct2) dn2 md2 st2) (.slice Am2 m2 Cm2)).toArray 68)
  have hr2 := row_newL (w.alloc (.cells (txV hh1 hd1 (.slice A1 n1 C1) hs1 (sqV k1 br1 og1 cu1 (.slice At1 nt1 Ct1) dn1 md1 st1) (.slice Am1 m1 Cm1)).toArray 68)) (txV hh2 hd2 (.slice A2 n2 C2) hs2 (sqV k2 br2 og2 cu2 (.slice At2 nt2 Ct2) dn2 md2 st2) (.slice Am2 m2 Cm2)) 68 75 hxl2
  rw [hX1] at hr2
  have HRa := Lib.hid hr1b
  have HRb := Lib.hid hr2
  have HB := Lib.hid hb2
  have HSz1 : Hid ((Try.prog.info? 68).map (·.size) = some (txV hh1 hd1 (.slice A1 n1 C1) hs1 (sqV k1 br1 og1 cu1 (.slice At1 nt1 Ct1) dn1 md1 st1) (.slice Am1 m1 Cm1)).length) := Lib.hid (by rw [hxl1]; exact infoTx)
  have HSz2 : Hid ((Try.prog.info? 68).map (·.size) = some (txV hh2 hd2 (.slice A2 n2 C2) hs2 (sqV k2 br2 og2 cu2 (.slice At2 nt2 Ct2) dn2 md2 st2) (.slice Am2 m2 Cm2)).length) := Lib.hid (by rw [hxl2]; exact infoTx)
  have HXa : Hid (∀ W : World, W.rowIs w.heap.size 68 75 (fun i => (txV hh1 hd1 (.slice A1 n1 C1) hs1 (sqV k1 br1 og1 cu1 (.slice At1 nt1 Ct1) dn1 md1 st1) (.slice Am1 m1 Cm1)).getD i undef) → W.rangeAt w.heap.size 0 (txV hh1 hd1 (.slice A1 n1 C1) hs1 (sqV k1 br1 og1 cu1 (.slice At1 nt1 Ct1) dn1 md1 st1) (.slice Am1 m1 Cm1))) := Lib.hid (fun W h => row_range h hxl1)
  have HXb : Hid (∀ W : World, W.rowIs (w.heap.size + 1) 68 75 (fun i => (txV hh2 hd2 (.slice A2 n2 C2) hs2 (sqV k2 br2 og2 cu2 (.slice At2 nt2 Ct2) dn2 md2 st2) (.slice Am2 m2 Cm2)).getD i undef) → W.rangeAt (w.heap.size + 1) 0 (txV hh2 hd2 (.slice A2 n2 C2) hs2 (sqV k2 br2 og2 cu2 (.slice At2 nt2 Ct2) dn2 md2 st2) (.slice Am2 m2 Cm2))) := Lib.hid (fun W h => row_range h hxl2)
  have hXl := hr1b.lt
  have hXl2 := hr2.lt
  generalize txV hh1 hd1 (.slice A1 n1 C1) hs1 (sqV k1 br1 og1 cu1 (.slice At1 nt1 Ct1) dn1 md1 st1) (.slice Am1 m1 Cm1) = CA at *
  generalize txV hh2 hd2 (.slice A2 n2 C2) hs2 (sqV k2 br2 og2 cu2 (.slice At2 nt2 Ct2) dn2 md2 st2) (.slice Am2 m2 Cm2) = CB at *
  have HQ : Hid (sxEq ⟨hh1, hd1, ms1, hs1, ⟨k1, br1, og1, cu1, ts1, dn1, md1, st1⟩, ys1⟩ ⟨hh2, hd2, ms2, hs2, ⟨k2, br2, og2, cu2, ts2, dn2, md2, st2⟩, ys2⟩ = ((hh1 == hh2) && ((h1.toList == h2.toList) && ((hs1 == hs2) && (eqL mvEq ms1 ms2 && (sqEq ⟨q1, bq1, oq1, cq1, tq1, dq1, mq1, sq1⟩ ⟨q2, bq2, oq2, cq2, tq2, dq2, mq2, sq2⟩ && eqL myEq ys1 ys2)))))) := Lib.hid (by
    unfold sxEq
    rw [HAsk1.out, HAsk2.out, ← HH1.out, ← HH2.out]
    rfl)
  have HTa1 : Hid (∀ W : World, W.rowIs w.heap.size 68 75 (fun i => (txV hh1 h1 (.slice A1 n1 C1) hs1 (sqV q1 bq1 oq1 cq1 (.slice Aq1 nq1 Cq1) dq1 mq1 sq1) (.slice Am1 m1 Cm1)).getD i undef) → TxAt W w.heap.size hh1 h1 (.slice A1 n1 C1) hs1 (sqV q1 bq1 oq1 cq1 (.slice Aq1 nq1 Cq1) dq1 mq1 sq1) (.slice Am1 m1 Cm1)) := Lib.hid (fun W h => tx_at HQl1.out (row_range h HXl1.out))
  have HTa2 : Hid (∀ W : World, W.rowIs (w.heap.size + 1) 68 75 (fun i => (txV hh2 h2 (.slice A2 n2 C2) hs2 (sqV q2 bq2 oq2 cq2 (.slice Aq2 nq2 Cq2) dq2 mq2 sq2) (.slice Am2 m2 Cm2)).getD i undef) → TxAt W (w.heap.size + 1) hh2 h2 (.slice A2 n2 C2) hs2 (sqV q2 bq2 oq2 cq2 (.slice Aq2 nq2 Cq2) dq2 mq2 sq2) (.slice Am2 m2 Cm2)) := Lib.hid (fun W h => tx_at HQl2.out (row_range h HXl2.out))
  have HEm : Hid (∀ W : World, Below w.heap.size w W → Calls Try.prog 77 #[.slice A1 n1 C1, .slice A2 n2 C2] W fun e w' => e = .returned (.bool (eqL mvEq ms1 ms2)) ∧ Below W.heap.size W w') := Lib.hid (fun W hb => eqM_any G A1 n1 C1 ms1 A2 n2 C2 ms2 W (hM1.below hb hG) (hM2.below hb hG) (Nat.le_trans hG hb.size) hn1 hn2)
  have HEs : Hid (∀ W : World, Below w.heap.size w W → Calls Try.prog 78 #[.agg (sqV q1 bq1 oq1 cq1 (.slice Aq1 nq1 Cq1) dq1 mq1 sq1).toArray, .agg (sqV q2 bq2 oq2 cq2 (.slice Aq2 nq2 Cq2) dq2 mq2 sq2).toArray] W fun e w' => e = .returned (.bool (sqEq ⟨q1, bq1, oq1, cq1, tq1, dq1, mq1, sq1⟩ ⟨q2, bq2, oq2, cq2, tq2, dq2, mq2, sq2⟩)) ∧ Below W.heap.size W w') := Lib.hid (fun W hb => sameSeq_any G q1 bq1 oq1 cq1 Aq1 nq1 Cq1 tq1 dq1 mq1 sq1 q2 bq2 oq2 cq2 Aq2 nq2 Cq2 tq2 dq2 mq2 sq2 W HIo1.out.1 HIc1.out.1 (HTq1.out.below hb hG) hnq1 HIo2.out.1 HIc2.out.1 (HTq2.out.below hb hG) hnq2 (Nat.le_trans hG hb.size))
  have HEy : Hid (∀ W : World, Below w.heap.size w W → Calls Try.prog 79 #[.slice Am1 m1 Cm1, .slice Am2 m2 Cm2, .func (.func 80) #[] #[]] W fun e w' => e = .returned (.bool (eqL myEq ys1 ys2)) ∧ Below W.heap.size W w') := Lib.hid (fun W hb => eqY_any G Am1 m1 Cm1 ys1 Am2 m2 Cm2 ys2 W (hY1.below hb (Nat.le_refl _) hG) (hY2.below hb (Nat.le_refl _) hG) (Nat.le_trans hG hb.size) hm1 hm2)
  have HPost : Hid (∀ (b : Bool) (w' : World), b = sxEq ⟨hh1, hd1, ms1, hs1, ⟨k1, br1, og1, cu1, ts1, dn1, md1, st1⟩, ys1⟩ ⟨hh2, hd2, ms2, hs2, ⟨k2, br2, og2, cu2, ts2, dn2, md2, st2⟩, ys2⟩ → Below w.heap.size w w' → ((fun e w' => e = Ending.returned (.bool (sxEq ⟨hh1, hd1, ms1, hs1, ⟨k1, br1, og1, cu1, ts1, dn1, md1, st1⟩, ys1⟩ ⟨hh2, hd2, ms2, hs2, ⟨k2, br2, og2, cu2, ts2, dn2, md2, st2⟩, ys2⟩)) ∧ Below w.heap.size w w') (Ending.returned (.bool b)) w')) := Lib.hid (fun b w' e hb => by subst e; exact ⟨rfl, hb⟩)
  generalize hPD : (fun e w' => e = Ending.returned (.bool (sxEq ⟨hh1, hd1, ms1, hs1, ⟨k1, br1, og1, cu1, ts1, dn1, md1, st1⟩, ys1⟩ ⟨hh2, hd2, ms2, hs2, ⟨k2, br2, og2, cu2, ts2, dn2, md2, st2⟩, ys2⟩)) ∧ Below w.heap.size w w') = PO at *
  generalize sxEq ⟨hh1, hd1, ms1, hs1, ⟨k1, br1, og1, cu1, ts1, dn1, md1, st1⟩, ys1⟩ ⟨hh2, hd2, ms2, hs2, ⟨k2, br2, og2, cu2, ts2, dn2, md2, st2⟩, ys2⟩ = SX at *
  generalize eqL mvEq ms1 ms2 = b4 at *
  generalize sqEq ⟨q1, bq1, oq1, cq1, tq1, dq1, mq1, sq1⟩ ⟨q2, bq2, oq2, cq2, tq2, dq2, mq2, sq2⟩ = b5 at *
  generalize eqL myEq ys1 ys2 = b6 at *
  have HSq1 : Hid ((Try.prog.info? 65).map (·.size) = some (sqV q1 bq1 oq1 cq1 (.slice Aq1 nq1 Cq1) dq1 mq1 sq1).length) := Lib.hid (by rw [HQl1.out]; exact infoSq)
  have HSq2 : Hid ((Try.prog.info? 65).map (·.size) = some (sqV q2 bq2 oq2 cq2 (.slice Aq2 nq2 Cq2) dq2 mq2 sq2).length) := Lib.hid (by rw [HQl2.out]; exact infoSq)
  clear hPD hM1 hM2 hT1 hT2 hTi1 hTi2 hY1 hY2 HTq1 HTq2 HIo1 HIo2 HIc1 HIc2 HAsk1 HAsk2 HH1 HH2 ho1 ho2 hc1 hc2 hql1 hql2 hxl1 hxl2 hqq1 hqq2 hxq1 hxq2 hx11 hx12 hb1 hb2 hr1 hr1b hr2 hX1
  generalize sqV q1 bq1 oq1 cq1 (.slice Aq1 nq1 Cq1) dq1 mq1 sq1 = S1 at *
  generalize sqV q2 bq2 oq2 cq2 (.slice Aq2 nq2 Cq2) dq2 mq2 sq2 = S2 at *
  obtain ⟨DA, hDA⟩ : ∃ D, D = txV hh1 h1 (.slice A1 n1 C1) hs1 S1 (.slice Am1 m1 Cm1) := ⟨_, rfl⟩
  obtain ⟨DB, hDB⟩ : ∃ D, D = txV hh2 h2 (.slice A2 n2 C2) hs2 S2 (.slice Am2 m2 Cm2) := ⟨_, rfl⟩
  rw [← hDA] at HAk1 HTa1 HXl1 HX11
  rw [← hDB] at HAk2 HTa2 HXl2 HX12
  clear hDA hDB
  go_enter Try.func34, Try.ntmps34
  go_upto_region 1 with (fail)
  generalize (w.alloc (.cells CA.toArray 68)).alloc (.cells CB.toArray 68) = wA at *
  have dB : Hid (Below w.heap.size w wA.drew) := Lib.hid HB.out.drew
  have dR1 := Lib.hid (World.rowIs.drew HRa.out)
  have dR2 := Lib.hid (World.rowIs.drew HRb.out)
  have hXl' : w.heap.size < wA.drew.heap.size := hXl
  have hXl2' : w.heap.size + 1 < wA.drew.heap.size := hXl2
  clear HRa HRb HB
  go_cut [] (fun wx => Hid (wx.rowIs w.heap.size 68 75 (fun i => DA.getD i undef)) ∧ Hid (wx.rowIs (w.heap.size + 1) 68 75 (fun i => DB.getD i undef)) ∧ Hid (Below w.heap.size w wx))
  case first =>
    refine wp_region_noPanic ?_
    refine wp_region_held_drew (S := (fun _ => True)) (by kernel_rfl) ?_ (fun hHeld => ?_)
    · ((try dsimp only); all_goals trivial)
    refine wpAnyH_ready (rs := [0, 2]) (by kernel_rfl) (by simp) ?_
    refine AllReadyH.cons (o := { dst := some 5, op := Op.load 68 (Operand.tmp 2), type := 68, pos := "tx.go:175", after := #[], guard := none }) rfl (fun K hK => ?_) ?_
    · refine step_load_mid rfl _ _ rfl w.heap.size 0 rfl CA _ (HXa.out _ dR1.out) Try.underlying68 rfl HSz1.out ?_
      (try go_wp2_with fail)
      refine hK.out _ _ ?_ (fun hNew => ?_)
      · ((try dsimp only); all_goals trivial)
      clear hK K hHeld
      have hHeld := hNew
      clear hNew
      (try simp only [Act.put, List.setIfInBounds_toArray, List.set_cons_zero, List.set_cons_succ])
      refine wpAnyH_ready (rs := [1, 2]) (by kernel_rfl) (by simp) ?_
      refine AllReadyH.cons (o := { dst := some 6, op := Op.call { callee := Callee.value (Operand.func 67), args := #[Operand.tmp 5], argTypes := #[68] }, type := 68, pos := "tx.go:175", after := #[{ on := 0, ground := Ground.data }], guard := none }) rfl (fun K hK => ?_) ?_
      · go_simp
        refine (HAk1.out _).mono ?_
        rintro e w1 ⟨rfl, hb⟩
        have eR1 := Lib.hid (World.rowIs.of_block dR1.out (hb.block _ dR1.out.lt))
        have eR2 := Lib.hid (World.rowIs.of_block dR2.out (hb.block _ dR2.out.lt))
        have eB := Lib.hid (dB.out.trans (hb.mono dB.out.size))
        clear dR1 dR2 dB hb
        have dR1 := eR1
        have dR2 := eR2
        have dB := eB
        clear eR1 eR2 eB
        (try go_wp2_with fail)
        refine hK.out _ _ ?_ (fun hNew => ?_)
        · ((try dsimp only); all_goals trivial)
        clear hK K hHeld
        have hHeld := hNew
        clear hNew
        (try simp only [Act.put, List.setIfInBounds_toArray, List.set_cons_zero, List.set_cons_succ])
        refine wpAnyH_ready (rs := [2]) (by kernel_rfl) (by simp) ?_
        refine AllReadyH.cons (o := { dst := some 7, op := Op.load 68 (Operand.tmp 3), type := 68, pos := "tx.go:175", after := #[], guard := none }) rfl (fun K hK => ?_) ?_
        · refine step_load_mid rfl _ _ rfl (w.heap.size + 1) 0 rfl CB _ (HXb.out _ dR2.out) Try.underlying68 rfl HSz2.out ?_
          (try go_wp2_with fail)
          refine hK.out _ _ ?_ (fun hNew => ?_)
          · ((try dsimp only); all_goals trivial)
          clear hK K hHeld
          have hHeld := hNew
          clear hNew
          (try simp only [Act.put, List.setIfInBounds_toArray, List.set_cons_zero, List.set_cons_succ])
          refine wpAnyH_ready (rs := [3]) (by kernel_rfl) (by simp) ?_
          refine AllReadyH.cons (o := { dst := some 8, op := Op.call { callee := Callee.value (Operand.func 67), args := #[Operand.tmp 7], argTypes := #[68] }, type := 68, pos := "tx.go:175", after := #[{ on := 2, ground := Ground.data }, { on := 1, ground := Ground.chain }], guard := none }) rfl (fun K hK => ?_) ?_
          · go_simp
            refine (HAk2.out _).mono ?_
            rintro e w2 ⟨rfl, hb⟩
            have eR1 := Lib.hid (World.rowIs.of_block dR1.out (hb.block _ dR1.out.lt))
            have eR2 := Lib.hid (World.rowIs.of_block dR2.out (hb.block _ dR2.out.lt))
            have eB := Lib.hid (dB.out.trans (hb.mono dB.out.size))
            clear dR1 dR2 dB hb
            have dR1 := eR1
            have dR2 := eR2
            have dB := eB
            have HFa := Lib.hid (Fin.mkN infoTx HXl1.out HX11.out dR1.out dB.out (Nat.le_refl _))
            clear eR1 eR2 eB
            (try go_wp2_with fail)
            refine hK.out _ _ ?_ (fun hNew => ?_)
            · ((try dsimp only); all_goals trivial)
            clear hK K hHeld
            have hHeld := hNew
            clear hNew
            (try simp only [Act.put, List.setIfInBounds_toArray, List.set_cons_zero, List.set_cons_succ])
            refine wpAnyH_ready (rs := [4]) (by kernel_rfl) (by simp) ?_
            refine AllReadyH.cons (o := { dst := none, op := Op.store 68 (Operand.tmp 2) (Operand.tmp 6), type := 0, pos := "tx.go:175", after := #[{ on := 1, ground := Ground.data }, { on := 3, ground := Ground.chain }, { on := 0, ground := Ground.phase }, { on := 1, ground := Ground.phase }, { on := 2, ground := Ground.textOnly Departure.lateStores }, { on := 3, ground := Ground.textOnly Departure.lateStoresUnsure }], guard := none }) rfl (fun K hK => ?_) ?_
            · refine step_store_mid rfl _ _ _ rfl w.heap.size 0 DA.toArray rfl rfl HFa.out.there HFa.out.size HFa.out.one ?_
              have eR1 := Lib.hid (row_of_stored (n := 75) HFa.out.stored HXl1.out)
              have eR2 := Lib.hid (row_apart (b := w.heap.size + 1) (E := w.heap.size) (by omega) DA 0 _ dR2.out)
              have eB := Lib.hid HFa.out.bel
              clear dR1 dR2 dB HFa
              have dR1 := eR1
              have dR2 := eR2
              have dB := eB
              have HFb := Lib.hid (Fin.mkN infoTx HXl2.out HX12.out dR2.out dB.out (show w.heap.size ≤ w.heap.size + 1 by omega))
              clear eR1 eR2 eB
              (try go_wp2_with fail)
              refine hK.out _ _ ?_ (fun hNew => ?_)
              · ((try dsimp only); all_goals trivial)
              clear hK K hHeld
              have hHeld := hNew
              clear hNew
              (try simp only [Act.put, List.setIfInBounds_toArray, List.set_cons_zero, List.set_cons_succ])
              refine wpAnyH_ready (rs := [5]) (by kernel_rfl) (by simp) ?_
              refine AllReadyH.cons (o := { dst := none, op := Op.store 68 (Operand.tmp 3) (Operand.tmp 8), type := 0, pos := "tx.go:175", after := #[{ on := 3, ground := Ground.data }, { on := 4, ground := Ground.chain }, { on := 0, ground := Ground.phase }, { on := 1, ground := Ground.phase }, { on := 2, ground := Ground.phase }, { on := 3, ground := Ground.phase }, { on := 4, ground := Ground.phase }], guard := none }) rfl (fun K hK => ?_) ?_
              · refine step_store_mid rfl _ _ _ rfl (w.heap.size + 1) 0 DB.toArray rfl rfl HFb.out.there HFb.out.size HFb.out.one ?_
                have eR2 := Lib.hid (row_of_stored (n := 75) HFb.out.stored HXl2.out)
                have eR1 := Lib.hid (row_apart (b := w.heap.size) (E := w.heap.size + 1) (by omega) DB 0 _ dR1.out)
                have eB := Lib.hid HFb.out.bel
                clear dR1 dR2 dB HFb
                have dR1 := eR1
                have dR2 := eR2
                have dB := eB
                clear eR1 eR2 eB
                (try go_wp2_with fail)
                refine hK.out _ _ ?_ (fun hNew => ?_)
                · ((try dsimp only); all_goals trivial)
                clear hK K hHeld
                have hHeld := hNew
                clear hNew
                (try simp only [Act.put, List.setIfInBounds_toArray, List.set_cons_zero, List.set_cons_succ])
                refine wpAnyH_done (by kernel_rfl) ?_ _
                refine NoPanic.normal ?_
                clear hHeld
                go_wp2_with fail
                go_meet
                exact ⟨dR1, dR2, dB⟩
              exact AllReadyH.nil
            exact AllReadyH.nil
          exact AllReadyH.nil
        exact AllReadyH.nil
      refine AllReadyH.cons (o := { dst := some 7, op := Op.load 68 (Operand.tmp 3), type := 68, pos := "tx.go:175", after := #[], guard := none }) rfl (fun K hK => ?_) ?_
      · refine step_load_mid rfl _ _ rfl (w.heap.size + 1) 0 rfl CB _ (HXb.out _ dR2.out) Try.underlying68 rfl HSz2.out ?_
        (try go_wp2_with fail)
        refine hK.out _ _ ?_ (fun hNew => ?_)
        · ((try dsimp only); all_goals trivial)
        clear hK K hHeld
        have hHeld := hNew
        clear hNew
        (try simp only [Act.put, List.setIfInBounds_toArray, List.set_cons_zero, List.set_cons_succ])
        refine wpAnyH_ready (rs := [1]) (by kernel_rfl) (by simp) ?_
        refine AllReadyH.cons (o := { dst := some 6, op := Op.call { callee := Callee.value (Operand.func 67), args := #[Operand.tmp 5], argTypes := #[68] }, type := 68, pos := "tx.go:175", after := #[{ on := 0, ground := Ground.data }], guard := none }) rfl (fun K hK => ?_) ?_
        · go_simp
          refine (HAk1.out _).mono ?_
          rintro e w1 ⟨rfl, hb⟩
          have eR1 := Lib.hid (World.rowIs.of_block dR1.out (hb.block _ dR1.out.lt))
          have eR2 := Lib.hid (World.rowIs.of_block dR2.out (hb.block _ dR2.out.lt))
          have eB := Lib.hid (dB.out.trans (hb.mono dB.out.size))
          clear dR1 dR2 dB hb
          have dR1 := eR1
          have dR2 := eR2
          have dB := eB
          clear eR1 eR2 eB
          (try go_wp2_with fail)
          refine hK.out _ _ ?_ (fun hNew => ?_)
          · ((try dsimp only); all_goals trivial)
          clear hK K hHeld
          have hHeld := hNew
          clear hNew
          (try simp only [Act.put, List.setIfInBounds_toArray, List.set_cons_zero, List.set_cons_succ])
          refine wpAnyH_ready (rs := [3]) (by kernel_rfl) (by simp) ?_
          refine AllReadyH.cons (o := { dst := some 8, op := Op.call { callee := Callee.value (Operand.func 67), args := #[Operand.tmp 7], argTypes := #[68] }, type := 68, pos := "tx.go:175", after := #[{ on := 2, ground := Ground.data }, { on := 1, ground := Ground.chain }], guard := none }) rfl (fun K hK => ?_) ?_
          · go_simp
            refine (HAk2.out _).mono ?_
            rintro e w2 ⟨rfl, hb⟩
            have eR1 := Lib.hid (World.rowIs.of_block dR1.out (hb.block _ dR1.out.lt))
            have eR2 := Lib.hid (World.rowIs.of_block dR2.out (hb.block _ dR2.out.lt))
            have eB := Lib.hid (dB.out.trans (hb.mono dB.out.size))
            clear dR1 dR2 dB hb
            have dR1 := eR1
            have dR2 := eR2
            have dB := eB
            have HFa := Lib.hid (Fin.mkN infoTx HXl1.out HX11.out dR1.out dB.out (Nat.le_refl _))
            clear eR1 eR2 eB
            (try go_wp2_with fail)
            refine hK.out _ _ ?_ (fun hNew => ?_)
            · ((try dsimp only); all_goals trivial)
            clear hK K hHeld
            have hHeld := hNew
            clear hNew
            (try simp only [Act.put, List.setIfInBounds_toArray, List.set_cons_zero, List.set_cons_succ])
            refine wpAnyH_ready (rs := [4]) (by kernel_rfl) (by simp) ?_
            refine AllReadyH.cons (o := { dst := none, op := Op.store 68 (Operand.tmp 2) (Operand.tmp 6), type := 0, pos := "tx.go:175", after := #[{ on := 1, ground := Ground.data }, { on := 3, ground := Ground.chain }, { on := 0, ground := Ground.phase }, { on := 1, ground := Ground.phase }, { on := 2, ground := Ground.textOnly Departure.lateStores }, { on := 3, ground := Ground.textOnly Departure.lateStoresUnsure }], guard := none }) rfl (fun K hK => ?_) ?_
            · refine step_store_mid rfl _ _ _ rfl w.heap.size 0 DA.toArray rfl rfl HFa.out.there HFa.out.size HFa.out.one ?_
              have eR1 := Lib.hid (row_of_stored (n := 75) HFa.out.stored HXl1.out)
              have eR2 := Lib.hid (row_apart (b := w.heap.size + 1) (E := w.heap.size) (by omega) DA 0 _ dR2.out)
              have eB := Lib.hid HFa.out.bel
              clear dR1 dR2 dB HFa
              have dR1 := eR1
              have dR2 := eR2
              have dB := eB
              have HFb := Lib.hid (Fin.mkN infoTx HXl2.out HX12.out dR2.out dB.out (show w.heap.size ≤ w.heap.size + 1 by omega))
              clear eR1 eR2 eB
              (try go_wp2_with fail)
              refine hK.out _ _ ?_ (fun hNew => ?_)
              · ((try dsimp only); all_goals trivial)
              clear hK K hHeld
              have hHeld := hNew
              clear hNew
              (try simp only [Act.put, List.setIfInBounds_toArray, List.set_cons_zero, List.set_cons_succ])
              refine wpAnyH_ready (rs := [5]) (by kernel_rfl) (by simp) ?_
              refine AllReadyH.cons (o := { dst := none, op := Op.store 68 (Operand.tmp 3) (Operand.tmp 8), type := 0, pos := "tx.go:175", after := #[{ on := 3, ground := Ground.data }, { on := 4, ground := Ground.chain }, { on := 0, ground := Ground.phase }, { on := 1, ground := Ground.phase }, { on := 2, ground := Ground.phase }, { on := 3, ground := Ground.phase }, { on := 4, ground := Ground.phase }], guard := none }) rfl (fun K hK => ?_) ?_
              · refine step_store_mid rfl _ _ _ rfl (w.heap.size + 1) 0 DB.toArray rfl rfl HFb.out.there HFb.out.size HFb.out.one ?_
                have eR2 := Lib.hid (row_of_stored (n := 75) HFb.out.stored HXl2.out)
                have eR1 := Lib.hid (row_apart (b := w.heap.size) (E := w.heap.size + 1) (by omega) DB 0 _ dR1.out)
                have eB := Lib.hid HFb.out.bel
                clear dR1 dR2 dB HFb
                have dR1 := eR1
                have dR2 := eR2
                have dB := eB
                clear eR1 eR2 eB
                (try go_wp2_with fail)
                refine hK.out _ _ ?_ (fun hNew => ?_)
                · ((try dsimp only); all_goals trivial)
                clear hK K hHeld
                have hHeld := hNew
                clear hNew
                (try simp only [Act.put, List.setIfInBounds_toArray, List.set_cons_zero, List.set_cons_succ])
                refine wpAnyH_done (by kernel_rfl) ?_ _
                refine NoPanic.normal ?_
                clear hHeld
                go_wp2_with fail
                go_meet
                exact ⟨dR1, dR2, dB⟩
              exact AllReadyH.nil
            exact AllReadyH.nil
          exact AllReadyH.nil
        exact AllReadyH.nil
      exact AllReadyH.nil
    refine AllReadyH.cons (o := { dst := some 7, op := Op.load 68 (Operand.tmp 3), type := 68, pos := "tx.go:175", after := #[], guard := none }) rfl (fun K hK => ?_) ?_
    · refine step_load_mid rfl _ _ rfl (w.heap.size + 1) 0 rfl CB _ (HXb.out _ dR2.out) Try.underlying68 rfl HSz2.out ?_
      (try go_wp2_with fail)
      refine hK.out _ _ ?_ (fun hNew => ?_)
      · ((try dsimp only); all_goals trivial)
      clear hK K hHeld
      have hHeld := hNew
      clear hNew
      (try simp only [Act.put, List.setIfInBounds_toArray, List.set_cons_zero, List.set_cons_succ])
      refine wpAnyH_ready (rs := [0]) (by kernel_rfl) (by simp) ?_
      refine AllReadyH.cons (o := { dst := some 5, op := Op.load 68 (Operand.tmp 2), type := 68, pos := "tx.go:175", after := #[], guard := none }) rfl (fun K hK => ?_) ?_
      · refine step_load_mid rfl _ _ rfl w.heap.size 0 rfl CA _ (HXa.out _ dR1.out) Try.underlying68 rfl HSz1.out ?_
        (try go_wp2_with fail)
        refine hK.out _ _ ?_ (fun hNew => ?_)
        · ((try dsimp only); all_goals trivial)
        clear hK K hHeld
        have hHeld := hNew
        clear hNew
        (try simp only [Act.put, List.setIfInBounds_toArray, List.set_cons_zero, List.set_cons_succ])
        refine wpAnyH_ready (rs := [1]) (by kernel_rfl) (by simp) ?_
        refine AllReadyH.cons (o := { dst := some 6, op := Op.call { callee := Callee.value (Operand.func 67), args := #[Operand.tmp 5], argTypes := #[68] }, type := 68, pos := "tx.go:175", after := #[{ on := 0, ground := Ground.data }], guard := none }) rfl (fun K hK => ?_) ?_
        · go_simp
          refine (HAk1.out _).mono ?_
          rintro e w1 ⟨rfl, hb⟩
          have eR1 := Lib.hid (World.rowIs.of_block dR1.out (hb.block _ dR1.out.lt))
          have eR2 := Lib.hid (World.rowIs.of_block dR2.out (hb.block _ dR2.out.lt))
          have eB := Lib.hid (dB.out.trans (hb.mono dB.out.size))
          clear dR1 dR2 dB hb
          have dR1 := eR1
          have dR2 := eR2
          have dB := eB
          clear eR1 eR2 eB
          (try go_wp2_with fail)
          refine hK.out _ _ ?_ (fun hNew => ?_)
          · ((try dsimp only); all_goals trivial)
          clear hK K hHeld
          have hHeld := hNew
          clear hNew
          (try simp only [Act.put, List.setIfInBounds_toArray, List.set_cons_zero, List.set_cons_succ])
          refine wpAnyH_ready (rs := [3]) (by kernel_rfl) (by simp) ?_
          refine AllReadyH.cons (o := { dst := some 8, op := Op.call { callee := Callee.value (Operand.func 67), args := #[Operand.tmp 7], argTypes := #[68] }, type := 68, pos := "tx.go:175", after := #[{ on := 2, ground := Ground.data }, { on := 1, ground := Ground.chain }], guard := none }) rfl (fun K hK => ?_) ?_
          · go_simp
            refine (HAk2.out _).mono ?_
            rintro e w2 ⟨rfl, hb⟩
            have eR1 := Lib.hid (World.rowIs.of_block dR1.out (hb.block _ dR1.out.lt))
            have eR2 := Lib.hid (World.rowIs.of_block dR2.out (hb.block _ dR2.out.lt))
            have eB := Lib.hid (dB.out.trans (hb.mono dB.out.size))
            clear dR1 dR2 dB hb
            have dR1 := eR1
            have dR2 := eR2
            have dB := eB
            have HFa := Lib.hid (Fin.mkN infoTx HXl1.out HX11.out dR1.out dB.out (Nat.le_refl _))
            clear eR1 eR2 eB
            (try go_wp2_with fail)
            refine hK.out _ _ ?_ (fun hNew => ?_)
            · ((try dsimp only); all_goals trivial)
            clear hK K hHeld
            have hHeld := hNew
            clear hNew
            (try simp only [Act.put, List.setIfInBounds_toArray, List.set_cons_zero, List.set_cons_succ])
            refine wpAnyH_ready (rs := [4]) (by kernel_rfl) (by simp) ?_
            refine AllReadyH.cons (o := { dst := none, op := Op.store 68 (Operand.tmp 2) (Operand.tmp 6), type := 0, pos := "tx.go:175", after := #[{ on := 1, ground := Ground.data }, { on := 3, ground := Ground.chain }, { on := 0, ground := Ground.phase }, { on := 1, ground := Ground.phase }, { on := 2, ground := Ground.textOnly Departure.lateStores }, { on := 3, ground := Ground.textOnly Departure.lateStoresUnsure }], guard := none }) rfl (fun K hK => ?_) ?_
            · refine step_store_mid rfl _ _ _ rfl w.heap.size 0 DA.toArray rfl rfl HFa.out.there HFa.out.size HFa.out.one ?_
              have eR1 := Lib.hid (row_of_stored (n := 75) HFa.out.stored HXl1.out)
              have eR2 := Lib.hid (row_apart (b := w.heap.size + 1) (E := w.heap.size) (by omega) DA 0 _ dR2.out)
              have eB := Lib.hid HFa.out.bel
              clear dR1 dR2 dB HFa
              have dR1 := eR1
              have dR2 := eR2
              have dB := eB
              have HFb := Lib.hid (Fin.mkN infoTx HXl2.out HX12.out dR2.out dB.out (show w.heap.size ≤ w.heap.size + 1 by omega))
              clear eR1 eR2 eB
              (try go_wp2_with fail)
              refine hK.out _ _ ?_ (fun hNew => ?_)
              · ((try dsimp only); all_goals trivial)
              clear hK K hHeld
              have hHeld := hNew
              clear hNew
              (try simp only [Act.put, List.setIfInBounds_toArray, List.set_cons_zero, List.set_cons_succ])
              refine wpAnyH_ready (rs := [5]) (by kernel_rfl) (by simp) ?_
              refine AllReadyH.cons (o := { dst := none, op := Op.store 68 (Operand.tmp 3) (Operand.tmp 8), type := 0, pos := "tx.go:175", after := #[{ on := 3, ground := Ground.data }, { on := 4, ground := Ground.chain }, { on := 0, ground := Ground.phase }, { on := 1, ground := Ground.phase }, { on := 2, ground := Ground.phase }, { on := 3, ground := Ground.phase }, { on := 4, ground := Ground.phase }], guard := none }) rfl (fun K hK => ?_) ?_
              · refine step_store_mid rfl _ _ _ rfl (w.heap.size + 1) 0 DB.toArray rfl rfl HFb.out.there HFb.out.size HFb.out.one ?_
                have eR2 := Lib.hid (row_of_stored (n := 75) HFb.out.stored HXl2.out)
                have eR1 := Lib.hid (row_apart (b := w.heap.size) (E := w.heap.size + 1) (by omega) DB 0 _ dR1.out)
                have eB := Lib.hid HFb.out.bel
                clear dR1 dR2 dB HFb
                have dR1 := eR1
                have dR2 := eR2
                have dB := eB
                clear eR1 eR2 eB
                (try go_wp2_with fail)
                refine hK.out _ _ ?_ (fun hNew => ?_)
                · ((try dsimp only); all_goals trivial)
                clear hK K hHeld
                have hHeld := hNew
                clear hNew
                (try simp only [Act.put, List.setIfInBounds_toArray, List.set_cons_zero, List.set_cons_succ])
                refine wpAnyH_done (by kernel_rfl) ?_ _
                refine NoPanic.normal ?_
                clear hHeld
                go_wp2_with fail
                go_meet
                exact ⟨dR1, dR2, dB⟩
              exact AllReadyH.nil
            exact AllReadyH.nil
          exact AllReadyH.nil
        exact AllReadyH.nil
      exact AllReadyH.nil
    exact AllReadyH.nil
  case rest =>
    obtain ⟨dR1, dR2, dB⟩ := hcut
    generalize wc = wS at *
    have hT1 := HTa1.out _ dR1.out
    have hT2 := HTa2.out _ dR2.out
    have hh1c := hT1.c0
    have hh2c := hT2.c0
    have hd1c := hT1.c1
    have hd2c := hT2.c1
    have hs1c := hT1.c3
    have hs2c := hT2.c3
    have hm1c := hT1.c2
    have hm2c := hT2.c2
    have HBw := dB
    have hws : w.heap.size ≤ wS.heap.size := HBw.out.size
    have hX1s := dR1.out.lt
    have hX2s := dR2.out.lt
    have HQ1 := Lib.hid hT1.sq
    have HQ2 := Lib.hid hT2.sq
    have HY1 := Lib.hid hT1.mm
    have HY2 := Lib.hid hT2.mm
    clear hT1 hT2 dR1 dR2 dB
    obtain ⟨b1, e1⟩ : ∃ b, (hh1 == hh2) = b := ⟨_, rfl⟩
    obtain ⟨b2, e2⟩ : ∃ b, (h1.toList == h2.toList) = b := ⟨_, rfl⟩
    obtain ⟨b3, e3⟩ : ∃ b, (hs1 == hs2) = b := ⟨_, rfl⟩
    rw [e1, e2, e3] at HQ
    cases b1
    · go_wp2_with fail
      exact HPost.out false _ (by rw [HQ.out]; rfl) HBw.out
    cases b2
    · go_wp2_with fail
      exact HPost.out false _ (by rw [HQ.out]; rfl) HBw.out
    cases b3
    · go_wp2_with fail
      exact HPost.out false _ (by rw [HQ.out]; rfl) HBw.out
    go_wp2_with fail
    refine (HEm.out wS HBw.out).mono ?_
    rintro e w4 ⟨rfl, hb⟩
    have HB4 := Lib.hid (HBw.out.trans (hb.mono hws))
    have hws4 : w.heap.size ≤ w4.heap.size := HB4.out.size
    have HR1 := Lib.hid (range_below hb HQ1.out hX1s)
    have HR2 := Lib.hid (range_below hb HQ2.out hX2s)
    have HZ1 := Lib.hid ((hb.cell (p := ⟨w.heap.size, 74, none⟩) hX1s).trans HY1.out)
    have HZ2 := Lib.hid ((hb.cell (p := ⟨w.heap.size + 1, 74, none⟩) hX2s).trans HY2.out)
    have hX1t : w.heap.size < w4.heap.size := Nat.lt_of_lt_of_le hX1s hb.size
    have hX2t : w.heap.size + 1 < w4.heap.size := Nat.lt_of_lt_of_le hX2s hb.size
    clear hb
    cases b4
    · go_wp2_with fail
      exact HPost.out false _ (by rw [HQ.out]; rfl) HB4.out
    go_wp2_with (first
      | (refine wpList_load_gd (by rfl) _ _ rfl w.heap.size 4 rfl S1 _ HR1.out Try.underlying65 rfl HSq1.out ?_)
      | (refine wpList_load_gd (by rfl) _ _ rfl (w.heap.size + 1) 4 rfl S2 _ HR2.out Try.underlying65 rfl HSq2.out ?_))
    refine (HEs.out w4 HB4.out).mono ?_
    rintro e w5 ⟨rfl, hb⟩
    have HB5 := Lib.hid (HB4.out.trans (hb.mono hws4))
    have hz1 : w5.cell? ⟨w.heap.size, 74, none⟩ = some (.slice Am1 m1 Cm1) := (hb.cell (p := ⟨w.heap.size, 74, none⟩) hX1t).trans HZ1.out
    have hz2 : w5.cell? ⟨w.heap.size + 1, 74, none⟩ = some (.slice Am2 m2 Cm2) := (hb.cell (p := ⟨w.heap.size + 1, 74, none⟩) hX2t).trans HZ2.out
    have hws5 : w.heap.size ≤ w5.heap.size := HB5.out.size
    clear hb
    cases b5
    · go_wp2_with fail
      exact HPost.out false _ (by rw [HQ.out]; rfl) HB5.out
    go_wp2_with fail
    refine (HEy.out w5 HB5.out).mono ?_
    rintro e w6 ⟨rfl, hb⟩
    have HB6 := Lib.hid (HB5.out.trans (hb.mono hws5))
    clear hb
    cases b6
    · go_wp2_with fail
      exact HPost.out false _ (by rw [HQ.out]; rfl) HB6.out
    go_wp2_with fail
    exact HPost.out true _ (by rw [HQ.out]; rfl) HB6.out
end Go.Proofs.Ytmcmapgllaopmaa.Cd
end

section
namespace Go.Proofs.Ytmcmapgllaopmaa.Cd
open Go.RowKit
set_option linter.unusedVariables false
theorem Bs.drew {w0 : World} {B X : Nat} {t : TypeId} {sz : Nat} {CM : List Value} {wc : World} {v : Value} {n : Nat} {E : List Int} (h : Bs w0 B X t sz CM wc v n E) : Bs w0 B X t sz CM wc.drew v n E :=
  ⟨own_drew h.own, h.row.drew, h.bel.drew, h.kpt.trans h.bel.size (fun _ _ _ => rfl), h.bas⟩
theorem be_one (x : Int) (h0 : 0 ≤ x) (h1 : x ≤ 255) : be 1 x = [x] := by
  show [x / 2 ^ (8 * 0) % 256] = [x]
  rw [show x / 2 ^ (8 * 0) % 256 = x by simp; omega]
end Go.Proofs.Ytmcmapgllaopmaa.Cd
end

section
namespace Go.Proofs.Ytmcmapgllaopmaa.Cd
open Go.RowKit
set_option linter.unusedVariables false
/-- the first byte is set -/
theorem Bs.set0 {w0 : World} {B X : Nat} {t : TypeId} {sz : Nat} {CM : List Value} {wc : World} {g n c : Nat} {x : Int} {E : List Int} (h : Bs w0 B X t sz CM wc (.slice (some ⟨g, 0, none⟩) n c) n (x :: E)) (ht : t ≠ 5) (y : Int) :
    Bs w0 B X t sz CM (wc.setCell ⟨g, 0, none⟩ (.int .u8 y)) (.slice (some ⟨g, 0, none⟩) n c) n (y :: E) := by
  obtain ⟨h1, h2, h3, h4, h5⟩ := own_set0 (y := y) h.own
  exact h.next ht h4 ((Below.refl B wc).setCell (p := ⟨g, 0, none⟩) h3 _) h5
theorem OwnRetK.kept {B n : Nat} {xs : List Value} {w w' : World} {e : Ending} (h : OwnRetK B n xs w e w') : KeptT w w' := by
  obtain ⟨v', -, -, -, hk⟩ := h
  exact hk
theorem sqBs_len {k : Int} {br : ByteArray} {og cu : List Int} {ts : List Td} {dn md : Int} {st : Bool} (ho : og.length = 32) (hc : cu.length = 32) (ht : ∀ t ∈ ts, t.id.length = 32) (hb : br.size ≤ 1000000000) (hn : ts.length ≤ 65535) : (sqBs k br og cu ts dn md st).length ≤ 1100000000 := by
  unfold sqBs
  split
  · simp
  · simp [sqH, sqT, be_length, sv_len, ho, hc, tdBs_len ts ht]
    omega
theorem own_some {w : World} {B n : Nat} {A : Option Addr} {C : Nat} {x : Int} {E : List Int} (h : w.ownsRow B 5 1 (.slice A n C) n (bv (x :: E))) : ∃ g, A = some ⟨g, 0, none⟩ ∧ 0 < n ∧ n ≤ C ∧ C ≤ maxLen := by
  have hl := h.1
  have hn : 0 < n := by simp [bv] at hl; omega
  obtain ⟨g, c, hv, h1, h2⟩ := own_open h hn
  simp only [Value.slice.injEq, true_and] at hv
  obtain ⟨rfl, rfl⟩ := hv
  exact ⟨g, rfl, hn, h1, h2⟩
set_option maxRecDepth 100000 in
set_option maxHeartbeats 8000000 in
theorem encodeTx_any (G : Nat) (hh : Bool) (hd : ByteArray) (A : Option Addr) (n C : Nat) (ms : List Mv) (hs : Bool) (k : Int) (br : ByteArray) (og cu : List Int) (At : Option Addr) (nt Ct : Nat) (ts : List Td) (dn md : Int) (st : Bool) (Am : Option Addr) (m Cm : Nat) (ys : List My) (w : World)
    (ho : IdOk og) (hc : IdOk cu) (hM : RdM G w A n C ms) (hMi : ∀ x ∈ ms, IdOk x.od ∧ IdOk x.nw) (hT : RdT G w At nt Ct ts) (hTi : ∀ t ∈ ts, IdOk t.id) (hY : RdY G w Am m Cm ys) (hYi : ∀ y ∈ ys, IdOk y.key) (hG : G ≤ w.heap.size) (hn : n ≤ 1000000000) (hm : m ≤ 1000000000) (hnt : nt ≤ 1000000000) (hhd : hd.size ≤ 1000000000) (hbr : br.size ≤ 1000000000) :
    Calls Try.prog 29 #[.agg (txV hh hd (.slice A n C) hs (sqV k br og cu (.slice At nt Ct) dn md st) (.slice Am m Cm)).toArray] w (TxRet ⟨hh, hd, ms, hs, ⟨k, br, og, cu, ts, dn, md, st⟩, ys⟩ w) := by
  have hql := sqV_len (k := k) (br := br) (td := Value.slice At nt Ct) (dn := dn) (md := md) (st := st) ho.1 hc.1
  have hxl := txV_len (hh := hh) (hd := hd) (mv := .slice A n C) (hs := hs) (mm := .slice Am m Cm) hql
  have hb1 := (Below.refl w.heap.size w).alloc (Nat.le_refl _) (.cells (txV hh hd (.slice A n C) hs (sqV k br og cu (.slice At nt Ct) dn md st) (.slice Am m Cm)).toArray 68)
  have hr1 := row_newL w (txV hh hd (.slice A n C) hs (sqV k br og cu (.slice At nt Ct) dn md st) (.slice Am m Cm)) 68 75 hxl
  have HAk := Lib.hid (fun W => asked_any hh hd (.slice A n C) hs k br og cu (.slice At nt Ct) dn md st (.slice Am m Cm) W ho.1 hc.1 rfl rfl rfl)
  obtain ⟨k', br', og', cu', At', nt', Ct', ts', dn', md', st', e1, e2, ho', hc', hT', hTi', hnt', hbr'⟩ := ak_form G hs k br og cu At nt Ct ts dn md st w ho hc hT hTi hnt hbr
  rw [e1] at HAk
  have HXr := Lib.hid (row_range hr1 hxl)
  have HX1 := Lib.hid hr1
  have HB1 := Lib.hid hb1
  have hXl := hr1.lt
  have HSz1 : Hid ((Try.prog.info? 68).map (·.size) = some (txV hh hd (.slice A n C) hs (sqV k br og cu (.slice At nt Ct) dn md st) (.slice Am m Cm)).length) := Lib.hid (by rw [hxl]; exact infoTx)
  have hh2s : (akH hh hd).size ≤ 1000000000 := by
    unfold akH
    split
    · exact hhd
    · decide
  generalize hCM0 : txV hh hd (.slice A n C) hs (sqV k br og cu (.slice At nt Ct) dn md st) (.slice Am m Cm) = CM0 at *
  have hql' := sqV_len (k := k') (br := br') (td := Value.slice At' nt' Ct') (dn := dn') (md := md') (st := st') ho'.1 hc'.1
  have HTE : Hid (txE ⟨hh, hd, ms, hs, ⟨k, br, og, cu, ts, dn, md, st⟩, ys⟩ = if 65535 < ms.length ∨ 65535 < ys.length ∨ 65535 < ts'.length then 4 else if lgB ms (akH hh hd) br' = true then 5 else if nfB ts' k' dn' md' = false then 1 else 0) := Lib.hid (by unfold txE; rw [e2])
  have HTB : Hid (txB ⟨hh, hd, ms, hs, ⟨k, br, og, cu, ts, dn, md, st⟩, ys⟩ = fgB hh hs :: ((if hh = true then be 1 (akH hh hd).size ++ sv (akH hh hd) else []) ++ be 2 ms.length ++ mvBs ms ++ (if hs = true then sqBs k' br' og' cu' ts' dn' md' st' else []) ++ be 2 ys.length ++ myBs ys)) := Lib.hid (by
    unfold txB
    rw [e2]
    cases hh
    · rfl
    · rfl)
  have hbr3 := hbr'
  have HIds : Hid (IdOk og' ∧ IdOk cu' ∧ ∀ t ∈ ts', IdOk t.id) := Lib.hid ⟨ho', hc', hTi'⟩
  clear hT hTi ho hc hnt hbr hql e1 e2 hCM0 hb1 hr1 hxl
  generalize hTD : (⟨hh, hd, ms, hs, ⟨k, br, og, cu, ts, dn, md, st⟩, ys⟩ : TxD) = TD at *
  clear hTD
  obtain ⟨h2, hh2⟩ : ∃ h2, h2 = akH hh hd := ⟨_, rfl⟩
  rw [← hh2] at HAk HTE HTB hh2s
  clear hh2 hhd
  have hxl2 := txV_len (hh := hh) (hd := h2) (mv := .slice A n C) (hs := hs) (mm := .slice Am m Cm) hql'
  have hx1 := txV_one (hh := hh) (hd := h2) (mv := .slice A n C) (hs := hs) (mm := .slice Am m Cm) rfl (sqV_one (k := k') (br := br') (og := og') (cu := cu') (td := .slice At' nt' Ct') (dn := dn') (md := md') (st := st') rfl) rfl
  have HTa : Hid (∀ W : World, W.rowIs w.heap.size 68 75 (fun i => (txV hh h2 (.slice A n C) hs (sqV k' br' og' cu' (.slice At' nt' Ct') dn' md' st') (.slice Am m Cm)).getD i undef) → TxAt W w.heap.size hh h2 (.slice A n C) hs (sqV k' br' og' cu' (.slice At' nt' Ct') dn' md' st') (.slice Am m Cm)) := Lib.hid (fun W h => tx_at hql' (row_range h hxl2))
  have HSa : Hid (∀ W : World, W.rangeAt w.heap.size 4 (sqV k' br' og' cu' (.slice At' nt' Ct') dn' md' st') → SqAt W w.heap.size 4 k' br' og' cu' (.slice At' nt' Ct') dn' md' st') := Lib.hid (fun W h => sq_at ho'.1 hc'.1 h)
  have HLg : Hid (∀ W : World, RdM G W A n C ms → RdY G W Am m Cm ys → G ≤ W.heap.size → Calls Try.prog 68 #[.agg (txV hh h2 (.slice A n C) hs (sqV k' br' og' cu' (.slice At' nt' Ct') dn' md' st') (.slice Am m Cm)).toArray] W fun e w' => e = .returned (.bool (lgB ms h2 br')) ∧ Below W.heap.size W w') := Lib.hid (fun W a b c => hasLong_any G hh h2 A n C ms hs k' br' og' cu' (.slice At' nt' Ct') dn' md' st' Am m Cm ys W ho'.1 hc'.1 a b c hn hm (by omega) (by omega))
  have HNf : Hid (∀ W : World, RdT G W At' nt' Ct' ts' → G ≤ W.heap.size → Calls Try.prog 69 #[.agg (sqV k' br' og' cu' (.slice At' nt' Ct') dn' md' st').toArray] W fun e w' => e = .returned (.bool (nfB ts' k' dn' md')) ∧ Below W.heap.size W w') := Lib.hid (fun W a b => numbersFit_any G k' br' og' cu' At' nt' Ct' ts' dn' md' st' W ho'.1 hc'.1 a b hnt')
  have HPs : Hid (∀ (B : Nat) (v : Value) (d : List Int) (W : World), B ≤ W.heap.size → G ≤ B → W.ownsRow B 5 1 v d.length (bv d) → d.length ≤ 100000000000000 → RdT G W At' nt' Ct' ts' → nfB ts' k' dn' md' = true → Calls Try.prog 70 #[v, .agg (sqV k' br' og' cu' (.slice At' nt' Ct') dn' md' st').toArray] W (OwnRetK B (d.length + (sqBs k' br' og' cu' ts' dn' md' st').length) (bv d ++ bv (sqBs k' br' og' cu' ts' dn' md' st')) W)) := Lib.hid (fun B v d W h1 h2 h3 h4 h5 h6 => by
    simp only [nfB, fitB, Bool.and_eq_true, decide_eq_true_eq] at h6
    obtain ⟨q1, q2, q3, q4⟩ := h6
    exact putSeq_k B v d G k' br' og' cu' At' nt' Ct' ts' dn' md' st' W h1 h2 h3 h4 ho' hc' h5 hTi' hnt' hbr' q2.1 q2.2 q1 q3.1 q3.2 q4.1 q4.2)
  obtain ⟨SQ, hSQ⟩ : ∃ SQ, SQ = sqV k' br' og' cu' (.slice At' nt' Ct') dn' md' st' := ⟨_, rfl⟩
  rw [← hSQ] at HAk hql' hxl2 hx1 HTa HSa HLg HNf HPs
  clear hSQ ho' hc' hTi' hbr'
  have HQl := Lib.hid hql'
  have HXl2 := Lib.hid hxl2
  have HX1o := Lib.hid hx1
  have HM := Lib.hid hM
  have HMi := Lib.hid hMi
  have HT := Lib.hid hT'
  have HY := Lib.hid hY
  have HYi := Lib.hid hYi
  have HMl : Hid (ms.length = n) := Lib.hid (by have := hM.rd.len; simpa using this)
  have HYl : Hid (ys.length = m) := Lib.hid (by have := hY.rd.len; simpa using this)
  have HTl : Hid (ts'.length = nt') := Lib.hid (by have := hT'.rd.len; simpa using this)
  have hcap := hM.rd.cap
  have hmax := hM.rd.max
  have hcap2 := hY.rd.cap
  have hmax2 := hY.rd.max
  have hz1 := zeroMv
  have hz2 := zeroMy
  have HZl : Hid ((Mv.cells ⟨ByteArray.empty, List.replicate 32 0, List.replicate 32 0, ByteArray.empty⟩).toArray.size = 66) := Lib.hid (by simp [Mv.cells, bv])
  have HUl : Hid ((My.cells ⟨List.replicate 32 0, none, 0, 0, []⟩).toArray.size = 33) := Lib.hid (by simp [My.cells, bv])
  generalize (Mv.cells ⟨ByteArray.empty, List.replicate 32 0, List.replicate 32 0, ByteArray.empty⟩).toArray = Z at *
  generalize (My.cells ⟨List.replicate 32 0, none, 0, 0, []⟩).toArray = U at *
  clear hM hMi hT' hY hYi hql' hxl2 hx1
  obtain ⟨DE, hDE⟩ : ∃ DE, DE = txV hh h2 (.slice A n C) hs SQ (.slice Am m Cm) := ⟨_, rfl⟩
  rw [← hDE] at HAk HTa HLg HXl2 HX1o
  have HSz2 : Hid ((Try.prog.info? 68).map (·.size) = some DE.length) := Lib.hid (by rw [HXl2.out]; exact infoTx)
  have HSz3 : Hid ((Try.prog.info? 65).map (·.size) = some SQ.length) := Lib.hid (by rw [HQl.out]; exact infoSq)
  clear hDE
  have HPost : Hid (∀ (e : Ending) (w' : World), Below w.heap.size w w' → ((txE TD ≠ 0 ∧ e = .returned (.tuple #[.slice none 0 0, .int .i64 (txE TD)])) ∨ (txE TD = 0 ∧ ∃ A C, e = .returned (.tuple #[.slice A (txB TD).length C, .int .i64 0]) ∧ w'.ownsRow w.heap.size 5 1 (.slice A (txB TD).length C) (txB TD).length (bv (txB TD)))) → TxRet TD w e w') := Lib.hid (fun e w' h1 h2 => ⟨h1, h2⟩)
  generalize hPD : TxRet TD w = PO at *
  clear hPD
  go_enter Try.func29, Try.ntmps29
  go_upto_region 1 with (fail)
  generalize w.alloc (.cells CM0.toArray 68) = wA at *
  obtain ⟨X, hX⟩ : ∃ X, X = w.heap.size := ⟨_, rfl⟩
  rw [← hX] at HXr HX1 HTa HSa hXl ⊢
  have hXw : w.heap.size ≤ X := by omega
  clear hX
  have HAs := Lib.hid (HAk.out wA)
  go_wp2_with (refine wpList_load_mid rfl _ _ rfl X 0 rfl CM0 _ HXr.out Try.underlying68 rfl HSz1.out ?_)
  refine HAs.out.mono ?_
  rintro e w1 ⟨rfl, hb⟩
  have hr1 := World.rowIs.of_block HX1.out (hb.block X hXl)
  have hb1 := HB1.out.trans (hb.mono (show w.heap.size ≤ wA.heap.size from HB1.out.size))
  have HFx := Lib.hid (Fin.mkN infoTx HXl2.out HX1o.out hr1 hb1 hXw)
  have HX2 := Lib.hid (row_of_stored (n := 75) HFx.out.stored HXl2.out)
  have HB2 := Lib.hid HFx.out.bel
  clear hb hr1 hb1 HAs HAk HXr HX1 HB1
  go_upto_region 2 with (refine wpList_store_mid rfl _ _ _ rfl X 0 DE.toArray rfl rfl HFx.out.there HFx.out.size HFx.out.one ?_)
  change Code.wp _ _ _ _ (w1.setCells X 0 DE)
  clear HFx
  generalize w1.setCells X 0 DE = w2 at *
  have HA2 := Lib.hid (HTa.out w2 HX2.out)
  have hc2 : w2.cell? ⟨X, 2, none⟩ = some (.slice A n C) := HA2.out.c2
  have hc74 : w2.cell? ⟨X, 74, none⟩ = some (.slice Am m Cm) := HA2.out.mm
  have hc70 : w2.cell? ⟨X, 70, none⟩ = some (.slice At' nt' Ct') := (HSa.out w2 HA2.out.sq).td
  have hX2l := HX2.out.lt
  have hs2 : w.heap.size ≤ w2.heap.size := HB2.out.size
  by_cases g1 : 65535 < n
  · have hd1 : decide ((65535 : Int) < (n : Int)) = true := by simp; omega
    have HE : Hid (txE TD = 4) := Lib.hid (by rw [HTE.out, if_pos (.inl (by rw [HMl.out]; exact g1))])
    go_wp2_with fail
    exact HPost.out _ _ HB2.out (.inl ⟨by rw [HE.out]; decide, by rw [HE.out]; rfl⟩)
  · have hd1 : decide ((65535 : Int) < (n : Int)) = false := by simp; omega
    by_cases g2 : 65535 < m
    · have hd2 : decide ((65535 : Int) < (m : Int)) = true := by simp; omega
      have HE : Hid (txE TD = 4) := Lib.hid (by rw [HTE.out, if_pos (.inr (.inl (by rw [HYl.out]; exact g2)))])
      go_wp2_with fail
      exact HPost.out _ _ HB2.out (.inl ⟨by rw [HE.out]; decide, by rw [HE.out]; rfl⟩)
    · have hd2 : decide ((65535 : Int) < (m : Int)) = false := by simp; omega
      by_cases g3 : 65535 < nt'
      · have hd3 : decide ((65535 : Int) < (nt' : Int)) = true := by simp; omega
        have HE : Hid (txE TD = 4) := Lib.hid (by rw [HTE.out, if_pos (.inr (.inr (by rw [HTl.out]; exact g3)))])
        go_wp2_with fail
        exact HPost.out _ _ HB2.out (.inl ⟨by rw [HE.out]; decide, by rw [HE.out]; rfl⟩)
      · have hd3 : decide ((65535 : Int) < (nt' : Int)) = false := by simp; omega
        have HTE2 : Hid (txE TD = if lgB ms h2 br' = true then 5 else if nfB ts' k' dn' md' = false then 1 else 0) := Lib.hid (by rw [HTE.out, if_neg (by rw [HMl.out, HYl.out, HTl.out]; omega)])
        have HLc := Lib.hid (HLg.out w2 (HM.out.below HB2.out hG) (HY.out.below HB2.out (Nat.le_refl _) hG) (by omega))
        have HXr2 := Lib.hid (row_range HX2.out HXl2.out)
        clear HTE HLg
        go_upto_region 4 with (fail)
        clear hd1 hd2 hd3 hc2 hc74 hc70
        go_wp2_with (refine wpList_load_mid rfl _ _ rfl X 0 rfl DE _ HXr2.out Try.underlying68 rfl HSz2.out ?_)
        refine HLc.out.mono ?_
        rintro e w3 ⟨rfl, hb⟩
        have HB3 := Lib.hid (HB2.out.trans (hb.mono hs2))
        have HX3 := Lib.hid (World.rowIs.of_block HX2.out (hb.block X hX2l))
        clear hb HLc HXr2 HX2 HA2 HB2 hX2l hs2
        have hX3l := HX3.out.lt
        have hs3 : w.heap.size ≤ w3.heap.size := HB3.out.size
        cases hlg : lgB ms h2 br'
        rotate_left
        · have HE : Hid (txE TD = 5) := Lib.hid (by rw [HTE2.out, hlg]; rfl)
          clear hlg
          go_wp2_with fail
          exact HPost.out _ _ HB3.out (.inl ⟨by rw [HE.out]; decide, by rw [HE.out]; rfl⟩)
        have HTE3 : Hid (txE TD = if nfB ts' k' dn' md' = false then 1 else 0) := Lib.hid (by rw [HTE2.out, hlg]; rfl)
        have HLm : Hid (∀ x ∈ ms, x.nm.size ≤ 255 ∧ x.wy.size ≤ 65535) := Lib.hid (by
          intro x hx
          simp only [lgB, Bool.or_eq_false_iff] at hlg
          have := List.any_eq_false.1 hlg.1 x hx
          simp [mlB] at this
          exact this)
        have HL2 : Hid (h2.size ≤ 255) := Lib.hid (by
          simp only [lgB, Bool.or_eq_false_iff, decide_eq_false_iff_not] at hlg
          omega)
        clear hlg HTE2
        have HS4 := Lib.hid ((HTa.out w3 HX3.out).sq)
        have HNc := Lib.hid (HNf.out w3 (HT.out.below HB3.out hG) (by omega))
        go_wp2_with (refine wpList_load_mid rfl _ _ rfl X 4 rfl SQ _ HS4.out Try.underlying65 rfl HSz3.out ?_)
        refine HNc.out.mono ?_
        rintro e w4 ⟨rfl, hb⟩
        have HB4 := Lib.hid (HB3.out.trans (hb.mono hs3))
        have HX4 := Lib.hid (World.rowIs.of_block HX3.out (hb.block X hX3l))
        have hs4 : w.heap.size ≤ w4.heap.size := HB4.out.size
        clear hb HNc HS4 HX3 HB3 hX3l hs3 HNf
        cases hnf : nfB ts' k' dn' md'
        · have HE : Hid (txE TD = 1) := Lib.hid (by rw [HTE3.out, hnf]; rfl)
          clear hnf
          go_wp2_with fail
          exact HPost.out _ _ HB4.out (.inl ⟨by rw [HE.out]; decide, by rw [HE.out]; rfl⟩)
        have HE : Hid (txE TD = 0) := Lib.hid (by rw [HTE3.out, hnf]; rfl)
        have HNf := Lib.hid hnf
        clear hnf HTE3
        have hb5 := HB4.out.alloc hs4 (.cells #[.int .u8 0] 5)
        have HS0 : Hid (Bs w w.heap.size X 68 75 DE (w4.alloc (.cells #[.int .u8 0] 5)) (.slice (some ⟨w4.heap.size, 0, none⟩) 1 1) 1 [0]) := Lib.hid ⟨own_base (own_lit w4 [0] (by unfold maxLen; simp)) hs4, HX4.out.alloc _, hb5, KeptT.of_below hb5, Nat.le_refl _⟩
        clear hb5 HX4 HB4 hs4
        go_upto_region 9 with (fail)
        change Code.wp _ _ _ _ (w4.alloc (.cells #[.int .u8 0] 5))
        generalize w4.alloc (.cells #[.int .u8 0] 5) = w5 at *
        generalize w4.heap.size = g5 at *
        have hc0 : w5.cell? ⟨X, 0, none⟩ = some (.bool hh) := (HTa.out w5 HS0.out.row).c0
        obtain ⟨f0, hf0⟩ : ∃ f0 : Int, f0 = (if hh = true then 1 else 0) := ⟨_, rfl⟩
        obtain ⟨H1, hH1⟩ : ∃ H1 : List Int, H1 = (if hh = true then be 1 h2.size ++ sv h2 else []) := ⟨_, rfl⟩
        have Hf0 := Lib.hid hf0
        have HH1 := Lib.hid hH1
        have HH1t := Lib.hid hH1
        clear hf0 hH1
        go_upto_if 39 with (fail)
        clear hc0
        go_cut [4] (fun s4 wx => ∃ (A1 : Option Addr) (n1 C1 : Nat), s4 = .slice A1 n1 C1 ∧ n1 ≤ 300 ∧ Hid (Bs w w.heap.size X 68 75 DE wx (.slice A1 n1 C1) n1 (f0 :: H1)))
        case first =>
          cases hh
          · go_wp2_with fail
            go_meet
            refine ⟨_, 1, 1, rfl, by omega, ?_⟩
            rw [Hf0.out, HH1.out]
            exact HS0
          · have hw0 := own_set0 (y := 1) HS0.out.own
            have hcc : w5.cell? ⟨g5, 0, none⟩ = some (.int .u8 0) := hw0.1
            have hff : w5.frozen? ⟨g5, 0, none⟩ = false := hw0.2.1
            have hor : bits .or .u8 0 1 = 1 := by decide
            have HS1 := Lib.hid (HS0.out.set0 (by decide) 1)
            clear HS0 hw0
            go_upto_region 11 with (fail)
            change Code.wp _ _ _ _ (w5.setCell ⟨g5, 0, none⟩ (.int .u8 1))
            clear hcc hff hor
            generalize w5.setCell ⟨g5, 0, none⟩ (.int .u8 1) = w6 at *
            have hc1 : w6.cell? ⟨X, 1, none⟩ = some (.string h2) := (HTa.out w6 HS1.out.row).c1
            have hL2 := HL2.out
            have HTx := Lib.hid (text_k w.heap.size (.slice (some ⟨g5, 0, none⟩) 1 1) 1 (bv [1]) h2 1 w6 HS1.out.base HS1.out.own (by omega) (by have := HL2.out; omega) (by omega))
            go_wp2_with fail
            refine HTx.out.mono ?_
            intro e w2 hr
            obtain ⟨A2, C2, rfl, hs⟩ := HS1.out.ret (by decide) hr (txt_cells 1 h2)
            obtain ⟨n2, hn2⟩ : ∃ n2, n2 = 1 + 1 + h2.size := ⟨_, rfl⟩
            rw [← hn2] at hs ⊢
            have hl2 : n2 ≤ 264 := by omega
            obtain ⟨E2, hE2⟩ : ∃ E2, E2 = [1] ++ (be 1 h2.size ++ sv h2) := ⟨_, rfl⟩
            rw [← hE2] at hs
            have HE2 := Lib.hid hE2
            have HS2 := Lib.hid hs
            clear hn2 hs hr HTx HS1 hE2
            clear hc1
            have hl2' : n2 ≤ 300 := by have := HL2.out; have := HS2.out.len; rw [HE2.out] at this; simp [be_length, sv_len] at this; omega
            go_wp2_with fail
            go_meet
            refine ⟨A2, n2, C2, rfl, hl2', ?_⟩
            rw [Hf0.out, HH1.out]
            simp only [if_true]
            have h := HS2.out
            rw [HE2.out] at h
            exact Lib.hid h
        case rest =>
          obtain ⟨A1, n1, C1, rfl, hl1, HS1⟩ := hcut
          clear HS0
          obtain ⟨E1, hE1⟩ : ∃ E1, E1 = f0 :: H1 := ⟨_, rfl⟩
          rw [← hE1] at HS1
          have HE1 := Lib.hid hE1
          clear hE1
          have hc2 : wc.cell? ⟨X, 2, none⟩ = some (.slice A n C) := (HTa.out wc HS1.out.row).c2
          have HTx := Lib.hid (number_k w.heap.size (.slice A1 n1 C1) n1 (bv E1) (n : Int) 2 wc HS1.out.base HS1.out.own (by omega) (by omega) (by omega) (by omega))
          go_wp2_with fail
          refine HTx.out.mono ?_
          intro e w2 hr
          obtain ⟨A2, C2, rfl, hs⟩ := HS1.out.ret (by decide) hr rfl
          obtain ⟨n2, hn2⟩ : ∃ n2, n2 = n1 + 2 := ⟨_, rfl⟩
          rw [← hn2] at hs ⊢
          have hl2 : n2 ≤ 302 := by omega
          obtain ⟨E2, hE2⟩ : ∃ E2, E2 = E1 ++ be 2 (n : Int) := ⟨_, rfl⟩
          rw [← hE2] at hs
          have HE2 := Lib.hid hE2
          have HS2 := Lib.hid hs
          clear hn2 hs hr HTx HS1 hE2
          clear hc2
          have hc2 : w2.cell? ⟨X, 2, none⟩ = some (.slice A n C) := (HTa.out w2 HS2.out.row).c2
          go_wp2_with fail
          clear hc2
          go_loopw [4, 58] (fun b i wr => ∃ (j q : Nat) (Ar : Option Addr) (Cr : Nat), b = .slice Ar q Cr ∧ i = .int .i64 j ∧ j ≤ n ∧ q ≤ 302 + 70000 * j ∧ Hid (Bs w w.heap.size X 68 75 DE wr (.slice Ar q Cr) q (E2 ++ mvBs (ms.take j)))) (fun _ i _ => n - (intOf i).toNat)
          case atStart => exact ⟨0, n2, A2, C2, rfl, rfl, Nat.zero_le _, by omega, Lib.hid (by rw [List.take_zero, show mvBs [] = [] from rfl, List.append_nil]; exact HS2.out)⟩
          case round =>
            clear HS2
            obtain ⟨j, n6, A6, C6, rfl, rfl, hj, hq, HS6⟩ := hrel
            by_cases hlt : j < n
            · have hTr := HM.out.below HS6.out.bel hG
              obtain ⟨gm, om, rfl, hgl, hcc⟩ := hTr.rd.cell (by omega)
              obtain ⟨t, ht⟩ : ∃ t, t = ms.getD j default := ⟨_, rfl⟩
              have hrg := hcc j hlt
              rw [map_getD _ (by rw [HMl.out]; exact hlt), ← ht] at hrg
              have htm : t ∈ ms := by rw [ht]; exact getD_memI (by rw [HMl.out]; exact hlt)
              have hti := HMi.out t htm
              have htz := HLm.out t htm
              have htl := Mv.len hti.1.1 hti.2.1
              have hz3 := htz.1
              have hz4 := htz.2
              have HRg := Lib.hid hrg
              have HTs : Hid ((Try.prog.info? 126).map (·.size) = some t.cells.length) := Lib.hid (by rw [htl]; exact infoMv)
              obtain ⟨hf, hrn⟩ := lay_new wr 126 66 Z t.cells infoMv HZl.out htl t.one
              have HIo := Lib.hid hti.1
              have HIw := Lib.hid hti.2
              have HF2 := Lib.hid hf
              have HY7 := Lib.hid (row_of_stored (n := 66) hf.stored htl)
              have HTC : Hid (∀ W : World, W.rowIs wr.heap.size 126 66 (fun i => t.cells.getD i undef) → MvAt W wr.heap.size t) := Lib.hid (fun W h => mv_at hti.1.1 hti.2.1 (row_range h htl))
              obtain ⟨Ej, hEj⟩ : ∃ Ej, Ej = E2 ++ mvBs (ms.take j) := ⟨_, rfl⟩
              have hs7 := HS6.out.keep hf.bel
              rw [← hEj] at hs7
              have HS7 := Lib.hid hs7
              have HEj := Lib.hid hEj
              have hst := mvBs_take ms j (by rw [HMl.out]; exact hlt)
              rw [← ht] at hst
              have HSt := Lib.hid hst
              have hj0 : (0 : Int) ≤ (j : Int) := by omega
              have hj1 : (j : Int) < (n : Int) := by omega
              clear hTr hcc hrg htl hf hrn hst ht htm hti htz HS6 hs7 hEj
              generalize t.cells = TC at *
              go_upto_region 16 with (first
                | (refine wpList_load_mid rfl _ _ rfl gm (om + j * 66) rfl TC _ HRg.out Try.underlying126 rfl HTs.out ?_)
                | (refine wpList_store_mid rfl _ _ _ rfl wr.heap.size 0 TC.toArray rfl rfl HF2.out.there HF2.out.size HF2.out.one ?_))
              change Code.wp _ _ _ _ ((wr.alloc (.cells Z 126)).setCells wr.heap.size 0 TC)
              clear HF2 HRg HTs
              generalize (wr.alloc (.cells Z 126)).setCells wr.heap.size 0 TC = w7 at *
              generalize wr.heap.size = Y at *
              have hcn : w7.cell? ⟨Y, 0, none⟩ = some (.string t.nm) := (HTC.out w7 HY7.out).nm
              have HTx := Lib.hid (text_k w.heap.size (.slice A6 n6 C6) n6 (bv Ej) t.nm 1 w7 HS7.out.base HS7.out.own (by omega) (by omega) (by omega))
              go_wp2_with fail
              refine HTx.out.mono ?_
              intro e w8 hr
              obtain ⟨A8, C8, rfl, hs⟩ := HS7.out.ret (by decide) hr (txt_cells 1 t.nm)
              obtain ⟨n8, hn8⟩ : ∃ n8, n8 = n6 + 1 + t.nm.size := ⟨_, rfl⟩
              rw [← hn8] at hs ⊢
              have hl8 : n8 ≤ 565 + 70000 * j := by omega
              obtain ⟨E8, hE8⟩ : ∃ E8, E8 = Ej ++ (be 1 t.nm.size ++ sv t.nm) := ⟨_, rfl⟩
              rw [← hE8] at hs
              have HE8 := Lib.hid hE8
              have HS8 := Lib.hid hs
              have HY8 := Lib.hid (OwnRetK.kept hr |>.row HY7.out (by decide))
              clear hn8 hs hr HTx HS7 hE8
              clear hcn HY7
              have HRl := Lib.hid (RdB.of_range (n := 32) (HTC.out _ HY8.out).od HIo.out.1 HY8.out.lt (by omega) HIo.out.2)
              go_wp2_with (refine wpList_append_k _ rfl _ _ rfl w.heap.size (.slice A8 n8 C8) n8 _ rfl HS8.out.own (some ⟨Y, 1, none⟩) 32 32 t.od rfl HRl.out (by omega) HS8.out.base ?_)
              intro A9 C9 w9 ho hb hk
              obtain ⟨n9, hn9⟩ : ∃ n9, n9 = n8 + 32 := ⟨_, rfl⟩
              rw [← hn9] at ho ⊢
              have hl9 : n9 ≤ 597 + 70000 * j := by omega
              obtain ⟨E9, hE9⟩ : ∃ E9, E9 = E8 ++ t.od := ⟨_, rfl⟩
              rw [← hE9] at ho
              have HE9 := Lib.hid hE9
              have HS9 := Lib.hid (HS8.out.next (by decide) ho hb hk)
              have HY9 := Lib.hid (hk.row HY8.out (by decide))
              clear hn9 ho hb hk HRl HS8 hE9
              clear HY8
              have HRl := Lib.hid (RdB.of_range (n := 32) (HTC.out _ HY9.out).nw HIw.out.1 HY9.out.lt (by omega) HIw.out.2)
              go_wp2_with (refine wpList_append_k _ rfl _ _ rfl w.heap.size (.slice A9 n9 C9) n9 _ rfl HS9.out.own (some ⟨Y, 33, none⟩) 32 32 t.nw rfl HRl.out (by omega) HS9.out.base ?_)
              intro A10 C10 w10 ho hb hk
              obtain ⟨n10, hn10⟩ : ∃ n10, n10 = n9 + 32 := ⟨_, rfl⟩
              rw [← hn10] at ho ⊢
              have hl10 : n10 ≤ 629 + 70000 * j := by omega
              obtain ⟨E10, hE10⟩ : ∃ E10, E10 = E9 ++ t.nw := ⟨_, rfl⟩
              rw [← hE10] at ho
              have HE10 := Lib.hid hE10
              have HS10 := Lib.hid (HS9.out.next (by decide) ho hb hk)
              have HY10 := Lib.hid (hk.row HY9.out (by decide))
              clear hn10 ho hb hk HRl HS9 hE10
              clear HY9
              have hcn : w10.cell? ⟨Y, 65, none⟩ = some (.string t.wy) := (HTC.out w10 HY10.out).wy
              have HTx := Lib.hid (text_k w.heap.size (.slice A10 n10 C10) n10 (bv E10) t.wy 2 w10 HS10.out.base HS10.out.own (by omega) (by omega) (by omega))
              go_wp2_with fail
              refine HTx.out.mono ?_
              intro e w11 hr
              obtain ⟨A11, C11, rfl, hs⟩ := HS10.out.ret (by decide) hr (txt_cells 2 t.wy)
              obtain ⟨n11, hn11⟩ : ∃ n11, n11 = n10 + 2 + t.wy.size := ⟨_, rfl⟩
              rw [← hn11] at hs ⊢
              have hl11 : n11 ≤ 66172 + 70000 * j := by omega
              obtain ⟨E11, hE11⟩ : ∃ E11, E11 = E10 ++ (be 2 t.wy.size ++ sv t.wy) := ⟨_, rfl⟩
              rw [← hE11] at hs
              have HE11 := Lib.hid hE11
              have HS11 := Lib.hid hs
              clear hn11 hs hr HTx HS10 hE11
              clear hcn HY10
              have HS12 : Hid (Bs w w.heap.size X 68 75 DE w11 (.slice A11 n11 C11) n11 (E2 ++ mvBs (ms.take (j + 1)))) := Lib.hid (by
                have h := HS11.out
                rw [HE11.out, HE10.out, HE9.out, HE8.out, HEj.out] at h
                rw [HSt.out]
                simpa [mvB, List.append_assoc] using h)
              clear HE8 HE9 HE10 HE11 HS11 HEj
              go_wp2_with fail
              go_roundw
              case rel => exact ⟨j + 1, n11, A11, C11, rfl, by go_num, by omega, by omega, HS12⟩
              case measure => simp [intOf]; omega
            · have ej : j = n := by omega
              have hd2 : decide ((j : Int) < (n : Int)) = false := by simp; omega
              have hS : Bs w w.heap.size X 68 75 DE wr (.slice A6 n6 C6) n6 (f0 :: (H1 ++ be 2 (n : Int) ++ mvBs ms)) := by
                have h := HS6.out
                rw [ej, List.take_of_length_le (by rw [HMl.out]; exact Nat.le_refl _), HE2.out, HE1.out] at h
                simpa [List.append_assoc] using h
              have HS0 := Lib.hid hS
              have hl6 : n6 ≤ 302 + 70000 * n := by omega
              clear HS6 hS ej hq
              have hc3 : wr.cell? ⟨X, 3, none⟩ = some (.bool hs) := (HTa.out wr HS0.out.row).c3
              obtain ⟨H2, hH2⟩ : ∃ H2 : List Int, H2 = (if hs = true then sqBs k' br' og' cu' ts' dn' md' st' else []) := ⟨_, rfl⟩
              have HH2 := Lib.hid hH2
              have HH2t := Lib.hid hH2
              obtain ⟨f1, hf1⟩ : ∃ f1 : Int, f1 = fgB hh hs := ⟨_, rfl⟩
              have Hf1 := Lib.hid hf1
              have HSQl : Hid ((sqBs k' br' og' cu' ts' dn' md' st').length ≤ 1100000000) := Lib.hid (sqBs_len HIds.out.1.1 HIds.out.2.1.1 (fun t ht => (HIds.out.2.2 t ht).1) hbr3 (by rw [HTl.out]; omega))
              clear hH2 hf1
              go_upto_if 80 with (fail)
              clear hc3
              go_cut [4] (fun s4 wx => ∃ (A1 : Option Addr) (n1 C1 : Nat), s4 = .slice A1 n1 C1 ∧ n1 ≤ 1100000302 + 70000 * n ∧ Hid (Bs w w.heap.size X 68 75 DE wx (.slice A1 n1 C1) n1 (f1 :: (H1 ++ be 2 (n : Int) ++ mvBs ms ++ H2))))
              case first =>
                cases hs
                · go_wp2_with fail
                  go_meet
                  refine ⟨A6, n6, C6, rfl, by omega, ?_⟩
                  rw [Hf1.out, HH2.out, if_neg (by decide), List.append_nil, show fgB hh false = f0 by rw [Hf0.out]; simp [fgB]]
                  exact HS0
                · obtain ⟨g6, rfl, hp6, hpc, hpm⟩ := own_some HS0.out.own
                  have hw0 := own_set0 (y := f1) HS0.out.own
                  have hcc : wr.cell? ⟨g6, 0, none⟩ = some (.int .u8 f0) := hw0.1
                  have hff : wr.frozen? ⟨g6, 0, none⟩ = false := hw0.2.1
                  have hor : bits .or .u8 f0 2 = f1 := by rw [Hf0.out, Hf1.out]; cases hh <;> decide
                  have HS1 := Lib.hid (HS0.out.set0 (by decide) f1)
                  have hi0 : (0 : Int) < (n6 : Int) := by omega
                  clear HS0 hw0
                  go_upto_region 23 with (fail)
                  change Code.wp _ _ _ _ (wr.setCell ⟨g6, 0, none⟩ (.int .u8 f1))
                  clear hcc hff hor
                  generalize wr.setCell ⟨g6, 0, none⟩ (.int .u8 f1) = w6 at *
                  obtain ⟨E6, hE6⟩ : ∃ E6, E6 = f1 :: (H1 ++ be 2 (n : Int) ++ mvBs ms) := ⟨_, rfl⟩
                  rw [← hE6] at HS1
                  have HE6 := Lib.hid hE6
                  clear hE6
                  have hl6 := HS1.out.len
                  have HRq := Lib.hid (HTa.out w6 HS1.out.row).sq
                  have HPc := Lib.hid (HPs.out w.heap.size (.slice (some ⟨g6, 0, none⟩) n6 C6) E6 w6 HS1.out.base hG (by rw [← hl6]; exact HS1.out.own) (by omega) (HT.out.below HS1.out.bel hG) HNf.out)
                  clear hl6
                  go_wp2_with (refine wpList_load_mid rfl _ _ rfl X 4 rfl SQ _ HRq.out Try.underlying65 rfl HSz3.out ?_)
                  refine HPc.out.mono ?_
                  intro e w7 hr
                  obtain ⟨A7, C7, rfl, hs⟩ := HS1.out.ret (by decide) hr rfl
                  have hl7 := hs.len
                  have hq7 : (E6 ++ sqBs k' br' og' cu' ts' dn' md' st').length ≤ 1100000302 + 70000 * n := by
                    have h1 := HSQl.out
                    have h2 := HS1.out.len
                    rw [List.length_append]
                    omega
                  rw [hl7] at hs ⊢
                  rw [hl7] at hr
                  have HS7 := Lib.hid hs
                  clear hs hr HPc HRq hl7
                  generalize (E6 ++ sqBs k' br' og' cu' ts' dn' md' st').length = n7 at *
                  go_wp2_with fail
                  go_meet
                  refine ⟨A7, n7, C7, rfl, hq7, ?_⟩
                  have h := HS7.out
                  rw [HE6.out] at h
                  rw [HH2.out]
                  simp only [if_true]
                  exact Lib.hid (by simpa [List.append_assoc] using h)
              case rest =>
                obtain ⟨A1, n1, C1, rfl, hl1, HS1⟩ := hcut
                clear HS0 HH1 Hf0 HH2 HSQl HPs hl6
                obtain ⟨E1, hE1⟩ : ∃ E1, E1 = f1 :: (H1 ++ be 2 (n : Int) ++ mvBs ms ++ H2) := ⟨_, rfl⟩
                rw [← hE1] at HS1
                have HE1x := Lib.hid hE1
                clear hE1
                have hc2 : wc.cell? ⟨X, 74, none⟩ = some (.slice Am m Cm) := (HTa.out wc HS1.out.row).mm
                have HTx := Lib.hid (number_k w.heap.size (.slice A1 n1 C1) n1 (bv E1) (m : Int) 2 wc HS1.out.base HS1.out.own (by omega) (by omega) (by omega) (by omega))
                go_wp2_with fail
                refine HTx.out.mono ?_
                intro e w2 hr
                obtain ⟨A2, C2, rfl, hs⟩ := HS1.out.ret (by decide) hr rfl
                obtain ⟨n2, hn2⟩ : ∃ n2, n2 = n1 + 2 := ⟨_, rfl⟩
                rw [← hn2] at hs ⊢
                have hl2 : n2 ≤ 1100000304 + 70000 * n := by omega
                obtain ⟨E2, hE2⟩ : ∃ E2, E2 = E1 ++ be 2 (m : Int) := ⟨_, rfl⟩
                rw [← hE2] at hs
                have HE2 := Lib.hid hE2
                have HS2 := Lib.hid hs
                clear hn2 hs hr HTx HS1 hE2
                clear hc2
                have hc2 : w2.cell? ⟨X, 74, none⟩ = some (.slice Am m Cm) := (HTa.out w2 HS2.out.row).mm
                go_wp2_with fail
                clear hc2
                go_loopw [4, 99] (fun b i wr => ∃ (j q : Nat) (Ar : Option Addr) (Cr : Nat), b = .slice Ar q Cr ∧ i = .int .i64 j ∧ j ≤ m ∧ q ≤ 6000000000 + 1000000100 * j ∧ Hid (Bs w w.heap.size X 68 75 DE wr (.slice Ar q Cr) q (E2 ++ myBs (ys.take j)))) (fun _ i _ => m - (intOf i).toNat)
                case atStart => exact ⟨0, n2, A2, C2, rfl, rfl, Nat.zero_le _, by omega, Lib.hid (by rw [List.take_zero, show myBs [] = [] from rfl, List.append_nil]; exact HS2.out)⟩
                case round =>
                  clear HS2
                  obtain ⟨j, n6, A6, C6, rfl, rfl, hj, hq, HS6⟩ := hrel
                  by_cases hlt : j < m
                  · have hTr := HY.out.below HS6.out.bel (Nat.le_refl _) hG
                    obtain ⟨gm, om, rfl, hgl, hcc⟩ := hTr.rd.cell (by omega)
                    obtain ⟨t, ht⟩ : ∃ t, t = ys.getD j default := ⟨_, rfl⟩
                    have hrg := hcc j hlt
                    rw [map_getD _ (by rw [HYl.out]; exact hlt), ← ht] at hrg
                    have htm : t ∈ ys := by rw [ht]; exact getD_memI (by rw [HYl.out]; exact hlt)
                    have hti := HYi.out t htm
                    have htl := My.len hti.1
                    have htn := (hTr.ok t htm).2.1
                    have HRg := Lib.hid hrg
                    have HDt : Hid (∀ W : World, Below w.heap.size w W → RdB W t.A t.n t.C t.l) := Lib.hid (fun W hb => ((HY.out.below hb (Nat.le_refl _) hG).ok t htm).2.2.rd)
                    have HTs : Hid ((Try.prog.info? 128).map (·.size) = some t.cells.length) := Lib.hid (by rw [htl]; exact infoMy)
                    obtain ⟨hf, hrn⟩ := lay_new wr 128 33 U t.cells infoMy HUl.out htl t.one
                    have HIk := Lib.hid hti
                    have HF2 := Lib.hid hf
                    have HY7 := Lib.hid (row_of_stored (n := 33) hf.stored htl)
                    have HTC : Hid (∀ W : World, W.rowIs wr.heap.size 128 33 (fun i => t.cells.getD i undef) → MyAt W wr.heap.size t) := Lib.hid (fun W h => my_at hti.1 (row_range h htl))
                    obtain ⟨Ej, hEj⟩ : ∃ Ej, Ej = E2 ++ myBs (ys.take j) := ⟨_, rfl⟩
                    have hs7 := HS6.out.keep hf.bel
                    rw [← hEj] at hs7
                    have HS7 := Lib.hid hs7
                    have HEj := Lib.hid hEj
                    have hst := myBs_take ys j (by rw [HYl.out]; exact hlt)
                    rw [← ht] at hst
                    have HSt := Lib.hid hst
                    have hj0 : (0 : Int) ≤ (j : Int) := by omega
                    have hj1 : (j : Int) < (m : Int) := by omega
                    clear hTr hcc hrg htl hf hrn hst ht htm hti HS6 hs7 hEj
                    generalize t.cells = TC at *
                    go_upto_region 28 with (first
                      | (refine wpList_load_mid rfl _ _ rfl gm (om + j * 33) rfl TC _ HRg.out Try.underlying128 rfl HTs.out ?_)
                      | (refine wpList_store_mid rfl _ _ _ rfl wr.heap.size 0 TC.toArray rfl rfl HF2.out.there HF2.out.size HF2.out.one ?_))
                    change Code.wp _ _ _ _ ((wr.alloc (.cells U 128)).setCells wr.heap.size 0 TC)
                    clear HF2 HRg HTs
                    generalize (wr.alloc (.cells U 128)).setCells wr.heap.size 0 TC = w7 at *
                    generalize wr.heap.size = Y at *
                    have HRl := Lib.hid (RdB.of_range (n := 32) (HTC.out _ HY7.out).key HIk.out.1 HY7.out.lt (by omega) HIk.out.2)
                    go_wp2_with (refine wpList_append_k _ rfl _ _ rfl w.heap.size (.slice A6 n6 C6) n6 _ rfl HS7.out.own (some ⟨Y, 0, none⟩) 32 32 t.key rfl HRl.out (by omega) HS7.out.base ?_)
                    intro A8 C8 w8 ho hb hk
                    obtain ⟨n8, hn8⟩ : ∃ n8, n8 = n6 + 32 := ⟨_, rfl⟩
                    rw [← hn8] at ho ⊢
                    have hl8 : n8 ≤ 6000000032 + 1000000100 * j := by omega
                    obtain ⟨E8, hE8⟩ : ∃ E8, E8 = Ej ++ t.key := ⟨_, rfl⟩
                    rw [← hE8] at ho
                    have HE8 := Lib.hid hE8
                    have HS8 := Lib.hid (HS7.out.next (by decide) ho hb hk)
                    have HY8 := Lib.hid (hk.row HY7.out (by decide))
                    clear hn8 ho hb hk HRl HS7 hE8
                    clear HY7
                    obtain ⟨yA, hyA⟩ : ∃ yA, yA = t.A := ⟨_, rfl⟩
                    obtain ⟨yn, hyn⟩ : ∃ yn, yn = t.n := ⟨_, rfl⟩
                    obtain ⟨yC, hyC⟩ : ∃ yC, yC = t.C := ⟨_, rfl⟩
                    obtain ⟨yl, hyl⟩ : ∃ yl, yl = t.l := ⟨_, rfl⟩
                    obtain ⟨yk, hyk⟩ : ∃ yk, yk = t.key := ⟨_, rfl⟩
                    have HCy : Hid (∀ W : World, W.rowIs Y 128 33 (fun i => TC.getD i undef) → W.cell? ⟨Y, 32, none⟩ = some (.slice yA yn yC)) := Lib.hid (by rw [hyA, hyn, hyC]; exact fun W h => (HTC.out W h).data)
                    have hmb : myB t = yk ++ be 4 yn ++ yl := by rw [hyk, hyn, hyl]; rfl
                    rw [hmb] at HSt
                    rw [← hyk] at HE8
                    rw [← hyA, ← hyn, ← hyC, ← hyl] at HDt
                    rw [← hyn] at htn
                    clear hyA hyn hyC hyl hyk hmb HTC
                    go_wp2_with fail
                    have dS := Lib.hid HS8.out.drew
                    have dY := Lib.hid (World.rowIs.drew HY8.out)
                    have dC : Hid (w8.drew.cell? ⟨Y, 32, none⟩ = some (.slice yA yn yC)) := Lib.hid (HCy.out _ dY.out)
                    clear HS8 HY8
                    have hwn : IntKind.u64.wrap (yn : Int) = (yn : Int) := by rw [IntKind.wrap_u64]; omega
                    refine wp_region_noPanic ?_
                    refine wp_region_held_drew (S := (fun wS => wS.cell? ⟨Y, 32, none⟩ = some (.slice yA yn yC))) (by kernel_rfl) ?_ (fun hHeld => ?_)
                    · ((try dsimp only); exact dC.out)
                    refine wpAnyH_take (i := 0) (oi := { dst := some 107, op := Op.move (Operand.tmp 4), type := 23, pos := "tx.go:49", after := #[], guard := none }) (v := ?_) rfl (by kernel_rfl) (by kernel_rfl) (by kernel_rfl) (fun _ _ _ h => h) (Or.inl ⟨by rfl, ?_⟩) (by assumption) ?_
                    rotate_left 1
                    · ((intro w hSw; (try dsimp only at hSw); go_simp) <;> with_reducible rfl)
                    (try simp only [Act.put, List.setIfInBounds_toArray, List.set_cons_zero, List.set_cons_succ])
                    refine wpAnyH_take (i := 1) (oi := { dst := some 108, op := Op.fieldAddr 128 (Operand.tmp 8) 1, type := 0, pos := "tx.go:49", after := #[], guard := none }) (v := ?_) rfl (by kernel_rfl) (by kernel_rfl) (by kernel_rfl) (fun _ _ _ h => h) (Or.inl ⟨by rfl, ?_⟩) (by assumption) ?_
                    rotate_left 1
                    · ((intro w hSw; (try dsimp only at hSw); go_simp) <;> with_reducible rfl)
                    (try simp only [Act.put, List.setIfInBounds_toArray, List.set_cons_zero, List.set_cons_succ])
                    refine wpAnyH_take (i := 2) (oi := { dst := some 109, op := Op.load 23 (Operand.tmp 108), type := 23, pos := "tx.go:49", after := #[{ on := 1, ground := Ground.data }], guard := none }) (v := ?_) rfl (by kernel_rfl) (by kernel_rfl) (by kernel_rfl) (fun _ _ _ h => h) (Or.inl ⟨by rfl, ?_⟩) (by assumption) ?_
                    rotate_left 1
                    · ((intro w hSw; (try dsimp only at hSw); go_simp) <;> with_reducible rfl)
                    (try simp only [Act.put, List.setIfInBounds_toArray, List.set_cons_zero, List.set_cons_succ])
                    refine wpAnyH_take (i := 3) (oi := { dst := some 110, op := Op.call { callee := Callee.builtin Builtin.len, args := #[Operand.tmp 109], argTypes := #[23] }, type := 3, pos := "tx.go:49", after := #[{ on := 2, ground := Ground.data }], guard := none }) (v := ?_) rfl (by kernel_rfl) (by kernel_rfl) (by kernel_rfl) (fun _ _ _ h => h) (Or.inl ⟨by rfl, ?_⟩) (by assumption) ?_
                    rotate_left 1
                    · ((intro w hSw; (try dsimp only at hSw); go_simp) <;> with_reducible rfl)
                    (try simp only [Act.put, List.setIfInBounds_toArray, List.set_cons_zero, List.set_cons_succ])
                    refine wpAnyH_take (i := 4) (oi := { dst := some 111, op := Op.convert 3 105 (Operand.tmp 110), type := 105, pos := "tx.go:49", after := #[{ on := 3, ground := Ground.data }], guard := none }) (v := ?_) rfl (by kernel_rfl) (by kernel_rfl) (by kernel_rfl) (fun _ _ _ h => h) (Or.inl ⟨by rfl, ?_⟩) (by assumption) ?_
                    rotate_left 1
                    · ((intro w hSw; (try dsimp only at hSw); go_simp) <;> with_reducible rfl)
                    (try simp only [Act.put, List.setIfInBounds_toArray, List.set_cons_zero, List.set_cons_succ])
                    refine wpAnyH_take (i := 6) (oi := { dst := some 113, op := Op.fieldAddr 128 (Operand.tmp 8) 1, type := 0, pos := "tx.go:49", after := #[], guard := none }) (v := ?_) rfl (by kernel_rfl) (by kernel_rfl) (by kernel_rfl) (fun _ _ _ h => h) (Or.inl ⟨by rfl, ?_⟩) (by assumption) ?_
                    rotate_left 1
                    · ((intro w hSw; (try dsimp only at hSw); go_simp) <;> with_reducible rfl)
                    (try simp only [Act.put, List.setIfInBounds_toArray, List.set_cons_zero, List.set_cons_succ])
                    refine wpAnyH_take (i := 7) (oi := { dst := some 114, op := Op.load 23 (Operand.tmp 113), type := 23, pos := "tx.go:49", after := #[{ on := 6, ground := Ground.data }], guard := none }) (v := ?_) rfl (by kernel_rfl) (by kernel_rfl) (by kernel_rfl) (fun _ _ _ h => h) (Or.inl ⟨by rfl, ?_⟩) (by assumption) ?_
                    rotate_left 1
                    · ((intro w hSw; (try dsimp only at hSw); go_simp) <;> with_reducible rfl)
                    (try simp only [Act.put, List.setIfInBounds_toArray, List.set_cons_zero, List.set_cons_succ])
                    refine wpAnyH_ready (rs := [5]) (by kernel_rfl) (by simp) ?_
                    refine AllReadyH.cons (o := { dst := some 112, op := Op.call { callee := Callee.value (Operand.func 51), args := #[Operand.tmp 107, Operand.tmp 111, Operand.const (Value.int IntKind.i64 4)], argTypes := #[23, 105, 3] }, type := 23, pos := "tx.go:49", after := #[{ on := 0, ground := Ground.data }, { on := 4, ground := Ground.data }], guard := none }) rfl (fun K hK => ?_) ?_
                    · go_simp
                      have HNr := Lib.hid (number_k w.heap.size (.slice A8 n8 C8) n8 (bv E8) (yn : Int) 4 w8.drew dS.out.base dS.out.own (by omega) (by omega) (by omega) (by omega))
                      rw [show ((4 : Nat) : Int) = 4 from rfl] at HNr
                      refine HNr.out.mono ?_
                      clear HNr
                      intro e wN hr
                      have eY := Lib.hid (OwnRetK.kept hr |>.row dY.out (by decide))
                      obtain ⟨A9, C9, rfl, hs⟩ := dS.out.ret (by decide) hr rfl
                      have eS := Lib.hid hs
                      have eC := Lib.hid (HCy.out _ eY.out)
                      have eD := Lib.hid (HDt.out _ eS.out.bel)
                      clear dS dY dC hr hs hwn
                      have dS := eS
                      have dC := eC
                      clear eS eC
                      (try go_wp2_with fail)
                      refine hK.out _ _ ?_ (fun hNew => ?_)
                      · ((try dsimp only); exact dC.out)
                      clear hK K hHeld
                      have hHeld := hNew
                      clear hNew
                      (try simp only [Act.put, List.setIfInBounds_toArray, List.set_cons_zero, List.set_cons_succ])
                      refine wpAnyH_ready (rs := [8]) (by kernel_rfl) (by simp) ?_
                      refine AllReadyH.cons (o := { dst := some 115, op := Op.call { callee := Callee.builtin Builtin.append, args := #[Operand.tmp 112, Operand.tmp 114], argTypes := #[23, 23] }, type := 23, pos := "tx.go:49", after := #[{ on := 5, ground := Ground.data }, { on := 7, ground := Ground.data }, { on := 5, ground := Ground.chain }], guard := none }) rfl (fun K hK => ?_) ?_
                      · refine step_append_k wN rfl _ _ rfl w.heap.size (.slice A9 (n8 + 4) C9) (n8 + 4) _ rfl dS.out.own yA yn yC yl rfl eD.out (by omega) dS.out.base ?_
                        intro A10 C10 w10 ho hb hk
                        have eS := Lib.hid (dS.out.next (by decide) ho hb hk)
                        have eC := Lib.hid (HCy.out _ (hk.row eY.out (by decide)))
                        clear dS dC ho hb hk eD
                        have dS := eS
                        have dC := eC
                        clear eS eC
                        (try go_wp2_with fail)
                        refine hK.out _ _ ?_ (fun hNew => ?_)
                        · ((try dsimp only); exact dC.out)
                        clear hK K hHeld
                        have hHeld := hNew
                        clear hNew
                        (try simp only [Act.put, List.setIfInBounds_toArray, List.set_cons_zero, List.set_cons_succ])
                        refine wpAnyH_take (i := 9) (oi := { dst := some 4, op := Op.assign (Operand.tmp 115), type := 23, pos := "tx.go:49", after := #[{ on := 8, ground := Ground.data }, { on := 8, ground := Ground.chain }, { on := 0, ground := Ground.phase }, { on := 1, ground := Ground.phase }, { on := 2, ground := Ground.phase }, { on := 3, ground := Ground.phase }, { on := 4, ground := Ground.phase }, { on := 5, ground := Ground.phase }, { on := 6, ground := Ground.phase }, { on := 7, ground := Ground.phase }, { on := 8, ground := Ground.phase }], guard := none }) (v := ?_) rfl (by kernel_rfl) (by kernel_rfl) (by kernel_rfl) (fun _ _ _ h => h) (Or.inl ⟨by rfl, ?_⟩) (by assumption) ?_
                        rotate_left 1
                        · ((intro w hSw; (try dsimp only at hSw); go_simp) <;> with_reducible rfl)
                        (try simp only [Act.put, List.setIfInBounds_toArray, List.set_cons_zero, List.set_cons_succ])
                        refine wpAnyH_done (by kernel_rfl) ?_ _
                        refine NoPanic.normal ?_
                        clear hHeld dC
                        obtain ⟨n10, hn10⟩ : ∃ n10, n10 = n8 + 4 + yn := ⟨_, rfl⟩
                        have eS := dS.out
                        rw [← hn10] at eS ⊢
                        have hl10 : n10 ≤ 6000000000 + 1000000100 * (j + 1) := by omega
                        have HS12 : Hid (Bs w w.heap.size X 68 75 DE w10 (.slice A10 n10 C10) n10 (E2 ++ myBs (ys.take (j + 1)))) := Lib.hid (by
                          have h := eS
                          rw [HE8.out, HEj.out] at h
                          rw [HSt.out]
                          simpa [List.append_assoc] using h)
                        clear hn10 eS dS
                        go_wp2_with fail
                        go_roundw
                        case rel => exact ⟨j + 1, n10, A10, C10, rfl, by go_num, by omega, hl10, HS12⟩
                        case measure => simp [intOf]; omega
                      exact AllReadyH.nil
                    exact AllReadyH.nil
                  · have ej : j = m := by omega
                    have hd2 : decide ((j : Int) < (m : Int)) = false := by simp; omega
                    have hS : w.heap.size ≤ w.heap.size ∧ Bs w w.heap.size X 68 75 DE wr (.slice A6 n6 C6) n6 (txB TD) := by
                      have h := HS6.out
                      rw [ej, List.take_of_length_le (by rw [HYl.out]; exact Nat.le_refl _), HE2.out, HE1x.out] at h
                      rw [HTB.out, ← Hf1.out, HMl.out, HYl.out]
                      exact ⟨Nat.le_refl _, by simpa [List.append_assoc, HH1t.out, HH2t.out] using h⟩
                    have HS0 := Lib.hid hS.2
                    have hl0 := hS.2.len
                    clear HS6 hS ej hq
                    go_wp2_with fail
                    refine HPost.out _ _ HS0.out.bel (.inr ⟨HE.out, A6, C6, ?_, ?_⟩)
                    · rw [← hl0]; rfl
                    · rw [← hl0]; exact HS0.out.own
end Go.Proofs.Ytmcmapgllaopmaa.Cd
end

section
namespace Go.Proofs.Ytmcmapgllaopmaa.Cd
open Go.RowKit
set_option linter.unusedVariables false
structure TxS where
  hh : Bool
  hd : ByteArray
  A : Option Addr
  n : Nat
  C : Nat
  ms : List Mv
  hs : Bool
  k : Int
  br : ByteArray
  og : List Int
  cu : List Int
  At : Option Addr
  nt : Nat
  Ct : Nat
  ts : List Td
  dn : Int
  md : Int
  st : Bool
  Am : Option Addr
  m : Nat
  Cm : Nat
  ys : List My
def TxS.sq (t : TxS) : List Value := sqV t.k t.br t.og t.cu (.slice t.At t.nt t.Ct) t.dn t.md t.st
def TxS.V (t : TxS) : List Value := txV t.hh t.hd (.slice t.A t.n t.C) t.hs t.sq (.slice t.Am t.m t.Cm)
def TxS.D (t : TxS) : TxD := ⟨t.hh, t.hd, t.ms, t.hs, ⟨t.k, t.br, t.og, t.cu, t.ts, t.dn, t.md, t.st⟩, t.ys⟩
/-- what can be read of it, sizes within bounds -/
structure TxS.Rd (t : TxS) (G : Nat) (w : World) : Prop where
  ho : IdOk t.og
  hc : IdOk t.cu
  hM : RdM G w t.A t.n t.C t.ms
  hMi : ∀ x ∈ t.ms, IdOk x.od ∧ IdOk x.nw
  hT : RdT G w t.At t.nt t.Ct t.ts
  hTi : ∀ x ∈ t.ts, IdOk x.id
  hY : RdY G w t.Am t.m t.Cm t.ys
  hYi : ∀ y ∈ t.ys, IdOk y.key
  hn : t.n ≤ 1000000000
  hm : t.m ≤ 1000000000
  hnt : t.nt ≤ 1000000000
  hhd : t.hd.size ≤ 1000000000
  hbr : t.br.size ≤ 1000000000
theorem TxS.Rd.below {t : TxS} {G : Nat} {w w' : World} (h : t.Rd G w) (hb : Below w.heap.size w w') (hG : G ≤ w.heap.size) : t.Rd G w' :=
  ⟨h.ho, h.hc, h.hM.below hb hG, h.hMi, h.hT.below hb hG, h.hTi, h.hY.below hb (Nat.le_refl _) hG, h.hYi, h.hn, h.hm, h.hnt, h.hhd, h.hbr⟩
theorem TxS.sq_len {t : TxS} (ho : t.og.length = 32) (hc : t.cu.length = 32) : t.sq.length = 70 := sqV_len ho hc
theorem TxS.V_len {t : TxS} (ho : t.og.length = 32) (hc : t.cu.length = 32) : t.V.length = 75 := txV_len (TxS.sq_len ho hc)
theorem TxS.V_one (t : TxS) : ∀ v ∈ t.V, v.oneCell' = true := txV_one rfl (sqV_one rfl) rfl
theorem TxS.encode {t : TxS} {G : Nat} {w : World} (h : t.Rd G w) (hG : G ≤ w.heap.size) : Calls Try.prog 29 #[.agg t.V.toArray] w (TxRet t.D w) :=
  encodeTx_any G t.hh t.hd t.A t.n t.C t.ms t.hs t.k t.br t.og t.cu t.At t.nt t.Ct t.ts t.dn t.md t.st t.Am t.m t.Cm t.ys w h.ho h.hc h.hM h.hMi h.hT h.hTi h.hY h.hYi hG h.hn h.hm h.hnt h.hhd h.hbr
theorem TxS.same {t u : TxS} {G : Nat} {w : World} (h : t.Rd G w) (k : u.Rd G w) (hG : G ≤ w.heap.size) : Calls Try.prog 34 #[.agg t.V.toArray, .agg u.V.toArray] w fun e w' => e = .returned (.bool (sxEq t.D u.D)) ∧ Below w.heap.size w w' :=
  sameTx_any G t.hh t.hd t.A t.n t.C t.ms t.hs t.k t.br t.og t.cu t.At t.nt t.Ct t.ts t.dn t.md t.st t.Am t.m t.Cm t.ys u.hh u.hd u.A u.n u.C u.ms u.hs u.k u.br u.og u.cu u.At u.nt u.Ct u.ts u.dn u.md u.st u.Am u.m u.Cm u.ys w
    h.ho h.hc h.hM h.hT h.hTi h.hY h.hn h.hm h.hnt h.hbr k.ho k.hc k.hM k.hT k.hTi k.hY k.hn k.hm k.hnt k.hbr hG
/-- no transaction -/
def TxS.zero : TxS := ⟨false, ByteArray.empty, none, 0, 0, [], false, 0, ByteArray.empty, List.replicate 32 0, List.replicate 32 0, none, 0, 0, [], 0, 0, false, none, 0, 0, []⟩
theorem TxS.zero_V : TxS.zero.V = tx0 := rfl
theorem RdS.nil (G sz : Nat) (w : World) : RdS G sz w none 0 0 [] := ⟨rfl, Nat.le_refl _, by omega, fun c hc => absurd hc (by simp), fun h0 => absurd h0 (by omega)⟩
theorem TxS.zero_rd (G : Nat) (w : World) : TxS.zero.Rd G w :=
  ⟨idZ_ok, idZ_ok, ⟨RdS.nil G 66 w, fun m hm => absurd hm (by simp [TxS.zero])⟩, fun x hx => absurd hx (by simp [TxS.zero]), ⟨RdS.nil G 33 w, fun m hm => absurd hm (by simp [TxS.zero])⟩, fun x hx => absurd hx (by simp [TxS.zero]),
    ⟨RdS.nil G 33 w, fun m hm => absurd hm (by simp [TxS.zero])⟩, fun x hx => absurd hx (by simp [TxS.zero]), by decide, by decide, by decide, by decide, by decide⟩
theorem flat_get {sz : Nat} : ∀ (l : List (List Value)), (∀ x ∈ l, x.length = sz) → ∀ i j, i < l.length → j < sz → l.flatten[i * sz + j]? = (l.getD i [])[j]?
  | [], _, i, j, hi, _ => absurd hi (by simp)
  | x :: l, h, 0, j, _, hj => by
    have hx : x.length = sz := h x (List.mem_cons_self ..)
    rw [List.flatten_cons, List.getElem?_append_left (by omega)]
    simp
  | x :: l, h, i + 1, j, hi, hj => by
    have hx : x.length = sz := h x (List.mem_cons_self ..)
    rw [List.flatten_cons, List.getElem?_append_right (by rw [Nat.add_mul]; omega), show (i + 1) * sz + j - x.length = i * sz + j by rw [Nat.add_mul]; omega]
    exact flat_get l (fun y hy => h y (List.mem_cons_of_mem _ hy)) i j (by simpa using hi) hj
theorem getD_memL {l : List (List Value)} {k : Nat} (h : k < l.length) : l.getD k [] ∈ l := by
  rw [List.getD_eq_getElem?_getD, List.getElem?_eq_getElem h]; exact List.getElem_mem h
theorem RdS.of_own {w : World} {B t sz n C : Nat} {A : Option Addr} {cs : List (List Value)} (h : w.ownsRow B t sz (.slice A n C) n cs.flatten) (hs : ∀ x ∈ cs, x.length = sz) (he : cs.length = n) : RdS w.heap.size sz w A n C cs := by
  rcases h.2 with ⟨hv, hz⟩ | ⟨g, cap, cur, hv, hb, hg, hnc, hcm, hcs, htake⟩
  · simp only [Value.slice.injEq] at hv
    obtain ⟨rfl, -, rfl⟩ := hv
    subst hz
    exact ⟨he, Nat.le_refl _, by omega, hs, fun h => absurd h (by omega)⟩
  · simp only [Value.slice.injEq, true_and] at hv
    obtain ⟨rfl, rfl⟩ := hv
    have hcm2 := hcm
    unfold maxLen at hcm2
    refine ⟨he, hnc, by omega, hs, fun h0 => ⟨g, 0, rfl, ?_, fun i hi j v hj => ?_⟩⟩
    · rcases Nat.lt_or_ge g w.heap.size with h | h
      · exact h
      · rw [Array.getElem?_eq_none h] at hg; simp at hg
    · have hx : (cs.getD i []).length = sz := hs _ (getD_memL (by omega))
      have hj2 : j < sz := by have := (List.getElem?_eq_some_iff.1 hj).1; omega
      have hlt : i * sz + j < n * sz := by
        have : (i + 1) * sz ≤ n * sz := Nat.mul_le_mul_right _ (by omega)
        rw [Nat.add_mul] at this
        omega
      rw [Nat.zero_add, World.ownsRow.cellAt h _ hlt, flat_get cs hs i j (by omega) hj2]
      exact hj
theorem flatMap_flat {α : Type} (f : α → List Value) (l : List α) : l.flatMap f = (l.map f).flatten := by rw [List.flatMap_def]
section
variable {l : List Int} {L : Nat}
theorem geI_ok (hl : l.length = L) (hb : ∀ i, i < L → 0 ≤ l.getD i 0 ∧ l.getD i 0 ≤ 255) (p : Pl) : IdOk (geI l L p) := by
  refine ⟨geI_len l L p, fun i hi => ?_⟩
  have h := geL_byte hl hb p 32 i
  have e : geI l L p = geL l L p 32 ++ List.replicate (32 - (geL l L p 32).length) 0 := rfl
  rw [e]
  by_cases h1 : i < (geL l L p 32).length
  · have : (geL l L p 32 ++ List.replicate (32 - (geL l L p 32).length) 0).getD i 0 = (geL l L p 32).getD i 0 := by
      simp only [List.getD]; rw [List.getElem?_append_left h1]
    rw [this]; exact h h1
  · have : (geL l L p 32 ++ List.replicate (32 - (geL l L p 32).length) 0).getD i 0 = 0 := by
      simp only [List.getD]; rw [List.getElem?_append_right (by omega), List.getElem?_replicate]
      split <;> rfl
    rw [this]; omega
theorem geT_size (p : Pl) (n most : Nat) (hn : n ≤ 4) (hl : l.length = L) (hb : ∀ i, i < L → 0 ≤ l.getD i 0 ∧ l.getD i 0 ≤ 255) : (geT l L p n most).size < 256 ^ n := by
  have h : geT l L p n most = sb (tkL (tx2 p.1 l p.2 L n most) l (tkA p.1 p.2 L n) L (txM p.1 l p.2 L n)) := rfl
  rw [h, sb_size]
  have h1 : txM p.1 l p.2 L n < 256 ^ n := geN_lt (p := p) hn hl hb
  have h2 : (tkL (tx2 p.1 l p.2 L n most) l (tkA p.1 p.2 L n) L (txM p.1 l p.2 L n)).length ≤ txM p.1 l p.2 L n := by
    unfold tkL
    split
    · rw [List.length_take]; omega
    · simp
  omega
def MvOk (m : Mv) : Prop := IdOk m.od ∧ IdOk m.nw ∧ m.nm.size < 65536 ∧ m.wy.size < 65536
theorem mvP_ok (hl : l.length = L) (hb : ∀ i, i < L → 0 ≤ l.getD i 0 ∧ l.getD i 0 ≤ 255) (p : Pl) : MvOk (mvP l L p) :=
  ⟨geI_ok hl hb _, geI_ok hl hb _, by have : (vNm l L p).size < 256 ^ 1 := geT_size p 1 255 (by decide) hl hb; show (vNm l L p).size < _; omega, by have : (vWy l L p).size < 256 ^ 2 := geT_size _ 2 65535 (by decide) hl hb; show (vWy l L p).size < _; omega⟩
theorem mvL_ok (hl : l.length = L) (hb : ∀ i, i < L → 0 ≤ l.getD i 0 ∧ l.getD i 0 ≤ 255) : ∀ (n : Nat) (p : Pl) (ms : List Mv), (∀ t ∈ ms, MvOk t) → ∀ t ∈ (mvL l L n p ms).2, MvOk t
  | 0, _, _, h => h
  | n + 1, p, ms, h => by
    unfold mvL
    split
    · refine mvL_ok hl hb n _ _ (fun t ht => ?_)
      rcases List.mem_append.1 ht with ht | ht
      · exact h t ht
      · rw [List.mem_singleton.1 ht]; exact mvP_ok hl hb p
    · exact h
theorem tdL_ok (hl : l.length = L) (hb : ∀ i, i < L → 0 ≤ l.getD i 0 ∧ l.getD i 0 ≤ 255) : ∀ (n : Nat) (p : Pl) (ts : List Td), (∀ t ∈ ts, IdOk t.id) → ∀ t ∈ (tdL l L n p ts).2, IdOk t.id
  | 0, _, _, h => h
  | n + 1, p, ts, h => by
    unfold tdL
    split
    · refine tdL_ok hl hb n _ _ (fun t ht => ?_)
      rcases List.mem_append.1 ht with ht | ht
      · exact h t ht
      · rw [List.mem_singleton.1 ht]; exact geI_ok hl hb _
    · exact h
theorem ymL_ok (hl : l.length = L) (hb : ∀ i, i < L → 0 ≤ l.getD i 0 ∧ l.getD i 0 ≤ 255) : ∀ (n : Nat) (p : Pl) (ys : List Yp), (∀ t ∈ ys, IdOk t.1 ∧ t.2.length ≤ L) → ∀ t ∈ (ymL l L n p ys).2, IdOk t.1 ∧ t.2.length ≤ L
  | 0, _, _, h => h
  | n + 1, p, ys, h => by
    unfold ymL
    split
    · refine ymL_ok hl hb n _ _ (fun t ht => ?_)
      rcases List.mem_append.1 ht with ht | ht
      · exact h t ht
      · rw [List.mem_singleton.1 ht]
        refine ⟨geI_ok hl hb _, ?_⟩
        show (tkL _ l _ L _).length ≤ L
        unfold tkL
        split
        · rw [List.length_take, List.length_drop]; omega
        · simp
    · exact h
theorem xSq_ok (hl : l.length = L) (hb : ∀ i, i < L → 0 ≤ l.getD i 0 ∧ l.getD i 0 ≤ 255) (p : Pl) : IdOk (xSq l L p).og ∧ IdOk (xSq l L p).cu ∧ (∀ t ∈ (xSq l L p).ts, IdOk t.id) ∧ (xSq l L p).ts.length ≤ 65536 ∧ (xSq l L p).br.size < 65536 := by
  have hn : ∀ k, IdOk (Sq.nil k).og ∧ IdOk (Sq.nil k).cu ∧ (∀ t ∈ (Sq.nil k).ts, IdOk t.id) ∧ (Sq.nil k).ts.length ≤ 65536 ∧ (Sq.nil k).br.size < 65536 := fun k => ⟨idZ_ok, idZ_ok, fun t ht => absurd ht (by simp [Sq.nil]), by simp [Sq.nil], by show (0 : Nat) < 65536; decide⟩
  unfold xSq
  split
  · unfold sqP
    split
    · exact hn 0
    · refine ⟨geI_ok hl hb _, geI_ok hl hb _, tdL_ok hl hb _ _ _ (fun t ht => absurd ht (by simp)), ?_, ?_⟩
      · have h1 := tdL_len l L (sM l L (xQ l L p).1) (sP5 l L (xQ l L p).1) []
        have h2 : sM l L (xQ l L p).1 < 256 ^ 2 := geN_lt (by decide) hl hb
        simp at h1
        show (tdL l L (sM l L (xQ l L p).1) (sP5 l L (xQ l L p).1) []).2.length ≤ _
        omega
      · have h2 : (sBr l L (xQ l L p).1).size < 256 ^ 1 := geT_size _ 1 255 (by decide) hl hb
        show (sBr l L (xQ l L p).1).size < _
        omega
  · exact hn 0
end
/-- a transaction told, its conflicts plainly -/
structure TxP where
  hh : Bool
  hd : ByteArray
  ms : List Mv
  hs : Bool
  sq : SqD
  ys : List Yp
def TxS.pl (t : TxS) : TxP := ⟨t.hh, t.hd, t.ms, t.hs, ⟨t.k, t.br, t.og, t.cu, t.ts, t.dn, t.md, t.st⟩, t.ys.map My.pl⟩
def Sq.D (s : Sq) : SqD := ⟨s.k, s.br, s.og, s.cu, s.ts, s.dn, s.md, s.st⟩
/-- what ParseTx tells -/
def ptP (l : List Int) (L : Nat) : TxP :=
  if xF l L = 0 then ⟨xHh l L (0, 0), xHd l L (0, 0), (xQ l L (0, 0)).2, xHs l L (0, 0), (xSq l L (0, 0)).D, (xR l L (0, 0)).2⟩ else TxS.zero.pl
/-- one's own rows -/
def TxS.Own (t : TxS) (B : Nat) (w : World) : Prop := t.n = t.ms.length ∧ t.nt = t.ts.length ∧ t.m = t.ys.length ∧ TxOwn B w t.A t.C t.ms t.At t.Ct t.ts t.Am t.Cm t.ys
theorem TxS.Own.mono {t : TxS} {B B' : Nat} {w w' : World} (h : t.Own B w) (hB : B' ≤ B) (hb : Below w.heap.size w w') : t.Own B' w' := ⟨h.1, h.2.1, h.2.2.1, h.2.2.2.mono hB hb⟩
theorem TxS.zero_own (B : Nat) (w : World) : TxS.zero.Own B w := ⟨rfl, rfl, rfl, ⟨by simp [TxS.zero, mvsV], .inl ⟨rfl, rfl⟩⟩, ⟨by simp [TxS.zero, tdsV], .inl ⟨rfl, rfl⟩⟩, ⟨by simp [TxS.zero, mysV], .inl ⟨rfl, rfl⟩⟩, fun y hy => absurd hy (by simp [TxS.zero])⟩
theorem TxS.Own.rd {t : TxS} {B : Nat} {w : World} (h : t.Own B w) (ho : IdOk t.og) (hc : IdOk t.cu) (hm : ∀ x ∈ t.ms, MvOk x) (ht : ∀ x ∈ t.ts, IdOk x.id) (hy : ∀ y ∈ t.ys, IdOk y.key) (hyd : ∀ y ∈ t.ys, y.l.length ≤ 1000000000) (h1 : t.ms.length ≤ 65536) (h2 : t.ts.length ≤ 65536) (h3 : t.ys.length ≤ 65536) (h4 : t.hd.size < 65536) (h5 : t.br.size < 65536) : t.Rd w.heap.size w := by
  obtain ⟨e1, e2, e3, hT⟩ := h
  have a1 := hT.m
  have a2 := hT.t
  have a3 := hT.y
  rw [← e1] at a1
  rw [← e2] at a2
  rw [← e3] at a3
  unfold mvsV at a1
  unfold tdsV at a2
  unfold mysV at a3
  rw [flatMap_flat] at a1 a2 a3
  refine ⟨ho, hc, ⟨RdS.of_own a1 (fun x hx => ?_) (by rw [List.length_map]; exact e1.symm), fun m hm' => ?_⟩, fun x hx => ⟨(hm x hx).1, (hm x hx).2.1⟩, ⟨RdS.of_own a2 (fun x hx => ?_) (by rw [List.length_map]; exact e2.symm), fun m hm' => (ht m hm').1⟩, ht, ⟨RdS.of_own a3 (fun x hx => ?_) (by rw [List.length_map]; exact e3.symm), fun y hy' => ?_⟩, hy, by omega, by omega, by omega, by omega, by omega⟩
  · obtain ⟨m, hm', rfl⟩ := List.mem_map.1 hx
    exact Mv.len (hm m hm').1.1 (hm m hm').2.1.1
  · have := hm m hm'
    exact ⟨this.1.1, this.2.1.1, by have := this.2.2.1; omega, by have := this.2.2.2; omega⟩
  · obtain ⟨m, hm', rfl⟩ := List.mem_map.1 hx
    exact Td.len (ht m hm').1
  · obtain ⟨m, hm', rfl⟩ := List.mem_map.1 hx
    exact My.len (hy m hm').1
  · have h6 := hT.d y hy'
    exact ⟨h6.key, by have := hyd y hy'; have hn := h6.dat.rd.len; omega, ⟨h6.dat.rd, fun x hx _ => (h6.dat.lt hx).2⟩⟩
/-- ParseTx, the program's and the document's, in one word -/
theorem TpRet.flat {l : List Int} {L : Nat} {w w' : World} {e : Ending} (h : TpRet l L w e w') (hl : l.length = L) (hb : ∀ i, i < L → 0 ≤ l.getD i 0 ∧ l.getD i 0 ≤ 255) (hL : L ≤ 1000000000) :
    Below w.heap.size w w' ∧ ∃ P : TxS, e = .returned (.tuple #[.agg P.V.toArray, .int .i64 (xF l L)]) ∧ P.Own w.heap.size w' ∧ P.Rd w'.heap.size w' ∧ P.pl = ptP l L := by
  obtain ⟨h1, ⟨h0, he⟩ | ⟨h0, Am, Cm, At, Ct, Ay, Cy, ys, he, hT, hp⟩⟩ := h
  · exact ⟨h1, TxS.zero, by rw [he, TxS.zero_V], TxS.zero_own _ _, TxS.zero_rd _ _, by rw [ptP, if_neg h0]⟩
  · obtain ⟨o1, o2, o3, o4, o5⟩ := xSq_ok hl hb (0, 0)
    have hyl : ys.length = (xR l L (0, 0)).2.length := by rw [← hp, List.length_map]
    have hyk : ∀ y ∈ ys, IdOk y.key ∧ y.l.length ≤ L := fun y hy => by
      have h2 : y.pl ∈ (xR l L (0, 0)).2 := by rw [← hp]; exact List.mem_map_of_mem hy
      exact ymL_ok hl hb _ _ _ (fun t ht => absurd ht (by simp)) _ h2
    have n1 : (xQ l L (0, 0)).2.length ≤ 65536 := by
      have h1 := mvL_len l L (xM l L (0, 0)) (xP4 l L (0, 0)) []
      have h2 : xM l L (0, 0) < 256 ^ 2 := geN_lt (by decide) hl hb
      simp at h1
      show (mvL l L (xM l L (0, 0)) (xP4 l L (0, 0)) []).2.length ≤ _
      omega
    have n3 : ys.length ≤ 65536 := by
      rw [hyl]
      have h1 := ymL_len l L (xN l L (0, 0)) (xP6 l L (0, 0)) []
      have h2 : xN l L (0, 0) < 256 ^ 2 := geN_lt (by decide) hl hb
      simp at h1
      show (ymL l L (xN l L (0, 0)) (xP6 l L (0, 0)) []).2.length ≤ _
      omega
    have n4 : (xHd l L (0, 0)).size < 65536 := by
      unfold xHd
      split
      · have : (geT l L (xP2 l L (0, 0)) 1 255).size < 256 ^ 1 := geT_size _ 1 255 (by decide) hl hb
        omega
      · show (0 : Nat) < 65536; decide
    obtain ⟨P, hP⟩ : ∃ P : TxS, P = ⟨xHh l L (0, 0), xHd l L (0, 0), Am, (xQ l L (0, 0)).2.length, Cm, (xQ l L (0, 0)).2, xHs l L (0, 0), (xSq l L (0, 0)).k, (xSq l L (0, 0)).br, (xSq l L (0, 0)).og, (xSq l L (0, 0)).cu, At, (xSq l L (0, 0)).ts.length, Ct, (xSq l L (0, 0)).ts, (xSq l L (0, 0)).dn, (xSq l L (0, 0)).md, (xSq l L (0, 0)).st, Ay, ys.length, Cy, ys⟩ := ⟨_, rfl⟩
    have hO : P.Own w.heap.size w' := by rw [hP]; exact ⟨rfl, rfl, rfl, hT⟩
    refine ⟨h1, P, ?_, hO, hO.rd ?_ ?_ ?_ ?_ ?_ ?_ ?_ ?_ ?_ ?_ ?_, ?_⟩
    · rw [he, h0, hP]; rfl
    · rw [hP]; exact o1
    · rw [hP]; exact o2
    · rw [hP]; exact mvL_ok hl hb _ _ _ (fun t ht => absurd ht (by simp))
    · rw [hP]; exact o3
    · rw [hP]; exact fun y hy => (hyk y hy).1
    · rw [hP]; exact fun y hy => Nat.le_trans (hyk y hy).2 hL
    · rw [hP]; exact n1
    · rw [hP]; exact o4
    · rw [hP]; exact n3
    · rw [hP]; exact n4
    · rw [hP]; exact o5
    · rw [ptP, if_pos h0, hP]
      simp only [TxS.pl, Sq.D, hp]
theorem eqL_refl {α : Type} {f : α → α → Bool} (h : ∀ a, f a a = true) : ∀ l : List α, eqL f l l = true
  | [] => rfl
  | a :: l => by rw [eqL, h, eqL_refl h l]; rfl
theorem tdEq_refl (a : Td) : tdEq a a = true := by simp [tdEq]
theorem sqEq_refl (a : SqD) : sqEq a a = true := by simp [sqEq, sEq, eqL_refl tdEq_refl]
end Go.Proofs.Ytmcmapgllaopmaa.Cd
end

section
namespace Go.Proofs.Ytmcmapgllaopmaa.Cd
open Go.RowKit
set_option linter.unusedVariables false
theorem nv_fold (l : List Int) : ∀ x : Int, l.foldl (fun x c => x * 256 + c) x = x * 256 ^ l.length + nv l := by
  unfold nv
  induction l with
  | nil => intro x; simp
  | cons c l ih =>
    intro x
    rw [List.foldl_cons, List.foldl_cons, ih, ih (0 * 256 + c), List.length_cons, Int.pow_succ]
    rw [show (0 : Int) * 256 + c = c by omega, Int.add_mul, Int.mul_assoc x 256, Int.mul_comm 256, Int.add_assoc]
theorem nv_cons (c : Int) (l : List Int) : nv (c :: l) = c * 256 ^ l.length + nv l := by
  have h := nv_fold (c :: l) 0
  have h2 : nv (c :: l) = l.foldl (fun x c => x * 256 + c) (0 * 256 + c) := rfl
  rw [h2, nv_fold, show (0 : Int) * 256 + c = c by omega]
theorem p256 (k : Nat) : (2 : Int) ^ (8 * k) = 256 ^ k := by rw [Int.pow_mul]; rfl
theorem be_add : ∀ (k : Nat) (x c : Int) (m : Nat), k ≤ m → be k (x + c * 256 ^ m) = be k x
  | 0, _, _, _, _ => rfl
  | k + 1, x, c, m, h => by
    rw [be, be, be_add k x c m (by omega), p256]
    congr 1
    obtain ⟨d, rfl⟩ : ∃ d, m = k + 1 + d := ⟨m - (k + 1), by omega⟩
    have e : c * 256 ^ (k + 1 + d) = (c * 256 ^ d * 256) * (256 : Int) ^ k := by
      rw [Int.pow_add, Int.pow_succ]
      simp only [Int.mul_assoc, Int.mul_comm, Int.mul_left_comm]
    have hp : (256 : Int) ^ k ≠ 0 := Int.ne_of_gt (Int.pow_pos (by decide))
    rw [e, Int.add_mul_ediv_right _ _ hp, Int.add_mul_emod_self_right]
theorem nv_be : ∀ (k : Nat) (v : Int), 0 ≤ v → v < 256 ^ k → nv (be k v) = v
  | 0, v, h0, h1 => by
    have : v = 0 := by simp at h1; omega
    subst this; rfl
  | k + 1, v, h0, h1 => by
    have hp : (0 : Int) < 256 ^ k := Int.pow_pos (by decide)
    have hq : v / 256 ^ k < 256 := by
      rw [Int.ediv_lt_iff_lt_mul hp, Int.mul_comm]
      rw [Int.pow_succ] at h1
      exact h1
    have hq0 : 0 ≤ v / 256 ^ k := Int.ediv_nonneg h0 (Int.le_of_lt hp)
    have hm := Int.emod_nonneg v (Int.ne_of_gt hp)
    have hm2 := Int.emod_lt_of_pos v hp
    have hd := Int.emod_add_mul_ediv v (256 ^ k)
    rw [be, nv_cons, be_length, p256, Int.emod_eq_of_lt hq0 hq]
    have e : be k v = be k (v % 256 ^ k) := by
      have h2 := be_add k (v % 256 ^ k) (v / 256 ^ k) k (Nat.le_refl _)
      rw [Int.mul_comm (v / 256 ^ k), hd] at h2
      exact h2
    rw [e, nv_be k _ hm hm2, Int.mul_comm]
    omega
def Sd (l : List Int) (a : Nat) (x : List Int) : Prop := a ≤ l.length ∧ ∃ r, l.drop a = x ++ r
section
variable {l : List Int} {L a : Nat} {x y : List Int}
theorem Sd.le (h : Sd l a x) : a + x.length ≤ l.length := by
  obtain ⟨h1, r, h2⟩ := h
  have := congrArg List.length h2
  rw [List.length_drop, List.length_append] at this
  omega
theorem Sd.take (h : Sd l a x) : (l.drop a).take x.length = x := by
  obtain ⟨-, r, h2⟩ := h
  rw [h2, List.take_left']
  rfl
theorem Sd.left (h : Sd l a (x ++ y)) : Sd l a x := by
  obtain ⟨h1, r, h2⟩ := h
  exact ⟨h1, y ++ r, by rw [h2, List.append_assoc]⟩
theorem Sd.right (h : Sd l a (x ++ y)) : Sd l (a + x.length) y := by
  have hl := h.left.le
  obtain ⟨h1, r, h2⟩ := h
  refine ⟨hl, r, ?_⟩
  rw [← List.drop_drop, h2, List.append_assoc, List.drop_left']
  rfl
theorem Sd.nil (h : a ≤ l.length) : Sd l a [] := ⟨h, l.drop a, rfl⟩
theorem Sd.whole (l : List Int) : Sd l 0 l := ⟨Nat.zero_le _, [], by simp⟩
/-- what stands from the start to the end is all -/
theorem Sd.all (h : Sd l 0 x) (he : x.length = l.length) : x = l := by
  have := h.take
  rw [he] at this
  simpa using this.symm
theorem Sd.tk (h : Sd l a x) (hL : l.length = L) : tkF 0 a L x.length = 0 ∧ tkA 0 a L x.length = a + x.length ∧ tkL 0 l a L x.length = x := by
  have hl := h.le
  have h2 := tk_yes (f := 0) rfl l a L x.length (by omega)
  exact ⟨h2.1, h2.2.1, by rw [h2.2.2, h.take]⟩
theorem Sd.byte (h : Sd l a x) (hb : ∀ i, i < l.length → 0 ≤ l.getD i 0 ∧ l.getD i 0 ≤ 255) : ∀ i, i < x.length → 0 ≤ x.getD i 0 ∧ x.getD i 0 ≤ 255 := by
  intro i hi
  have hl := h.le
  rw [← h.take, take_getD _ _ _ hi]
  have := hb (a + i) (by omega)
  simpa [List.getD] using this
theorem sd_at (h : Sd l a x) (hL : l.length = L) (n : Nat) (hn : x.length = n) : atN l L (0, a) n = (0, a + n) ∧ geL l L (0, a) n = x := by
  subst hn
  obtain ⟨h1, h2, h3⟩ := h.tk hL
  exact ⟨by unfold atN; rw [h1, h2], h3⟩
theorem sd_num {v : Int} {n : Nat} (h : Sd l a (be n v)) (hL : l.length = L) (h0 : 0 ≤ v) (h1 : v < 256 ^ n) : ((geN l L (0, a) n : Nat) : Int) = v ∧ atN l L (0, a) n = (0, a + n) := by
  obtain ⟨e1, e2⟩ := sd_at h hL n (be_length n v)
  refine ⟨?_, e1⟩
  have : geN l L (0, a) n = (nv (geL l L (0, a) n)).toNat := rfl
  rw [this, e2, nv_be n v h0 h1]
  omega
theorem sd_id (h : Sd l a x) (hL : l.length = L) (hx : x.length = 32) : geI l L (0, a) = x ∧ atN l L (0, a) 32 = (0, a + 32) := by
  obtain ⟨e1, e2⟩ := sd_at h hL 32 hx
  have : geI l L (0, a) = idv (geL l L (0, a) 32) := rfl
  exact ⟨by rw [this, e2]; simp [idv, hx], e1⟩
theorem sb_sv (s : ByteArray) : sb (sv s) = s := by
  have h := sb_data (sv s)
  have h2 : (sb (sv s)).data.toList = s.data.toList := by
    rw [h]
    unfold sv
    rw [List.map_map]
    refine (List.map_congr_left fun x hx => ?_).trans (List.map_id _)
    simp
  have h3 : (sb (sv s)).data = s.data := Array.toList_inj.1 h2
  cases hs : sb (sv s)
  cases s
  rw [hs] at h3
  simpa using h3
theorem sd_text {s : ByteArray} {n most : Nat} (h : Sd l a (be n (s.size : Int) ++ sv s)) (hL : l.length = L) (h1 : s.size < 256 ^ n) (h2 : s.size ≤ most) : geT l L (0, a) n most = s ∧ atT l L (0, a) n most = (0, a + n + s.size) := by
  have hp : ((256 ^ n : Nat) : Int) = (256 : Int) ^ n := Int.natCast_pow 256 n
  obtain ⟨e1, e2⟩ := sd_num h.left hL (by omega) (by rw [← hp]; exact Int.ofNat_lt.2 h1)
  have e0 : geN l L (0, a) n = s.size := by omega
  have hr := h.right
  rw [be_length] at hr
  obtain ⟨e3, e4⟩ := sd_at hr hL s.size (sv_len s)
  have hm : txM 0 l a L n = s.size := e0
  have ht : tx2 0 l a L n most = 0 := by
    rw [tx2_most (by omega)]
    have := congrArg Prod.fst e2
    exact this
  have hA : tkA 0 a L n = a + n := congrArg Prod.snd e2
  have g1 : tkF 0 (a + n) L s.size = 0 := congrArg Prod.fst e3
  have g2 : tkA 0 (a + n) L s.size = a + n + s.size := congrArg Prod.snd e3
  have g3 : tkL 0 l (a + n) L s.size = sv s := e4
  refine ⟨?_, ?_⟩
  · show txS 0 l a L n most = s
    unfold txS
    rw [ht, hA, hm, g3, sb_sv]
  · show (txF 0 l a L n most, txA 0 l a L n most) = _
    unfold txF txA
    rw [ht, hA, hm, g1, g2]
end
end Go.Proofs.Ytmcmapgllaopmaa.Cd
end

section
namespace Go.Proofs.Ytmcmapgllaopmaa.Cd
open Go.RowKit
set_option linter.unusedVariables false
/-- a move that may be -/
structure MvF (m : Mv) : Prop where
  od : m.od.length = 32
  nw : m.nw.length = 32
  nm : m.nm.size ≤ 255
  wy : m.wy.size ≤ 65535
section
variable {l : List Int} {L : Nat}
theorem mvB_len {m : Mv} (h : MvF m) : (mvB m).length = 1 + m.nm.size + 32 + 32 + (2 + m.wy.size) := by
  simp [mvB, be_length, sv_len, h.od, h.nw]; omega
theorem sd_mv (hL : l.length = L) {a : Nat} {m : Mv} (h : Sd l a (mvB m)) (hm : MvF m) : mvP l L (0, a) = m ∧ vP4 l L (0, a) = (0, a + (mvB m).length) := by
  have h1 := hm.od
  have h2 := hm.nw
  have h3 := hm.nm
  have h4 := hm.wy
  have k1 := h.left.left.left
  have k2 := h.left.left.right
  have k3 := h.left.right
  have k4 := h.right
  simp only [List.length_append, be_length, sv_len, h1, h2] at k2 k3 k4
  obtain ⟨e1, e2⟩ := sd_text (most := 255) k1 hL (by omega) (by omega)
  obtain ⟨e3, e4⟩ := sd_id k2 hL h1
  obtain ⟨e5, e6⟩ := sd_id k3 hL h2
  obtain ⟨e7, e8⟩ := sd_text (most := 65535) k4 hL (by omega) (by omega)
  have p1 : vP1 l L (0, a) = (0, a + (1 + m.nm.size)) := by unfold vP1; rw [e2, Nat.add_assoc]
  have p2 : vP2 l L (0, a) = (0, a + (1 + m.nm.size + 32)) := by unfold vP2; rw [p1, e4]; simp only [Nat.add_assoc]
  have p3 : vP3 l L (0, a) = (0, a + (1 + m.nm.size + 32 + 32)) := by unfold vP3; rw [p2, e6]; simp only [Nat.add_assoc]
  refine ⟨?_, ?_⟩
  · unfold mvP vNm vOd vNw vWy
    rw [p1, p2, p3, e1, e3, e5, e7]
  · unfold vP4
    rw [p3, e8, mvB_len hm]
    simp only [Nat.add_assoc]
theorem sd_mvs (hL : l.length = L) : ∀ (ms : List Mv) (a : Nat) (acc : List Mv), Sd l a (mvBs ms) → (∀ m ∈ ms, MvF m) → mvL l L ms.length (0, a) acc = ((0, a + (mvBs ms).length), acc ++ ms)
  | [], a, acc, _, _ => by simp [mvL, mvBs]
  | m :: ms, a, acc, h, hm => by
    have h' : Sd l a (mvB m ++ mvBs ms) := h
    obtain ⟨e1, e2⟩ := sd_mv hL h'.left (hm m (List.mem_cons_self ..))
    rw [List.length_cons, mvL, if_pos rfl, e1, e2, sd_mvs hL ms _ _ h'.right (fun x hx => hm x (List.mem_cons_of_mem _ hx))]
    have : mvBs (m :: ms) = mvB m ++ mvBs ms := rfl
    rw [this, List.length_append, List.append_assoc, Nat.add_assoc]
    rfl
theorem sd_td (hL : l.length = L) {a : Nat} {t : Td} (h : Sd l a (t.dd :: t.id)) (hi : t.id.length = 32) (h0 : 0 ≤ t.dd) (h1 : t.dd ≤ 255) :
    (⟨(geN l L (0, a) 1 : Nat), geI l L (atN l L (0, a) 1)⟩ : Td) = t ∧ atN l L (atN l L (0, a) 1) 32 = (0, a + 33) := by
  have h' : Sd l a (be 1 t.dd ++ t.id) := by rw [be_one _ h0 h1]; exact h
  obtain ⟨e1, e2⟩ := sd_num h'.left hL h0 (by omega)
  have k := h'.right
  rw [be_length] at k
  obtain ⟨e3, e4⟩ := sd_id k hL hi
  rw [e2, e3, e4, e1]
  exact ⟨rfl, rfl⟩
theorem sd_tds (hL : l.length = L) : ∀ (ts : List Td) (a : Nat) (acc : List Td), Sd l a (tdBs ts) → (∀ t ∈ ts, t.id.length = 32 ∧ 0 ≤ t.dd ∧ t.dd ≤ 255) → tdL l L ts.length (0, a) acc = ((0, a + 33 * ts.length), acc ++ ts)
  | [], a, acc, _, _ => by simp [tdL]
  | t :: ts, a, acc, h, hm => by
    have h' : Sd l a ((t.dd :: t.id) ++ tdBs ts) := h
    have ht := hm t (List.mem_cons_self ..)
    obtain ⟨e1, e2⟩ := sd_td hL h'.left ht.1 ht.2.1 ht.2.2
    have hr := h'.right
    rw [List.length_cons, ht.1] at hr
    rw [List.length_cons, tdL, if_pos rfl, e1, e2, sd_tds hL ts _ _ hr (fun x hx => hm x (List.mem_cons_of_mem _ hx))]
    rw [List.append_assoc, show a + 33 + 33 * ts.length = a + 33 * (ts.length + 1) by omega]
    rfl
/-- a conflict that may be -/
structure MyF (y : My) : Prop where
  key : y.key.length = 32
  len : y.l.length = y.n
  big : y.n < 4294967296
theorem sd_ym (hL : l.length = L) {a : Nat} {y : My} (h : Sd l a (myB y)) (hy : MyF y) : ymP l L (0, a) = y.pl ∧ yP3 l L (0, a) = (0, a + (myB y).length) := by
  have h1 := hy.key
  have h2 := hy.len
  have h3 := hy.big
  have k1 := h.left.left
  have k2 := h.left.right
  have k3 := h.right
  simp only [List.length_append, be_length, h1] at k2 k3
  obtain ⟨e1, e2⟩ := sd_id k1 hL h1
  obtain ⟨e3, e4⟩ := sd_num k2 hL (by omega) (by omega)
  obtain ⟨e5, e6⟩ := sd_at k3 hL y.n h2
  have e3' : geN l L (0, a + 32) 4 = y.n := by omega
  have p1 : yP1 l L (0, a) = (0, a + 32) := e2
  have p2 : yP2 l L (0, a) = (0, a + (32 + 4)) := by unfold yP2; rw [p1, e4]
  have pm : yM l L (0, a) = y.n := by unfold yM; rw [p1]; exact e3'
  refine ⟨?_, ?_⟩
  · unfold ymP yK yD My.pl
    rw [p2, pm, e6, e1]
  · unfold yP3
    rw [p2, pm, e5]
    simp [myB, be_length, h1, h2]
    omega
theorem sd_yms (hL : l.length = L) : ∀ (ys : List My) (a : Nat) (acc : List Yp), Sd l a (myBs ys) → (∀ y ∈ ys, MyF y) → ymL l L ys.length (0, a) acc = ((0, a + (myBs ys).length), acc ++ ys.map My.pl)
  | [], a, acc, _, _ => by simp [ymL, myBs]
  | y :: ys, a, acc, h, hm => by
    have h' : Sd l a (myB y ++ myBs ys) := h
    obtain ⟨e1, e2⟩ := sd_ym hL h'.left (hm y (List.mem_cons_self ..))
    rw [List.length_cons, ymL, if_pos rfl, e1, e2, sd_yms hL ys _ _ h'.right (fun x hx => hm x (List.mem_cons_of_mem _ hx))]
    have : myBs (y :: ys) = myB y ++ myBs ys := rfl
    rw [this, List.length_append, List.append_assoc, Nat.add_assoc]
    rfl
/-- a sequence that may be -/
structure SqF (s : SqD) : Prop where
  k0 : 0 ≤ s.k
  k1 : s.k ≤ 255
  br : s.br.size ≤ 255
  og : s.og.length = 32
  cu : s.cu.length = 32
  n : s.ts.length ≤ 65535
  ts : ∀ t ∈ s.ts, t.id.length = 32 ∧ 0 ≤ t.dd ∧ t.dd ≤ 255
  d0 : 0 ≤ s.dn
  d1 : s.dn ≤ 65535
  m0 : 0 ≤ s.md
  m1 : s.md ≤ 65535
theorem sd_sq (hL : l.length = L) {a : Nat} {s : SqD} (h : Sd l a s.bytes) (hs : SqF s) : (sqP l L (0, a)).D = (if s.k = 0 then SqD.zero else s) ∧ sqE l L (0, a) = (0, a + s.bytes.length) := by
  have hk0 := hs.k0
  have hk1 := hs.k1
  by_cases h0 : s.k = 0
  · have e : s.bytes = be 1 s.k := by
      unfold SqD.bytes sqBs
      rw [if_pos h0, be_one _ hk0 hk1]
    rw [e] at h ⊢
    obtain ⟨e1, e2⟩ := sd_num h hL hk0 (by omega)
    have hz : sK l L (0, a) = 0 := by unfold sK; omega
    rw [if_pos h0]
    unfold sqP sqE
    rw [if_pos hz, if_pos hz]
    exact ⟨rfl, by unfold sP1; rw [e2, be_length]⟩
  · have e : s.bytes = be 1 s.k ++ (sqH s.br s.og s.cu s.ts.length ++ tdBs s.ts ++ sqT s.dn s.md s.st) := by
      unfold SqD.bytes sqBs
      rw [if_neg h0, be_one _ hk0 hk1]; rfl
    have hlen : s.bytes.length = 1 + (1 + s.br.size + 32 + 32 + 2 + 33 * s.ts.length + (2 + 2 + 1)) := by
      rw [e]
      simp [sqH, sqT, be_length, sv_len, hs.og, hs.cu, tdBs_len s.ts (fun t ht => (hs.ts t ht).1)]
      omega
    rw [e] at h
    have q := h.right
    unfold sqH sqT at q
    rw [be_length] at q
    obtain ⟨e1, e2⟩ := sd_num h.left hL hk0 (by omega)
    have b1 := hs.br
    have b2 := hs.og
    have b3 := hs.cu
    have b4 := hs.n
    have c1 := q.left.left
    have d1 := c1.left.left.left
    have d2 := c1.left.left.right
    have d3 := c1.left.right
    have d4 := c1.right
    have d5 := q.left.right
    have d6 := q.right.left.left
    have d7 := q.right.left.right
    have d8 := q.right.right
    have ht := tdBs_len s.ts (fun t ht => (hs.ts t ht).1)
    simp only [List.length_append, be_length, sv_len, b2, b3, ht] at d2 d3 d4 d5 d6 d7 d8
    obtain ⟨f1, f2⟩ := sd_text (most := 255) d1 hL (by omega) (by omega)
    obtain ⟨f3, f4⟩ := sd_id d2 hL b2
    obtain ⟨f5, f6⟩ := sd_id d3 hL b3
    obtain ⟨f7, f8⟩ := sd_num d4 hL (by omega) (by omega)
    have f9 := sd_tds hL s.ts _ [] d5 hs.ts
    obtain ⟨g1, g2⟩ := sd_num d6 hL hs.d0 (by have := hs.d1; omega)
    obtain ⟨g3, g4⟩ := sd_num d7 hL hs.m0 (by have := hs.m1; omega)
    have d9 : Sd l (a + 1 + (1 + s.br.size + 32 + 32 + 2 + 33 * s.ts.length) + (2 + 2)) (be 1 (if s.st = true then 1 else 0)) := by
      rw [be_one _ (by split <;> decide) (by split <;> decide)]; exact d8
    obtain ⟨g5, g6⟩ := sd_num d9 hL (by split <;> decide) (by split <;> decide)
    have eK : ((sK l L (0, a) : Nat) : Int) = s.k := e1
    have p1 : sP1 l L (0, a) = (0, a + 1) := e2
    have eB : sBr l L (0, a) = s.br := by unfold sBr; rw [p1]; exact f1
    have p2 : sP2 l L (0, a) = (0, a + 1 + (1 + s.br.size)) := by unfold sP2; rw [p1, f2]; simp only [Nat.add_assoc]
    have eO : sOg l L (0, a) = s.og := by unfold sOg; rw [p2]; exact f3
    have p3 : sP3 l L (0, a) = (0, a + 1 + (1 + s.br.size + 32)) := by unfold sP3; rw [p2, f4]; simp only [Nat.add_assoc]
    have eC : sCu l L (0, a) = s.cu := by unfold sCu; rw [p3]; exact f5
    have p4 : sP4 l L (0, a) = (0, a + 1 + (1 + s.br.size + 32 + 32)) := by unfold sP4; rw [p3, f6]; simp only [Nat.add_assoc]
    have eM : sM l L (0, a) = s.ts.length := by unfold sM; rw [p4]; omega
    have p5 : sP5 l L (0, a) = (0, a + 1 + (1 + s.br.size + 32 + 32 + 2)) := by unfold sP5; rw [p4, f8]; simp only [Nat.add_assoc]
    have eQ : sQ l L (0, a) = ((0, a + 1 + (1 + s.br.size + 32 + 32 + 2 + 33 * s.ts.length)), s.ts) := by unfold sQ; rw [eM, p5, f9]; simp only [Nat.add_assoc, List.nil_append]
    have eD : ((sDn l L (0, a) : Nat) : Int) = s.dn := by unfold sDn; rw [eQ]; exact g1
    have p6 : sP6 l L (0, a) = (0, a + 1 + (1 + s.br.size + 32 + 32 + 2 + 33 * s.ts.length) + 2) := by unfold sP6; rw [eQ]; exact g2
    have eMd : ((sMd l L (0, a) : Nat) : Int) = s.md := by unfold sMd; rw [p6]; exact g3
    have p7 : sP7 l L (0, a) = (0, a + 1 + (1 + s.br.size + 32 + 32 + 2 + 33 * s.ts.length) + (2 + 2)) := by unfold sP7; rw [p6, g4]
    have eS : ((sSt l L (0, a) : Nat) : Int) = if s.st = true then 1 else 0 := by unfold sSt; rw [p7]; exact g5
    have p8 : sP8 l L (0, a) = (0, a + 1 + (1 + s.br.size + 32 + 32 + 2 + 33 * s.ts.length) + (2 + 2) + 1) := by unfold sP8; rw [p7]; exact g6
    have hS1 : ¬ 1 < sSt l L (0, a) := by
      intro hh
      split at eS <;> omega
    have p9 : sP9 l L (0, a) = (0, a + 1 + (1 + s.br.size + 32 + 32 + 2 + 33 * s.ts.length) + (2 + 2) + 1) := by unfold sP9; rw [if_neg hS1, p8]
    have hS : (sSt l L (0, a) == 1) = s.st := by
      cases hst : s.st <;> rw [hst] at eS
      · have : sSt l L (0, a) = 0 := by simpa using eS
        rw [this]; rfl
      · have : sSt l L (0, a) = 1 := by
          have : ((sSt l L (0, a) : Nat) : Int) = 1 := eS
          omega
        rw [this]; rfl
    have hz : ¬ sK l L (0, a) = 0 := by
      intro hh
      rw [hh] at eK
      exact h0 eK.symm
    rw [if_neg h0]
    unfold sqP sqE
    rw [if_neg hz, if_neg hz, p9, hlen, eB, eO, eC, eQ, hS]
    refine ⟨?_, by simp only [Prod.mk.injEq, true_and]; omega⟩
    unfold Sq.D
    simp only [eK, eD, eMd]
end
theorem anyF {α : Type} {f : α → Bool} {l : List α} (h : l.any f = false) : ∀ x ∈ l, f x = false := by
  intro x hx
  have := List.any_eq_false.1 h x hx
  simpa using this
/-- what EncodeTx takes may be -/
theorem txE_ok {t : TxS} (hr : ∃ G w, t.Rd G w) (h0 : txE t.D = 0) : t.ms.length ≤ 65535 ∧ (∀ m ∈ t.ms, MvF m) ∧ t.ys.length ≤ 65535 ∧ (∀ y ∈ t.ys, MyF y) ∧ (akH t.hh t.hd).size ≤ 255 ∧ SqF (t.D.sq.ask t.D.hs) := by
  obtain ⟨G, w, hr⟩ := hr
  unfold txE at h0
  split at h0
  · exact absurd h0 (by decide)
  · rename_i h1
    split at h0
    · exact absurd h0 (by decide)
    · rename_i h2
      split at h0
      · exact absurd h0 (by decide)
      · rename_i h3
        have h2' : lgB t.ms (akH t.hh t.hd) (t.D.sq.ask t.D.hs).br = false := (Bool.eq_false_or_eq_true _).resolve_left h2
        have h3' : nfB (t.D.sq.ask t.D.hs).ts (t.D.sq.ask t.D.hs).k (t.D.sq.ask t.D.hs).dn (t.D.sq.ask t.D.hs).md = true := (Bool.eq_false_or_eq_true _).resolve_right h3
        unfold lgB at h2'
        simp only [Bool.or_eq_false_iff, decide_eq_false_iff_not] at h2'
        obtain ⟨a1, a2, a3⟩ := h2'
        unfold nfB tdB fitB at h3'
        simp only [Bool.and_eq_true, decide_eq_true_eq, List.all_eq_true] at h3'
        obtain ⟨b1, ⟨b2, b3⟩, ⟨b4, b5⟩, b6, b7⟩ := h3'
        have hl1 : t.D.ms.length ≤ 65535 := by
          rcases Nat.lt_or_ge 65535 t.D.ms.length with h | h
          · exact absurd (Or.inl h) h1
          · exact h
        have hl2 : t.D.ys.length ≤ 65535 := by
          rcases Nat.lt_or_ge 65535 t.D.ys.length with h | h
          · exact absurd (Or.inr (Or.inl h)) h1
          · exact h
        have hl3 : (t.D.sq.ask t.D.hs).ts.length ≤ 65535 := by
          rcases Nat.lt_or_ge 65535 (t.D.sq.ask t.D.hs).ts.length with h | h
          · exact absurd (Or.inr (Or.inr h)) h1
          · exact h
        have hask : (t.D.sq.ask t.D.hs).og.length = 32 ∧ (t.D.sq.ask t.D.hs).cu.length = 32 ∧ ∀ x ∈ (t.D.sq.ask t.D.hs).ts, x.id.length = 32 := by
          unfold SqD.ask
          split
          · exact ⟨hr.ho.1, hr.hc.1, fun x hx => (hr.hTi x hx).1⟩
          · exact ⟨by simp [SqD.zero], by simp [SqD.zero], fun x hx => absurd hx (by simp [SqD.zero])⟩
        refine ⟨hl1, fun m hm => ?_, hl2, fun y hy => ?_, by omega, ⟨b2, b3, by omega, hask.1, hask.2.1, hl3, fun x hx => ⟨hask.2.2 x hx, (b1 x hx).1, (b1 x hx).2⟩, b4, b5, b6, b7⟩⟩
        · have := anyF a1 m hm
          unfold mlB at this
          simp only [Bool.or_eq_false_iff, decide_eq_false_iff_not] at this
          exact ⟨(hr.hMi m hm).1.1, (hr.hMi m hm).2.1, by omega, by omega⟩
        · have h5 := hr.hY.ok y hy
          exact ⟨h5.1, h5.2.2.rd.len, by have := h5.2.1; omega⟩
/-- ENCODED, THEN PARSED -/
theorem tx_back {t : TxS} (hr : ∃ G w, t.Rd G w) (h0 : txE t.D = 0) : xF (txB t.D) (txB t.D).length = 0 ∧ ptP (txB t.D) (txB t.D).length = ⟨t.hh, akH t.hh t.hd, t.ms, t.hs, (t.D.sq.ask t.D.hs), t.ys.map My.pl⟩ := by
  obtain ⟨a1, a2, a3, a4, a5, a6⟩ := txE_ok hr h0
  obtain ⟨l, hl⟩ : ∃ l, l = txB t.D := ⟨_, rfl⟩
  obtain ⟨L, hL⟩ : ∃ L, L = (txB t.D).length := ⟨_, rfl⟩
  have hlL : l.length = L := by rw [hl, hL]
  have hw := Sd.whole l
  rw [hl] at hw
  rw [← hl] at hL ⊢
  rw [← hL]
  obtain ⟨Hd, hHd⟩ : ∃ Hd : List Int, Hd = if t.hh = true then be 1 (t.hd.size : Int) ++ sv t.hd else [] := ⟨_, rfl⟩
  obtain ⟨Sb, hSb⟩ : ∃ Sb : List Int, Sb = if t.hs = true then (t.D.sq.ask t.D.hs).bytes else [] := ⟨_, rfl⟩
  have hfg : 0 ≤ fgB t.hh t.hs ∧ fgB t.hh t.hs ≤ 3 := by unfold fgB; cases t.hh <;> cases t.hs <;> decide
  have e : txB t.D = be 1 (fgB t.hh t.hs) ++ (Hd ++ be 2 (t.ms.length : Int) ++ mvBs t.ms ++ Sb ++ be 2 (t.ys.length : Int) ++ myBs t.ys) := by
    rw [be_one _ hfg.1 (by omega), hHd, hSb]; rfl
  have hw2 : Sd l 0 (be 1 (fgB t.hh t.hs) ++ (Hd ++ be 2 (t.ms.length : Int) ++ mvBs t.ms ++ Sb ++ be 2 (t.ys.length : Int) ++ myBs t.ys)) := by rw [← e, hl]; exact Sd.whole _
  have hle : L = 1 + (Hd.length + 2 + (mvBs t.ms).length + Sb.length + 2 + (myBs t.ys).length) := by
    rw [hL, hl, e]; simp [be_length]; omega
  have k0 := hw2.left
  have q := hw2.right
  rw [be_length] at q
  have k1 := q.left.left.left.left.left
  have k2 := q.left.left.left.left.right
  have k3 := q.left.left.left.right
  have k4 := q.left.left.right
  have k5 := q.left.right
  have k6 := q.right
  simp only [List.length_append, be_length] at k2 k3 k4 k5 k6
  clear hw hw2 q
  obtain ⟨b1, b2⟩ := sd_num k0 hlL hfg.1 (by omega)
  have eH : ((xH l L (0, 0) : Nat) : Int) = fgB t.hh t.hs := b1
  have p1 : xP1 l L (0, 0) = (0, 0 + 1) := b2
  have hH3 : ¬ 3 < xH l L (0, 0) := by omega
  have p2 : xP2 l L (0, 0) = (0, 0 + 1) := by unfold xP2; rw [if_neg hH3, p1]
  have eHh : xHh l L (0, 0) = t.hh := by
    unfold xHh
    have : xH l L (0, 0) = (fgB t.hh t.hs).toNat := by omega
    rw [this]
    unfold fgB
    cases t.hh <;> cases t.hs <;> rfl
  have eHs : xHs l L (0, 0) = t.hs := by
    unfold xHs
    have : xH l L (0, 0) = (fgB t.hh t.hs).toNat := by omega
    rw [this]
    unfold fgB
    cases t.hh <;> cases t.hs <;> rfl
  have h3 : xHd l L (0, 0) = akH t.hh t.hd ∧ xP3 l L (0, 0) = (0, 0 + 1 + Hd.length) := by
    unfold xHd xP3
    rw [eHh, p2]
    cases hh : t.hh with
    | false =>
      rw [hh] at hHd
      have : Hd = [] := by rw [hHd]; rfl
      rw [this]
      exact ⟨rfl, rfl⟩
    | true =>
      rw [hh] at hHd a5
      have : Hd = be 1 (t.hd.size : Int) ++ sv t.hd := by rw [hHd]; rfl
      rw [this] at k1 ⊢
      have hs : t.hd.size ≤ 255 := a5
      obtain ⟨c1, c2⟩ := sd_text (most := 255) k1 hlL (by omega) hs
      refine ⟨c1, ?_⟩
      show atT l L (0, 0 + 1) 1 255 = _
      rw [c2]
      simp [be_length, sv_len]
      omega
  obtain ⟨b3, b4⟩ := sd_num k2 hlL (by omega) (by omega)
  have eM : xM l L (0, 0) = t.ms.length := by unfold xM; rw [h3.2]; omega
  have p4 : xP4 l L (0, 0) = (0, 0 + 1 + (Hd.length + 2)) := by unfold xP4; rw [h3.2, b4]; simp only [Nat.add_assoc]
  have eQ : xQ l L (0, 0) = ((0, 0 + 1 + (Hd.length + 2 + (mvBs t.ms).length)), t.ms) := by
    unfold xQ
    rw [eM, p4, sd_mvs hlL t.ms _ [] k3 a2]
    simp only [Nat.add_assoc, List.nil_append]
  have h5 : (xSq l L (0, 0)).D = (t.D.sq.ask t.D.hs) ∧ xP5 l L (0, 0) = (0, 0 + 1 + (Hd.length + 2 + (mvBs t.ms).length + Sb.length)) := by
    unfold xSq xP5
    rw [eHs, eQ]
    have hd : t.D.hs = t.hs := rfl
    cases hs : t.hs with
    | false =>
      rw [hs] at hSb hd
      have : Sb = [] := by rw [hSb]; rfl
      rw [this, hd]
      refine ⟨?_, rfl⟩
      rw [if_neg (by decide)]
      unfold SqD.ask
      rw [if_neg (fun h => by cases h.1)]
      rfl
    | true =>
      rw [hs] at hSb
      have : Sb = (t.D.sq.ask t.D.hs).bytes := by rw [hSb]; rfl
      rw [this] at k4 ⊢
      obtain ⟨c1, c2⟩ := sd_sq hlL k4 a6
      rw [if_pos rfl, if_pos rfl, c1, c2]
      refine ⟨?_, by simp only [Nat.add_assoc]⟩
      split
      · rename_i hk
        unfold SqD.ask at hk ⊢
        split at hk
        · rename_i h6
          exact absurd hk h6.2
        · rename_i h6
          rw [if_neg h6]
      · rfl
  obtain ⟨b5, b6⟩ := sd_num k5 hlL (by omega) (by omega)
  have eN : xN l L (0, 0) = t.ys.length := by unfold xN; rw [h5.2]; omega
  have p6 : xP6 l L (0, 0) = (0, 0 + 1 + (Hd.length + 2 + (mvBs t.ms).length + Sb.length + 2)) := by unfold xP6; rw [h5.2, b6]; simp only [Nat.add_assoc]
  have eR : xR l L (0, 0) = ((0, L), t.ys.map My.pl) := by
    unfold xR
    rw [eN, p6, sd_yms hlL t.ys _ [] k6 a4, hle]
    simp only [List.nil_append, Prod.mk.injEq, true_and, and_true]
    omega
  have eF : xF l L = 0 := by
    show enF (xR l L (0, 0)).1.1 (xR l L (0, 0)).1.2 L = 0
    rw [eR]
    unfold enF
    rw [if_pos rfl]
  refine ⟨eF, ?_⟩
  unfold ptP
  rw [if_pos eF, eHh, eHs, h3.1, eQ, h5.1, eR]
end Go.Proofs.Ytmcmapgllaopmaa.Cd
end
