/- Texts of one's own, merged: CdSTx, CdRSqS, CdRLong. -/
import Derived.Test.YtmcmapgllaopmaaMf

section
namespace Go.Proofs.Ytmcmapgllaopmaa.Cd
open Go.RowKit
set_option linter.unusedVariables false
theorem step_load_mid {w : World} {ops : Array Oper} {o : Oper} {a : Act} {K : Act → World → Prop} {Q : Exit → Act → World → Prop} {E : Prop} (hgd : o.guard = none) (ty : TypeId) (x : Operand) (ho : o.op = .load ty x)
    (b off : Nat) (hx : a.eval x = .pointer (some ⟨b, off, none⟩)) (cs : List Value) (d : TypeDesc) (hc : w.rangeAt b off cs)
    (hu : Try.prog.underlying ty = some d) (hd : d.isRow = true) (hi : (Try.prog.info? ty).map (·.size) = some cs.length)
    (h : K (a.put o.dst (.agg cs.toArray)) w) : if Region.wanted o (yielded ops a.tmps) = true then Oper.wp Try.prog o a w K Q else E := by
  have hw : Region.wanted o (yielded ops a.tmps) = true := by simp [Region.wanted, hgd]
  rw [if_pos hw]
  exact wp_load_mid ty x ho b off hx cs d hc hu hd hi h
/-- are two transactions the same in everything that is asked of them? -/
def sxEq (a b : TxD) : Bool := (a.hh == b.hh) && (sEq (akH a.hh a.hd) (akH b.hh b.hd) && ((a.hs == b.hs) && (eqL mvEq a.ms b.ms && (sqEq (a.sq.ask a.hs) (b.sq.ask b.hs) && eqL myEq a.ys b.ys))))
set_option maxRecDepth 100000 in
set_option maxHeartbeats 8000000 in
theorem sameTx_any (G : Nat) (hh1 : Bool) (hd1 : ByteArray) (A1 : Option Addr) (n1 C1 : Nat) (ms1 : List Mv) (hs1 : Bool) (k1 : Int) (br1 : ByteArray) (og1 cu1 : List Int) (At1 : Option Addr) (nt1 Ct1 : Nat) (ts1 : List Td) (dn1 md1 : Int) (st1 : Bool) (Am1 : Option Addr) (m1 Cm1 : Nat) (ys1 : List My) (hh2 : Bool) (hd2 : ByteArray) (A2 : Option Addr) (n2 C2 : Nat) (ms2 : List Mv) (hs2 : Bool) (k2 : Int) (br2 : ByteArray) (og2 cu2 : List Int) (At2 : Option Addr) (nt2 Ct2 : Nat) (ts2 : List Td) (dn2 md2 : Int) (st2 : Bool) (Am2 : Option Addr) (m2 Cm2 : Nat) (ys2 : List My) (w : World)
    (ho1 : IdOk og1) (hc1 : IdOk cu1) (hM1 : RdM G w A1 n1 C1 ms1) (hT1 : RdT G w At1 nt1 Ct1 ts1) (hTi1 : ∀ t ∈ ts1, IdOk t.id) (hY1 : RdY G w Am1 m1 Cm1 ys1) (hn1 : n1 ≤ 1000000000) (hm1 : m1 ≤ 1000000000) (hnt1 : nt1 ≤ 1000000000) (hbr1 : br1.size ≤ 1000000000) (ho2 : IdOk og2) (hc2 : IdOk cu2) (hM2 : RdM G w A2 n2 C2 ms2) (hT2 : RdT G w At2 nt2 Ct2 ts2) (hTi2 : ∀ t ∈ ts2, IdOk t.id) (hY2 : RdY G w Am2 m2 Cm2 ys2) (hn2 : n2 ≤ 1000000000) (hm2 : m2 ≤ 1000000000) (hnt2 : nt2 ≤ 1000000000) (hbr2 : br2.size ≤ 1000000000) (hG : G ≤ w.heap.size) :
    Calls Try.prog 34 #[.agg (txV hh1 hd1 (.slice A1 n1 C1) hs1 (sqV k1 br1 og1 cu1 (.slice At1 nt1 Ct1) dn1 md1 st1) (.slice Am1 m1 Cm1)).toArray, .agg (txV hh2 hd2 (.slice A2 n2 C2) hs2 (sqV k2 br2 og2 cu2 (.slice At2 nt2 Ct2) dn2 md2 st2) (.slice Am2 m2 Cm2)).toArray] w fun e w' => e = .returned (.bool (sxEq ⟨hh1, hd1, ms1, hs1, ⟨k1, br1, og1, cu1, ts1, dn1, md1, st1⟩, ys1⟩ ⟨hh2, hd2, ms2, hs2, ⟨k2, br2, og2, cu2, ts2, dn2, md2, st2⟩, ys2⟩)) ∧ Below w.heap.size w w' := by
  have hql1 := sqV_len (k := k1) (br := br1) (td := Value.slice At1 nt1 Ct1) (dn := dn1) (md := md1) (st := st1) ho1.1 hc1.1
  have hxl1 := txV_len (hh := hh1) (hd := hd1) (mv := .slice A1 n1 C1) (hs := hs1) (mm := .slice Am1 m1 Cm1) hql1
  have HAk1 := Lib.hid (fun W => asked_any hh1 hd1 (.slice A1 n1 C1) hs1 k1 br1 og1 cu1 (.slice At1 nt1 Ct1) dn1 md1 st1 (.slice Am1 m1 Cm1) W ho1.1 hc1.1 rfl rfl rfl)
  obtain ⟨q1, bq1, oq1, cq1, Aq1, nq1, Cq1, tq1, dq1, mq1, sq1, e1, e2, ho', hc', hT', hTi', hnt', hbr'⟩ := ak_form G hs1 k1 br1 og1 cu1 At1 nt1 Ct1 ts1 dn1 md1 st1 w ho1 hc1 hT1 hTi1 hnt1 hbr1
  rw [e1] at HAk1
  have HAsk1 := Lib.hid e2
  have HIo1 := Lib.hid ho'
  have HIc1 := Lib.hid hc'
  have HTq1 := Lib.hid hT'
  have hnq1 := hnt'
  have hqq1 := sqV_len (k := q1) (br := bq1) (td := Value.slice Aq1 nq1 Cq1) (dn := dq1) (md := mq1) (st := sq1) ho'.1 hc'.1
  clear e1 e2 ho' hc' hT' hTi' hnt' hbr'
  obtain ⟨h1, hh'⟩ : ∃ h1, h1 = akH hh1 hd1 := ⟨_, rfl⟩
  rw [← hh'] at HAk1
  have HH1 := Lib.hid hh'
  clear hh'
  have hxq1 := txV_len (hh := hh1) (hd := h1) (mv := .slice A1 n1 C1) (hs := hs1) (mm := .slice Am1 m1 Cm1) hqq1
  have hx11 := txV_one (hh := hh1) (hd := h1) (mv := .slice A1 n1 C1) (hs := hs1) (mm := .slice Am1 m1 Cm1) rfl (sqV_one (k := q1) (br := bq1) (og := oq1) (cu := cq1) (td := .slice Aq1 nq1 Cq1) (dn := dq1) (md := mq1) (st := sq1) rfl) rfl
  have HXl1 := Lib.hid hxq1
  have HX11 := Lib.hid hx11
  have HQl1 := Lib.hid hqq1
  have hql2 := sqV_len (k := k2) (br := br2) (td := Value.slice At2 nt2 Ct2) (dn := dn2) (md := md2) (st := st2) ho2.1 hc2.1
  have hxl2 := txV_len (hh := hh2) (hd := hd2) (mv := .slice A2 n2 C2) (hs := hs2) (mm := .slice Am2 m2 Cm2) hql2
  have HAk2 := Lib.hid (fun W => asked_any hh2 hd2 (.slice A2 n2 C2) hs2 k2 br2 og2 cu2 (.slice At2 nt2 Ct2) dn2 md2 st2 (.slice Am2 m2 Cm2) W ho2.1 hc2.1 rfl rfl rfl)
  obtain ⟨q2, bq2, oq2, cq2, Aq2, nq2, Cq2, tq2, dq2, mq2, sq2, e1, e2, ho', hc', hT', hTi', hnt', hbr'⟩ := ak_form G hs2 k2 br2 og2 cu2 At2 nt2 Ct2 ts2 dn2 md2 st2 w ho2 hc2 hT2 hTi2 hnt2 hbr2
  rw [e1] at HAk2
  have HAsk2 := Lib.hid e2
  have HIo2 := Lib.hid ho'
  have HIc2 := Lib.hid hc'
  have HTq2 := Lib.hid hT'
  have hnq2 := hnt'
  have hqq2 := sqV_len (k := q2) (br := bq2) (td := Value.slice Aq2 nq2 Cq2) (dn := dq2) (md := mq2) (st := sq2) ho'.1 hc'.1
  clear e1 e2 ho' hc' hT' hTi' hnt' hbr'
  obtain ⟨h2, hh'⟩ : ∃ h2, h2 = akH hh2 hd2 := ⟨_, rfl⟩
  rw [← hh'] at HAk2
  have HH2 := Lib.hid hh'
  clear hh'
  have hxq2 := txV_len (hh := hh2) (hd := h2) (mv := .slice A2 n2 C2) (hs := hs2) (mm := .slice Am2 m2 Cm2) hqq2
  have hx12 := txV_one (hh := hh2) (hd := h2) (mv := .slice A2 n2 C2) (hs := hs2) (mm := .slice Am2 m2 Cm2) rfl (sqV_one (k := q2) (br := bq2) (og := oq2) (cu := cq2) (td := .slice Aq2 nq2 Cq2) (dn := dq2) (md := mq2) (st := sq2) rfl) rfl
  have HXl2 := Lib.hid hxq2
  have HX12 := Lib.hid hx12
  have HQl2 := Lib.hid hqq2
  have hb1 := (Below.refl w.heap.size w).alloc (Nat.le_refl _) (.cells (txV hh1 hd1 (.slice A1 n1 C1) hs1 (sqV k1 br1 og1 cu1 (.slice At1 nt1 Ct1) dn1 md1 st1) (.slice Am1 m1 Cm1)).toArray 68)
  have hr1 := row_newL w (txV hh1 hd1 (.slice A1 n1 C1) hs1 (sqV k1 br1 og1 cu1 (.slice At1 nt1 Ct1) dn1 md1 st1) (.slice Am1 m1 Cm1)) 68 75 hxl1
  have hX1 : (w.alloc (.cells (txV hh1 hd1 (.slice A1 n1 C1) hs1 (sqV k1 br1 og1 cu1 (.slice At1 nt1 Ct1) dn1 md1 st1) (.slice Am1 m1 Cm1)).toArray 68)).heap.size = w.heap.size + 1 := by show (w.heap.push _).size = _; simp
  have hb2 := hb1.alloc (al_le w _) (.cells (txV hh2 hd2 (.slice A2 n2 C2) hs2 (sqV k2 br2 og2 cu2 (.slice At2 nt2 Ct2) dn2 md2 st2) (.slice Am2 m2 Cm2)).toArray 68)
  have hr1b := World.rowIs.alloc hr1 (.cells (txV hh2 hd2 (.slice A2 n2 C2) hs2 (sqV k2 br2 og2 cu2 (.slice At2 nt2 Ct2) dn2 md2 st2) (.slice Am2 m2 Cm2)).toArray 68)
  have hr2 := row_newL (w.alloc (.cells (txV hh1 hd1 (.slice A1 n1 C1) hs1 (sqV k1 br1 og1 cu1 (.slice At1 nt1 Ct1) dn1 md1 st1) (.slice Am1 m1 Cm1)).toArray 68)) (txV hh2 hd2 (.slice A2 n2 C2) hs2 (sqV k2 br2 og2 cu2 (.slice At2 nt2 Ct2) dn2 md2 st2) (.slice Am2 m2 Cm2)) 68 75 hxl2
  rw [hX1] at hr2
  have HRa := Lib.hid hr1b
  have HRb := Lib.hid hr2
  have HB := Lib.hid hb2
  have HSz1 : Hid ((Try.prog.info? 68).map (·.size) = some (txV hh1 hd1 (.slice A1 n1 C1) hs1 (sqV k1 br1 og1 cu1 (.slice At1 nt1 Ct1) dn1 md1 st1) (.slice Am1 m1 Cm1)).length) := Lib.hid (by rw [hxl1]; exact infoTx)
  have HSz2 : Hid ((Try.prog.info? 68).map (·.size) = some (txV hh2 hd2 (.slice A2 n2 C2) hs2 (sqV k2 br2 og2 cu2 (.slice At2 nt2 Ct2) dn2 md2 st2) (.slice Am2 m2 Cm2)).length) := Lib.hid (by rw [hxl2]; exact infoTx)
  have HXa : Hid (∀ W : World, W.rowIs w.heap.size 68 75 (fun i => (txV hh1 hd1 (.slice A1 n1 C1) hs1 (sqV k1 br1 og1 cu1 (.slice At1 nt1 Ct1) dn1 md1 st1) (.slice Am1 m1 Cm1)).getD i undef) → W.rangeAt w.heap.size 0 (txV hh1 hd1 (.slice A1 n1 C1) hs1 (sqV k1 br1 og1 cu1 (.slice At1 nt1 Ct1) dn1 md1 st1) (.slice Am1 m1 Cm1))) := Lib.hid (fun W h => row_range h hxl1)
  have HXb : Hid (∀ W : World, W.rowIs (w.heap.size + 1) 68 75 (fun i => (txV hh2 hd2 (.slice A2 n2 C2) hs2 (sqV k2 br2 og2 cu2 (.slice At2 nt2 Ct2) dn2 md2 st2) (.slice Am2 m2 Cm2)).getD i undef) → W.rangeAt (w.heap.size + 1) 0 (txV hh2 hd2 (.slice A2 n2 C2) hs2 (sqV k2 br2 og2 cu2 (.slice At2 nt2 Ct2) dn2 md2 st2) (.slice Am2 m2 Cm2))) := Lib.hid (fun W h => row_range h hxl2)
  have hXl := hr1b.lt
  have hXl2 := hr2.lt
  generalize txV hh1 hd1 (.slice A1 n1 C1) hs1 (sqV k1 br1 og1 cu1 (.slice At1 nt1 Ct1) dn1 md1 st1) (.slice Am1 m1 Cm1) = CA at *
  generalize txV hh2 hd2 (.slice A2 n2 C2) hs2 (sqV k2 br2 og2 cu2 (.slice At2 nt2 Ct2) dn2 md2 st2) (.slice Am2 m2 Cm2) = CB at *
  have HQ : Hid (sxEq ⟨hh1, hd1, ms1, hs1, ⟨k1, br1, og1, cu1, ts1, dn1, md1, st1⟩, ys1⟩ ⟨hh2, hd2, ms2, hs2, ⟨k2, br2, og2, cu2, ts2, dn2, md2, st2⟩, ys2⟩ = ((hh1 == hh2) && ((h1.toList == h2.toList) && ((hs1 == hs2) && (eqL mvEq ms1 ms2 && (sqEq ⟨q1, bq1, oq1, cq1, tq1, dq1, mq1, sq1⟩ ⟨q2, bq2, oq2, cq2, tq2, dq2, mq2, sq2⟩ && eqL myEq ys1 ys2)))))) := Lib.hid (by
    unfold sxEq
    rw [HAsk1.out, HAsk2.out, ← HH1.out, ← HH2.out]
    rfl)
  have HTa1 : Hid (∀ W : World, W.rowIs w.heap.size 68 75 (fun i => (txV hh1 h1 (.slice A1 n1 C1) hs1 (sqV q1 bq1 oq1 cq1 (.slice Aq1 nq1 Cq1) dq1 mq1 sq1) (.slice Am1 m1 Cm1)).getD i undef) → TxAt W w.heap.size hh1 h1 (.slice A1 n1 C1) hs1 (sqV q1 bq1 oq1 cq1 (.slice Aq1 nq1 Cq1) dq1 mq1 sq1) (.slice Am1 m1 Cm1)) := Lib.hid (fun W h => tx_at HQl1.out (row_range h HXl1.out))
  have HTa2 : Hid (∀ W : World, W.rowIs (w.heap.size + 1) 68 75 (fun i => (txV hh2 h2 (.slice A2 n2 C2) hs2 (sqV q2 bq2 oq2 cq2 (.slice Aq2 nq2 Cq2) dq2 mq2 sq2) (.slice Am2 m2 Cm2)).getD i undef) → TxAt W (w.heap.size + 1) hh2 h2 (.slice A2 n2 C2) hs2 (sqV q2 bq2 oq2 cq2 (.slice Aq2 nq2 Cq2) dq2 mq2 sq2) (.slice Am2 m2 Cm2)) := Lib.hid (fun W h => tx_at HQl2.out (row_range h HXl2.out))
  have HEm : Hid (∀ W : World, Below w.heap.size w W → Calls Try.prog 77 #[.slice A1 n1 C1, .slice A2 n2 C2] W fun e w' => e = .returned (.bool (eqL mvEq ms1 ms2)) ∧ Below W.heap.size W w') := Lib.hid (fun W hb => eqM_any G A1 n1 C1 ms1 A2 n2 C2 ms2 W (hM1.below hb hG) (hM2.below hb hG) (Nat.le_trans hG hb.size) hn1 hn2)
  have HEs : Hid (∀ W : World, Below w.heap.size w W → Calls Try.prog 78 #[.agg (sqV q1 bq1 oq1 cq1 (.slice Aq1 nq1 Cq1) dq1 mq1 sq1).toArray, .agg (sqV q2 bq2 oq2 cq2 (.slice Aq2 nq2 Cq2) dq2 mq2 sq2).toArray] W fun e w' => e = .returned (.bool (sqEq ⟨q1, bq1, oq1, cq1, tq1, dq1, mq1, sq1⟩ ⟨q2, bq2, oq2, cq2, tq2, dq2, mq2, sq2⟩)) ∧ Below W.heap.size W w') := Lib.hid (fun W hb => sameSeq_any G q1 bq1 oq1 cq1 Aq1 nq1 Cq1 tq1 dq1 mq1 sq1 q2 bq2 oq2 cq2 Aq2 nq2 Cq2 tq2 dq2 mq2 sq2 W HIo1.out.1 HIc1.out.1 (HTq1.out.below hb hG) hnq1 HIo2.out.1 HIc2.out.1 (HTq2.out.below hb hG) hnq2 (Nat.le_trans hG hb.size))
  have HEy : Hid (∀ W : World, Below w.heap.size w W → Calls Try.prog 79 #[.slice Am1 m1 Cm1, .slice Am2 m2 Cm2, .func (.func 80) #[] #[]] W fun e w' => e = .returned (.bool (eqL myEq ys1 ys2)) ∧ Below W.heap.size W w') := Lib.hid (fun W hb => eqY_any G Am1 m1 Cm1 ys1 Am2 m2 Cm2 ys2 W (hY1.below hb (Nat.le_refl _) hG) (hY2.below hb (Nat.le_refl _) hG) (Nat.le_trans hG hb.size) hm1 hm2)
  have HPost : Hid (∀ (b : Bool) (w' : World), b = sxEq ⟨hh1, hd1, ms1, hs1, ⟨k1, br1, og1, cu1, ts1, dn1, md1, st1⟩, ys1⟩ ⟨hh2, hd2, ms2, hs2, ⟨k2, br2, og2, cu2, ts2, dn2, md2, st2⟩, ys2⟩ → Below w.heap.size w w' → ((fun e w' => e = Ending.returned (.bool (sxEq ⟨hh1, hd1, ms1, hs1, ⟨k1, br1, og1, cu1, ts1, dn1, md1, st1⟩, ys1⟩ ⟨hh2, hd2, ms2, hs2, ⟨k2, br2, og2, cu2, ts2, dn2, md2, st2⟩, ys2⟩)) ∧ Below w.heap.size w w') (Ending.returned (.bool b)) w')) := Lib.hid (fun b w' e hb => by subst e; exact ⟨rfl, hb⟩)
  generalize hPD : (fun e w' => e = Ending.returned (.bool (sxEq ⟨hh1, hd1, ms1, hs1, ⟨k1, br1, og1, cu1, ts1, dn1, md1, st1⟩, ys1⟩ ⟨hh2, hd2, ms2, hs2, ⟨k2, br2, og2, cu2, ts2, dn2, md2, st2⟩, ys2⟩)) ∧ Below w.heap.size w w') = PO at *
  generalize sxEq ⟨hh1, hd1, ms1, hs1, ⟨k1, br1, og1, cu1, ts1, dn1, md1, st1⟩, ys1⟩ ⟨hh2, hd2, ms2, hs2, ⟨k2, br2, og2, cu2, ts2, dn2, md2, st2⟩, ys2⟩ = SX at *
  generalize eqL mvEq ms1 ms2 = b4 at *
  generalize sqEq ⟨q1, bq1, oq1, cq1, tq1, dq1, mq1, sq1⟩ ⟨q2, bq2, oq2, cq2, tq2, dq2, mq2, sq2⟩ = b5 at *
  generalize eqL myEq ys1 ys2 = b6 at *
  have HSq1 : Hid ((Try.prog.info? 65).map (·.size) = some (sqV q1 bq1 oq1 cq1 (.slice Aq1 nq1 Cq1) dq1 mq1 sq1).length) := Lib.hid (by rw [HQl1.out]; exact infoSq)
  have HSq2 : Hid ((Try.prog.info? 65).map (·.size) = some (sqV q2 bq2 oq2 cq2 (.slice Aq2 nq2 Cq2) dq2 mq2 sq2).length) := Lib.hid (by rw [HQl2.out]; exact infoSq)
  clear hPD hM1 hM2 hT1 hT2 hTi1 hTi2 hY1 hY2 HTq1 HTq2 HIo1 HIo2 HIc1 HIc2 HAsk1 HAsk2 HH1 HH2 ho1 ho2 hc1 hc2 hql1 hql2 hxl1 hxl2 hqq1 hqq2 hxq1 hxq2 hx11 hx12 hb1 hb2 hr1 hr1b hr2 hX1
  generalize sqV q1 bq1 oq1 cq1 (.slice Aq1 nq1 Cq1) dq1 mq1 sq1 = S1 at *
  generalize sqV q2 bq2 oq2 cq2 (.slice Aq2 nq2 Cq2) dq2 mq2 sq2 = S2 at *
  obtain ⟨DA, hDA⟩ : ∃ D, D = txV hh1 h1 (.slice A1 n1 C1) hs1 S1 (.slice Am1 m1 Cm1) := ⟨_, rfl⟩
  obtain ⟨DB, hDB⟩ : ∃ D, D = txV hh2 h2 (.slice A2 n2 C2) hs2 S2 (.slice Am2 m2 Cm2) := ⟨_, rfl⟩
  rw [← hDA] at HAk1 HTa1 HXl1 HX11
  rw [← hDB] at HAk2 HTa2 HXl2 HX12
  clear hDA hDB
  go_enter Try.func34, Try.ntmps34
  go_upto_region 1 with (fail)
  generalize (w.alloc (.cells CA.toArray 68)).alloc (.cells CB.toArray 68) = wA at *
  have dB : Hid (Below w.heap.size w wA.drew) := Lib.hid HB.out.drew
  have dR1 := Lib.hid (World.rowIs.drew HRa.out)
  have dR2 := Lib.hid (World.rowIs.drew HRb.out)
  have hXl' : w.heap.size < wA.drew.heap.size := hXl
  have hXl2' : w.heap.size + 1 < wA.drew.heap.size := hXl2
  clear HRa HRb HB
  go_cut [] (fun wx => Hid (wx.rowIs w.heap.size 68 75 (fun i => DA.getD i undef)) ∧ Hid (wx.rowIs (w.heap.size + 1) 68 75 (fun i => DB.getD i undef)) ∧ Hid (Below w.heap.size w wx))
  case first =>
    refine wp_region_noPanic ?_
    refine wp_region_held_drew (S := (fun _ => True)) (by kernel_rfl) ?_ (fun hHeld => ?_)
    · ((try dsimp only); all_goals trivial)
    refine wpAnyH_ready (rs := [0, 2]) (by kernel_rfl) (by simp) ?_
    refine AllReadyH.cons (o := { dst := some 5, op := Op.load 68 (Operand.tmp 2), type := 68, pos := "tx.go:175", after := #[], guard := none }) rfl (fun K hK => ?_) ?_
    · refine step_load_mid rfl _ _ rfl w.heap.size 0 rfl CA _ (HXa.out _ dR1.out) Try.underlying68 rfl HSz1.out ?_
      (try go_wp2_with fail)
      refine hK.out _ _ ?_ (fun hNew => ?_)
      · ((try dsimp only); all_goals trivial)
      clear hK K hHeld
      have hHeld := hNew
      clear hNew
      (try simp only [Act.put, List.setIfInBounds_toArray, List.set_cons_zero, List.set_cons_succ])
      refine wpAnyH_ready (rs := [1, 2]) (by kernel_rfl) (by simp) ?_
      refine AllReadyH.cons (o := { dst := some 6, op := Op.call { callee := Callee.value (Operand.func 67), args := #[Operand.tmp 5], argTypes := #[68] }, type := 68, pos := "tx.go:175", after := #[{ on := 0, ground := Ground.data }], guard := none }) rfl (fun K hK => ?_) ?_
      · go_simp
        refine (HAk1.out _).mono ?_
        rintro e w1 ⟨rfl, hb⟩
        have eR1 := Lib.hid (World.rowIs.of_block dR1.out (hb.block _ dR1.out.lt))
        have eR2 := Lib.hid (World.rowIs.of_block dR2.out (hb.block _ dR2.out.lt))
        have eB := Lib.hid (dB.out.trans (hb.mono dB.out.size))
        clear dR1 dR2 dB hb
        have dR1 := eR1
        have dR2 := eR2
        have dB := eB
        clear eR1 eR2 eB
        (try go_wp2_with fail)
        refine hK.out _ _ ?_ (fun hNew => ?_)
        · ((try dsimp only); all_goals trivial)
        clear hK K hHeld
        have hHeld := hNew
        clear hNew
        (try simp only [Act.put, List.setIfInBounds_toArray, List.set_cons_zero, List.set_cons_succ])
        refine wpAnyH_ready (rs := [2]) (by kernel_rfl) (by simp) ?_
        refine AllReadyH.cons (o := { dst := some 7, op := Op.load 68 (Operand.tmp 3), type := 68, pos := "tx.go:175", after := #[], guard := none }) rfl (fun K hK => ?_) ?_
        · refine step_load_mid rfl _ _ rfl (w.heap.size + 1) 0 rfl CB _ (HXb.out _ dR2.out) Try.underlying68 rfl HSz2.out ?_
          (try go_wp2_with fail)
          refine hK.out _ _ ?_ (fun hNew => ?_)
          · ((try dsimp only); all_goals trivial)
          clear hK K hHeld
          have hHeld := hNew
          clear hNew
          (try simp only [Act.put, List.setIfInBounds_toArray, List.set_cons_zero, List.set_cons_succ])
          refine wpAnyH_ready (rs := [3]) (by kernel_rfl) (by simp) ?_
          refine AllReadyH.cons (o := { dst := some 8, op := Op.call { callee := Callee.value (Operand.func 67), args := #[Operand.tmp 7], argTypes := #[68] }, type := 68, pos := "tx.go:175", after := #[{ on := 2, ground := Ground.data }, { on := 1, ground := Ground.chain }], guard := none }) rfl (fun K hK => ?_) ?_
          · go_simp
            refine (HAk2.out _).mono ?_
            rintro e w2 ⟨rfl, hb⟩
            have eR1 := Lib.hid (World.rowIs.of_block dR1.out (hb.block _ dR1.out.lt))
            have eR2 := Lib.hid (World.rowIs.of_block dR2.out (hb.block _ dR2.out.lt))
            have eB := Lib.hid (dB.out.trans (hb.mono dB.out.size))
            clear dR1 dR2 dB hb
            have dR1 := eR1
            have dR2 := eR2
            have dB := eB
            have HFa := Lib.hid (Fin.mkN infoTx HXl1.out HX11.out dR1.out dB.out (Nat.le_refl _))
            clear eR1 eR2 eB
            (try go_wp2_with fail)
            refine hK.out _ _ ?_ (fun hNew => ?_)
            · ((try dsimp only); all_goals trivial)
            clear hK K hHeld
            have hHeld := hNew
            clear hNew
            (try simp only [Act.put, List.setIfInBounds_toArray, List.set_cons_zero, List.set_cons_succ])
            refine wpAnyH_ready (rs := [4]) (by kernel_rfl) (by simp) ?_
            refine AllReadyH.cons (o := { dst := none, op := Op.store 68 (Operand.tmp 2) (Operand.tmp 6), type := 0, pos := "tx.go:175", after := #[{ on := 1, ground := Ground.data }, { on := 3, ground := Ground.chain }, { on := 0, ground := Ground.phase }, { on := 1, ground := Ground.phase }, { on := 2, ground := Ground.textOnly Departure.lateStores }, { on := 3, ground := Ground.textOnly Departure.lateStoresUnsure }], guard := none }) rfl (fun K hK => ?_) ?_
            · refine step_store_mid rfl _ _ _ rfl w.heap.size 0 DA.toArray rfl rfl HFa.out.there HFa.out.size HFa.out.one ?_
              have eR1 := Lib.hid (row_of_stored (n := 75) HFa.out.stored HXl1.out)
              have eR2 := Lib.hid (row_apart (b := w.heap.size + 1) (E := w.heap.size) (by omega) DA 0 _ dR2.out)
              have eB := Lib.hid HFa.out.bel
              clear dR1 dR2 dB HFa
              have dR1 := eR1
              have dR2 := eR2
              have dB := eB
              have HFb := Lib.hid (Fin.mkN infoTx HXl2.out HX12.out dR2.out dB.out (show w.heap.size ≤ w.heap.size + 1 by omega))
              clear eR1 eR2 eB
              (try go_wp2_with fail)
              refine hK.out _ _ ?_ (fun hNew => ?_)
              · ((try dsimp only); all_goals trivial)
              clear hK K hHeld
              have hHeld := hNew
              clear hNew
              (try simp only [Act.put, List.setIfInBounds_toArray, List.set_cons_zero, List.set_cons_succ])
              refine wpAnyH_ready (rs := [5]) (by kernel_rfl) (by simp) ?_
              refine AllReadyH.cons (o := { dst := none, op := Op.store 68 (Operand.tmp 3) (Operand.tmp 8), type := 0, pos := "tx.go:175", after := #[{ on := 3, ground := Ground.data }, { on := 4, ground := Ground.chain }, { on := 0, ground := Ground.phase }, { on := 1, ground := Ground.phase }, { on := 2, ground := Ground.phase }, { on := 3, ground := Ground.phase }, { on := 4, ground := Ground.phase }], guard := none }) rfl (fun K hK => ?_) ?_
              · refine step_store_mid rfl _ _ _ rfl (w.heap.size + 1) 0 DB.toArray rfl rfl HFb.out.there HFb.out.size HFb.out.one ?_
                have eR2 := Lib.hid (row_of_stored (n := 75) HFb.out.stored HXl2.out)
                have eR1 := Lib.hid (row_apart (b := w.heap.size) (E := w.heap.size + 1) (by omega) DB 0 _ dR1.out)
                have eB := Lib.hid HFb.out.bel
                clear dR1 dR2 dB HFb
                have dR1 := eR1
                have dR2 := eR2
                have dB := eB
                clear eR1 eR2 eB
                (try go_wp2_with fail)
                refine hK.out _ _ ?_ (fun hNew => ?_)
                · ((try dsimp only); all_goals trivial)
                clear hK K hHeld
                have hHeld := hNew
                clear hNew
                (try simp only [Act.put, List.setIfInBounds_toArray, List.set_cons_zero, List.set_cons_succ])
                refine wpAnyH_done (by kernel_rfl) ?_ _
                refine NoPanic.normal ?_
                clear hHeld
                go_wp2_with fail
                go_meet
                exact ⟨dR1, dR2, dB⟩
              exact AllReadyH.nil
            exact AllReadyH.nil
          exact AllReadyH.nil
        exact AllReadyH.nil
      refine AllReadyH.cons (o := { dst := some 7, op := Op.load 68 (Operand.tmp 3), type := 68, pos := "tx.go:175", after := #[], guard := none }) rfl (fun K hK => ?_) ?_
      · refine step_load_mid rfl _ _ rfl (w.heap.size + 1) 0 rfl CB _ (HXb.out _ dR2.out) Try.underlying68 rfl HSz2.out ?_
        (try go_wp2_with fail)
        refine hK.out _ _ ?_ (fun hNew => ?_)
        · ((try dsimp only); all_goals trivial)
        clear hK K hHeld
        have hHeld := hNew
        clear hNew
        (try simp only [Act.put, List.setIfInBounds_toArray, List.set_cons_zero, List.set_cons_succ])
        refine wpAnyH_ready (rs := [1]) (by kernel_rfl) (by simp) ?_
        refine AllReadyH.cons (o := { dst := some 6, op := Op.call { callee := Callee.value (Operand.func 67), args := #[Operand.tmp 5], argTypes := #[68] }, type := 68, pos := "tx.go:175", after := #[{ on := 0, ground := Ground.data }], guard := none }) rfl (fun K hK => ?_) ?_
        · go_simp
          refine (HAk1.out _).mono ?_
          rintro e w1 ⟨rfl, hb⟩
          have eR1 := Lib.hid (World.rowIs.of_block dR1.out (hb.block _ dR1.out.lt))
          have eR2 := Lib.hid (World.rowIs.of_block dR2.out (hb.block _ dR2.out.lt))
          have eB := Lib.hid (dB.out.trans (hb.mono dB.out.size))
          clear dR1 dR2 dB hb
          have dR1 := eR1
          have dR2 := eR2
          have dB := eB
          clear eR1 eR2 eB
          (try go_wp2_with fail)
          refine hK.out _ _ ?_ (fun hNew => ?_)
          · ((try dsimp only); all_goals trivial)
          clear hK K hHeld
          have hHeld := hNew
          clear hNew
          (try simp only [Act.put, List.setIfInBounds_toArray, List.set_cons_zero, List.set_cons_succ])
          refine wpAnyH_ready (rs := [3]) (by kernel_rfl) (by simp) ?_
          refine AllReadyH.cons (o := { dst := some 8, op := Op.call { callee := Callee.value (Operand.func 67), args := #[Operand.tmp 7], argTypes := #[68] }, type := 68, pos := "tx.go:175", after := #[{ on := 2, ground := Ground.data }, { on := 1, ground := Ground.chain }], guard := none }) rfl (fun K hK => ?_) ?_
          · go_simp
            refine (HAk2.out _).mono ?_
            rintro e w2 ⟨rfl, hb⟩
            have eR1 := Lib.hid (World.rowIs.of_block dR1.out (hb.block _ dR1.out.lt))
            have eR2 := Lib.hid (World.rowIs.of_block dR2.out (hb.block _ dR2.out.lt))
            have eB := Lib.hid (dB.out.trans (hb.mono dB.out.size))
            clear dR1 dR2 dB hb
            have dR1 := eR1
            have dR2 := eR2
            have dB := eB
            have HFa := Lib.hid (Fin.mkN infoTx HXl1.out HX11.out dR1.out dB.out (Nat.le_refl _))
            clear eR1 eR2 eB
            (try go_wp2_with fail)
            refine hK.out _ _ ?_ (fun hNew => ?_)
            · ((try dsimp only); all_goals trivial)
            clear hK K hHeld
            have hHeld := hNew
            clear hNew
            (try simp only [Act.put, List.setIfInBounds_toArray, List.set_cons_zero, List.set_cons_succ])
            refine wpAnyH_ready (rs := [4]) (by kernel_rfl) (by simp) ?_
            refine AllReadyH.cons (o := { dst := none, op := Op.store 68 (Operand.tmp 2) (Operand.tmp 6), type := 0, pos := "tx.go:175", after := #[{ on := 1, ground := Ground.data }, { on := 3, ground := Ground.chain }, { on := 0, ground := Ground.phase }, { on := 1, ground := Ground.phase }, { on := 2, ground := Ground.textOnly Departure.lateStores }, { on := 3, ground := Ground.textOnly Departure.lateStoresUnsure }], guard := none }) rfl (fun K hK => ?_) ?_
            · refine step_store_mid rfl _ _ _ rfl w.heap.size 0 DA.toArray rfl rfl HFa.out.there HFa.out.size HFa.out.one ?_
              have eR1 := Lib.hid (row_of_stored (n := 75) HFa.out.stored HXl1.out)
              have eR2 := Lib.hid (row_apart (b := w.heap.size + 1) (E := w.heap.size) (by omega) DA 0 _ dR2.out)
              have eB := Lib.hid HFa.out.bel
              clear dR1 dR2 dB HFa
              have dR1 := eR1
              have dR2 := eR2
              have dB := eB
              have HFb := Lib.hid (Fin.mkN infoTx HXl2.out HX12.out dR2.out dB.out (show w.heap.size ≤ w.heap.size + 1 by omega))
              clear eR1 eR2 eB
              (try go_wp2_with fail)
              refine hK.out _ _ ?_ (fun hNew => ?_)
              · ((try dsimp only); all_goals trivial)
              clear hK K hHeld
              have hHeld := hNew
              clear hNew
              (try simp only [Act.put, List.setIfInBounds_toArray, List.set_cons_zero, List.set_cons_succ])
              refine wpAnyH_ready (rs := [5]) (by kernel_rfl) (by simp) ?_
              refine AllReadyH.cons (o := { dst := none, op := Op.store 68 (Operand.tmp 3) (Operand.tmp 8), type := 0, pos := "tx.go:175", after := #[{ on := 3, ground := Ground.data }, { on := 4, ground := Ground.chain }, { on := 0, ground := Ground.phase }, { on := 1, ground := Ground.phase }, { on := 2, ground := Ground.phase }, { on := 3, ground := Ground.phase }, { on := 4, ground := Ground.phase }], guard := none }) rfl (fun K hK => ?_) ?_
              · refine step_store_mid rfl _ _ _ rfl (w.heap.size + 1) 0 DB.toArray rfl rfl HFb.out.there HFb.out.size HFb.out.one ?_
                have eR2 := Lib.hid (row_of_stored (n := 75) HFb.out.stored HXl2.out)
                have eR1 := Lib.hid (row_apart (b := w.heap.size) (E := w.heap.size + 1) (by omega) DB 0 _ dR1.out)
                have eB := Lib.hid HFb.out.bel
                clear dR1 dR2 dB HFb
                have dR1 := eR1
                have dR2 := eR2
                have dB := eB
                clear eR1 eR2 eB
                (try go_wp2_with fail)
                refine hK.out _ _ ?_ (fun hNew => ?_)
                · ((try dsimp only); all_goals trivial)
                clear hK K hHeld
                have hHeld := hNew
                clear hNew
                (try simp only [Act.put, List.setIfInBounds_toArray, List.set_cons_zero, List.set_cons_succ])
                refine wpAnyH_done (by kernel_rfl) ?_ _
                refine NoPanic.normal ?_
                clear hHeld
                go_wp2_with fail
                go_meet
                exact ⟨dR1, dR2, dB⟩
              exact AllReadyH.nil
            exact AllReadyH.nil
          exact AllReadyH.nil
        exact AllReadyH.nil
      exact AllReadyH.nil
    refine AllReadyH.cons (o := { dst := some 7, op := Op.load 68 (Operand.tmp 3), type := 68, pos := "tx.go:175", after := #[], guard := none }) rfl (fun K hK => ?_) ?_
    · refine step_load_mid rfl _ _ rfl (w.heap.size + 1) 0 rfl CB _ (HXb.out _ dR2.out) Try.underlying68 rfl HSz2.out ?_
      (try go_wp2_with fail)
      refine hK.out _ _ ?_ (fun hNew => ?_)
      · ((try dsimp only); all_goals trivial)
      clear hK K hHeld
      have hHeld := hNew
      clear hNew
      (try simp only [Act.put, List.setIfInBounds_toArray, List.set_cons_zero, List.set_cons_succ])
      refine wpAnyH_ready (rs := [0]) (by kernel_rfl) (by simp) ?_
      refine AllReadyH.cons (o := { dst := some 5, op := Op.load 68 (Operand.tmp 2), type := 68, pos := "tx.go:175", after := #[], guard := none }) rfl (fun K hK => ?_) ?_
      · refine step_load_mid rfl _ _ rfl w.heap.size 0 rfl CA _ (HXa.out _ dR1.out) Try.underlying68 rfl HSz1.out ?_
        (try go_wp2_with fail)
        refine hK.out _ _ ?_ (fun hNew => ?_)
        · ((try dsimp only); all_goals trivial)
        clear hK K hHeld
        have hHeld := hNew
        clear hNew
        (try simp only [Act.put, List.setIfInBounds_toArray, List.set_cons_zero, List.set_cons_succ])
        refine wpAnyH_ready (rs := [1]) (by kernel_rfl) (by simp) ?_
        refine AllReadyH.cons (o := { dst := some 6, op := Op.call { callee := Callee.value (Operand.func 67), args := #[Operand.tmp 5], argTypes := #[68] }, type := 68, pos := "tx.go:175", after := #[{ on := 0, ground := Ground.data }], guard := none }) rfl (fun K hK => ?_) ?_
        · go_simp
          refine (HAk1.out _).mono ?_
          rintro e w1 ⟨rfl, hb⟩
          have eR1 := Lib.hid (World.rowIs.of_block dR1.out (hb.block _ dR1.out.lt))
          have eR2 := Lib.hid (World.rowIs.of_block dR2.out (hb.block _ dR2.out.lt))
          have eB := Lib.hid (dB.out.trans (hb.mono dB.out.size))
          clear dR1 dR2 dB hb
          have dR1 := eR1
          have dR2 := eR2
          have dB := eB
          clear eR1 eR2 eB
          (try go_wp2_with fail)
          refine hK.out _ _ ?_ (fun hNew => ?_)
          · ((try dsimp only); all_goals trivial)
          clear hK K hHeld
          have hHeld := hNew
          clear hNew
          (try simp only [Act.put, List.setIfInBounds_toArray, List.set_cons_zero, List.set_cons_succ])
          refine wpAnyH_ready (rs := [3]) (by kernel_rfl) (by simp) ?_
          refine AllReadyH.cons (o := { dst := some 8, op := Op.call { callee := Callee.value (Operand.func 67), args := #[Operand.tmp 7], argTypes := #[68] }, type := 68, pos := "tx.go:175", after := #[{ on := 2, ground := Ground.data }, { on := 1, ground := Ground.chain }], guard := none }) rfl (fun K hK => ?_) ?_
          · go_simp
            refine (HAk2.out _).mono ?_
            rintro e w2 ⟨rfl, hb⟩
            have eR1 := Lib.hid (World.rowIs.of_block dR1.out (hb.block _ dR1.out.lt))
            have eR2 := Lib.hid (World.rowIs.of_block dR2.out (hb.block _ dR2.out.lt))
            have eB := Lib.hid (dB.out.trans (hb.mono dB.out.size))
            clear dR1 dR2 dB hb
            have dR1 := eR1
            have dR2 := eR2
            have dB := eB
            have HFa := Lib.hid (Fin.mkN infoTx HXl1.out HX11.out dR1.out dB.out (Nat.le_refl _))
            clear eR1 eR2 eB
            (try go_wp2_with fail)
            refine hK.out _ _ ?_ (fun hNew => ?_)
            · ((try dsimp only); all_goals trivial)
            clear hK K hHeld
            have hHeld := hNew
            clear hNew
            (try simp only [Act.put, List.setIfInBounds_toArray, List.set_cons_zero, List.set_cons_succ])
            refine wpAnyH_ready (rs := [4]) (by kernel_rfl) (by simp) ?_
            refine AllReadyH.cons (o := { dst := none, op := Op.store 68 (Operand.tmp 2) (Operand.tmp 6), type := 0, pos := "tx.go:175", after := #[{ on := 1, ground := Ground.data }, { on := 3, ground := Ground.chain }, { on := 0, ground := Ground.phase }, { on := 1, ground := Ground.phase }, { on := 2, ground := Ground.textOnly Departure.lateStores }, { on := 3, ground := Ground.textOnly Departure.lateStoresUnsure }], guard := none }) rfl (fun K hK => ?_) ?_
            · refine step_store_mid rfl _ _ _ rfl w.heap.size 0 DA.toArray rfl rfl HFa.out.there HFa.out.size HFa.out.one ?_
              have eR1 := Lib.hid (row_of_stored (n := 75) HFa.out.stored HXl1.out)
              have eR2 := Lib.hid (row_apart (b := w.heap.size + 1) (E := w.heap.size) (by omega) DA 0 _ dR2.out)
              have eB := Lib.hid HFa.out.bel
              clear dR1 dR2 dB HFa
              have dR1 := eR1
              have dR2 := eR2
              have dB := eB
              have HFb := Lib.hid (Fin.mkN infoTx HXl2.out HX12.out dR2.out dB.out (show w.heap.size ≤ w.heap.size + 1 by omega))
              clear eR1 eR2 eB
              (try go_wp2_with fail)
              refine hK.out _ _ ?_ (fun hNew => ?_)
              · ((try dsimp only); all_goals trivial)
              clear hK K hHeld
              have hHeld := hNew
              clear hNew
              (try simp only [Act.put, List.setIfInBounds_toArray, List.set_cons_zero, List.set_cons_succ])
              refine wpAnyH_ready (rs := [5]) (by kernel_rfl) (by simp) ?_
              refine AllReadyH.cons (o := { dst := none, op := Op.store 68 (Operand.tmp 3) (Operand.tmp 8), type := 0, pos := "tx.go:175", after := #[{ on := 3, ground := Ground.data }, { on := 4, ground := Ground.chain }, { on := 0, ground := Ground.phase }, { on := 1, ground := Ground.phase }, { on := 2, ground := Ground.phase }, { on := 3, ground := Ground.phase }, { on := 4, ground := Ground.phase }], guard := none }) rfl (fun K hK => ?_) ?_
              · refine step_store_mid rfl _ _ _ rfl (w.heap.size + 1) 0 DB.toArray rfl rfl HFb.out.there HFb.out.size HFb.out.one ?_
                have eR2 := Lib.hid (row_of_stored (n := 75) HFb.out.stored HXl2.out)
                have eR1 := Lib.hid (row_apart (b := w.heap.size) (E := w.heap.size + 1) (by omega) DB 0 _ dR1.out)
                have eB := Lib.hid HFb.out.bel
                clear dR1 dR2 dB HFb
                have dR1 := eR1
                have dR2 := eR2
                have dB := eB
                clear eR1 eR2 eB
                (try go_wp2_with fail)
                refine hK.out _ _ ?_ (fun hNew => ?_)
                · ((try dsimp only); all_goals trivial)
                clear hK K hHeld
                have hHeld := hNew
                clear hNew
                (try simp only [Act.put, List.setIfInBounds_toArray, List.set_cons_zero, List.set_cons_succ])
                refine wpAnyH_done (by kernel_rfl) ?_ _
                refine NoPanic.normal ?_
                clear hHeld
                go_wp2_with fail
                go_meet
                exact ⟨dR1, dR2, dB⟩
              exact AllReadyH.nil
            exact AllReadyH.nil
          exact AllReadyH.nil
        exact AllReadyH.nil
      exact AllReadyH.nil
    exact AllReadyH.nil
  case rest =>
    obtain ⟨dR1, dR2, dB⟩ := hcut
    generalize wc = wS at *
    have hT1 := HTa1.out _ dR1.out
    have hT2 := HTa2.out _ dR2.out
    have hh1c := hT1.c0
    have hh2c := hT2.c0
    have hd1c := hT1.c1
    have hd2c := hT2.c1
    have hs1c := hT1.c3
    have hs2c := hT2.c3
    have hm1c := hT1.c2
    have hm2c := hT2.c2
    have HBw := dB
    have hws : w.heap.size ≤ wS.heap.size := HBw.out.size
    have hX1s := dR1.out.lt
    have hX2s := dR2.out.lt
    have HQ1 := Lib.hid hT1.sq
    have HQ2 := Lib.hid hT2.sq
    have HY1 := Lib.hid hT1.mm
    have HY2 := Lib.hid hT2.mm
    clear hT1 hT2 dR1 dR2 dB
    obtain ⟨b1, e1⟩ : ∃ b, (hh1 == hh2) = b := ⟨_, rfl⟩
    obtain ⟨b2, e2⟩ : ∃ b, (h1.toList == h2.toList) = b := ⟨_, rfl⟩
    obtain ⟨b3, e3⟩ : ∃ b, (hs1 == hs2) = b := ⟨_, rfl⟩
    rw [e1, e2, e3] at HQ
    cases b1
    · go_wp2_with fail
      exact HPost.out false _ (by rw [HQ.out]; rfl) HBw.out
    cases b2
    · go_wp2_with fail
      exact HPost.out false _ (by rw [HQ.out]; rfl) HBw.out
    cases b3
    · go_wp2_with fail
      exact HPost.out false _ (by rw [HQ.out]; rfl) HBw.out
    go_wp2_with fail
    refine (HEm.out wS HBw.out).mono ?_
    rintro e w4 ⟨rfl, hb⟩
    have HB4 := Lib.hid (HBw.out.trans (hb.mono hws))
    have hws4 : w.heap.size ≤ w4.heap.size := HB4.out.size
    have HR1 := Lib.hid (range_below hb HQ1.out hX1s)
    have HR2 := Lib.hid (range_below hb HQ2.out hX2s)
    have HZ1 := Lib.hid ((hb.cell (p := ⟨w.heap.size, 74, none⟩) hX1s).trans HY1.out)
    have HZ2 := Lib.hid ((hb.cell (p := ⟨w.heap.size + 1, 74, none⟩) hX2s).trans HY2.out)
    have hX1t : w.heap.size < w4.heap.size := Nat.lt_of_lt_of_le hX1s hb.size
    have hX2t : w.heap.size + 1 < w4.heap.size := Nat.lt_of_lt_of_le hX2s hb.size
    clear hb
    cases b4
    · go_wp2_with fail
      exact HPost.out false _ (by rw [HQ.out]; rfl) HB4.out
    go_wp2_with (first
      | (refine wpList_load_gd (by rfl) _ _ rfl w.heap.size 4 rfl S1 _ HR1.out Try.underlying65 rfl HSq1.out ?_)
      | (refine wpList_load_gd (by rfl) _ _ rfl (w.heap.size + 1) 4 rfl S2 _ HR2.out Try.underlying65 rfl HSq2.out ?_))
    refine (HEs.out w4 HB4.out).mono ?_
    rintro e w5 ⟨rfl, hb⟩
    have HB5 := Lib.hid (HB4.out.trans (hb.mono hws4))
    have hz1 : w5.cell? ⟨w.heap.size, 74, none⟩ = some (.slice Am1 m1 Cm1) := (hb.cell (p := ⟨w.heap.size, 74, none⟩) hX1t).trans HZ1.out
    have hz2 : w5.cell? ⟨w.heap.size + 1, 74, none⟩ = some (.slice Am2 m2 Cm2) := (hb.cell (p := ⟨w.heap.size + 1, 74, none⟩) hX2t).trans HZ2.out
    have hws5 : w.heap.size ≤ w5.heap.size := HB5.out.size
    clear hb
    cases b5
    · go_wp2_with fail
      exact HPost.out false _ (by rw [HQ.out]; rfl) HB5.out
    go_wp2_with fail
    refine (HEy.out w5 HB5.out).mono ?_
    rintro e w6 ⟨rfl, hb⟩
    have HB6 := Lib.hid (HB5.out.trans (hb.mono hws5))
    clear hb
    cases b6
    · go_wp2_with fail
      exact HPost.out false _ (by rw [HQ.out]; rfl) HB6.out
    go_wp2_with fail
    exact HPost.out true _ (by rw [HQ.out]; rfl) HB6.out
end Go.Proofs.Ytmcmapgllaopmaa.Cd
end

section
namespace Go.Proofs.Ytmcmapgllaopmaa.Cd
open Go.RowKit
set_option linter.unusedVariables false
theorem ask_k (s : SqD) (h : s.k ≠ 0) : s.ask true = s := by unfold SqD.ask; rw [if_pos ⟨rfl, h⟩]
theorem ask_0 (s : SqD) (h : s.k = 0) : s.ask true = SqD.zero := by unfold SqD.ask; rw [if_neg (fun x => x.2 h)]
theorem rsq_ne {a b : SqD} (h : a.k ≠ b.k) : sqEq (a.ask true) (b.ask true) = false := by
  have hk : (a.ask true).k ≠ (b.ask true).k := by
    by_cases h1 : a.k = 0
    · rw [ask_0 a h1]
      rw [ask_k b (fun e => h (by rw [h1, e]))]
      exact fun e => h (by rw [h1]; exact e)
    · rw [ask_k a h1]
      by_cases h2 : b.k = 0
      · rw [ask_0 b h2]; exact h1
      · rw [ask_k b h2]; exact h
  unfold sqEq
  rw [beq_eq_false_iff_ne.2 hk]
  rfl
theorem rsq_zero {a b : SqD} (h1 : a.k = 0) (h2 : b.k = 0) : sqEq (a.ask true) (b.ask true) = true := by
  rw [ask_0 a h1, ask_0 b h2]
  unfold sqEq sEq
  simp [SqD.zero, eqL]
theorem rsq_same {a b : SqD} (h : a.k = b.k) (h1 : a.k ≠ 0) : sqEq (a.ask true) (b.ask true) = sqEq a b := by
  rw [ask_k a h1, ask_k b (by rw [← h]; exact h1)]
set_option maxRecDepth 100000 in
set_option maxHeartbeats 4000000 in
theorem rsameSeq_any (G : Nat) (k : Int) (br : ByteArray) (og cu : List Int) (A : Option Addr) (n C : Nat) (ts : List Td) (dn md : Int) (st : Bool) (k' : Int) (br' : ByteArray) (og' cu' : List Int) (A' : Option Addr) (n' C' : Nat) (ts' : List Td) (dn' md' : Int) (st' : Bool) (w : World)
    (ho : og.length = 32) (hc : cu.length = 32) (hT : RdT G w A n C ts) (hn : n ≤ 1000000000) (ho' : og'.length = 32) (hc' : cu'.length = 32) (hT' : RdT G w A' n' C' ts') (hn' : n' ≤ 1000000000) (hG : G ≤ w.heap.size) :
    Calls Try.prog 76 #[.agg (sqV k br og cu (.slice A n C) dn md st).toArray, .agg (sqV k' br' og' cu' (.slice A' n' C') dn' md' st').toArray] w fun e w' => e = .returned (.bool (sqEq ((⟨k, br, og, cu, ts, dn, md, st⟩ : SqD).ask true) ((⟨k', br', og', cu', ts', dn', md', st'⟩ : SqD).ask true))) ∧ Below w.heap.size w w' := by
  have hql := sqV_len (k := k) (br := br) (td := Value.slice A n C) (dn := dn) (md := md) (st := st) ho hc
  have hql' := sqV_len (k := k') (br := br') (td := Value.slice A' n' C') (dn := dn') (md := md') (st := st') ho' hc'
  have hb1 := (Below.refl w.heap.size w).alloc (Nat.le_refl _) (.cells (sqV k br og cu (.slice A n C) dn md st).toArray 65)
  have hr1 := row_newL w (sqV k br og cu (.slice A n C) dn md st) 65 70 hql
  have hX1 : (w.alloc (.cells (sqV k br og cu (.slice A n C) dn md st).toArray 65)).heap.size = w.heap.size + 1 := by show (w.heap.push _).size = _; simp
  have hb2 := hb1.alloc (al_le w _) (.cells (sqV k' br' og' cu' (.slice A' n' C') dn' md' st').toArray 65)
  have hr1b := World.rowIs.alloc hr1 (.cells (sqV k' br' og' cu' (.slice A' n' C') dn' md' st').toArray 65)
  have hr2 := row_newL (w.alloc (.cells (sqV k br og cu (.slice A n C) dn md st).toArray 65)) (sqV k' br' og' cu' (.slice A' n' C') dn' md' st') 65 70 hql'
  rw [hX1] at hr2
  have HS := Lib.hid (sq_at ho hc (row_range hr1b hql))
  have HS' := Lib.hid (sq_at ho' hc' (row_range hr2 hql'))
  have HB := Lib.hid hb2
  have HT := Lib.hid (hT.below hb2 hG)
  have HT' := Lib.hid (hT'.below hb2 hG)
  have hXl := hr1b.lt
  have hXl' := hr2.lt
  have hid1 := fun W => ids_eq og og' ho ho' W
  have hid2 := fun W => ids_eq cu cu' hc hc' W
  have HZo : Hid ((Try.prog.info? 37).map (·.size) = some (bv og).length) := Lib.hid (by rw [bv_len, ho]; exact infoId)
  have HZo' : Hid ((Try.prog.info? 37).map (·.size) = some (bv og').length) := Lib.hid (by rw [bv_len, ho']; exact infoId)
  have HZc : Hid ((Try.prog.info? 37).map (·.size) = some (bv cu).length) := Lib.hid (by rw [bv_len, hc]; exact infoId)
  have HZc' : Hid ((Try.prog.info? 37).map (·.size) = some (bv cu').length) := Lib.hid (by rw [bv_len, hc']; exact infoId)
  have HQn : Hid (k ≠ k' → sqEq ((⟨k, br, og, cu, ts, dn, md, st⟩ : SqD).ask true) ((⟨k', br', og', cu', ts', dn', md', st'⟩ : SqD).ask true) = false) := Lib.hid (fun h => rsq_ne h)
  have HQz : Hid (k = 0 → k' = 0 → sqEq ((⟨k, br, og, cu, ts, dn, md, st⟩ : SqD).ask true) ((⟨k', br', og', cu', ts', dn', md', st'⟩ : SqD).ask true) = true) := Lib.hid (fun h h' => rsq_zero h h')
  have HQ0 : Hid (k = k' → k ≠ 0 → sqEq ((⟨k, br, og, cu, ts, dn, md, st⟩ : SqD).ask true) ((⟨k', br', og', cu', ts', dn', md', st'⟩ : SqD).ask true) = ((k == k') && ((br.toList == br'.toList) && (decide (og = og') && (decide (cu = cu') && (eqL tdEq ts ts' && ((dn == dn') && ((md == md') && (st == st'))))))))) := Lib.hid (fun h h' => (rsq_same h h').trans rfl)
  have HPost : Hid (∀ (b : Bool) (w' : World), b = sqEq ((⟨k, br, og, cu, ts, dn, md, st⟩ : SqD).ask true) ((⟨k', br', og', cu', ts', dn', md', st'⟩ : SqD).ask true) → Below w.heap.size w w' → ((fun e w' => e = Ending.returned (.bool (sqEq ((⟨k, br, og, cu, ts, dn, md, st⟩ : SqD).ask true) ((⟨k', br', og', cu', ts', dn', md', st'⟩ : SqD).ask true))) ∧ Below w.heap.size w w') (Ending.returned (.bool b)) w')) := Lib.hid (fun b w' e hb => by subst e; exact ⟨rfl, hb⟩)
  generalize hPD : (fun e w' => e = Ending.returned (.bool (sqEq ((⟨k, br, og, cu, ts, dn, md, st⟩ : SqD).ask true) ((⟨k', br', og', cu', ts', dn', md', st'⟩ : SqD).ask true))) ∧ Below w.heap.size w w') = PO at *
  generalize sqEq ((⟨k, br, og, cu, ts, dn, md, st⟩ : SqD).ask true) ((⟨k', br', og', cu', ts', dn', md', st'⟩ : SqD).ask true) = SQ at *
  have HL1 : Hid (ts.length = n) := Lib.hid (by have := hT.rd.len; simpa using this)
  have HL2 : Hid (ts'.length = n') := Lib.hid (by have := hT'.rd.len; simpa using this)
  have hcap1 := hT.rd.cap
  have hmax1 := hT.rd.max
  have hcap2 := hT'.rd.cap
  have hmax2 := hT'.rd.max
  generalize sqV k br og cu (.slice A n C) dn md st = CM at *
  generalize sqV k' br' og' cu' (.slice A' n' C') dn' md' st' = CN at *
  generalize decide (og = og') = b3 at *
  generalize decide (cu = cu') = b4 at *
  clear hPD hT hT' hb1 hb2 hr1 hr1b hr2 hX1 ho hc ho' hc' hql hql'
  go_enter Try.func76, Try.ntmps76
  go_upto_region 1 with (fail)
  generalize (w.alloc (.cells CM.toArray 65)).alloc (.cells CN.toArray 65) = wA at *
  obtain ⟨X, hX⟩ : ∃ X, X = w.heap.size := ⟨_, rfl⟩
  obtain ⟨Y, hY⟩ : ∃ Y, Y = w.heap.size + 1 := ⟨_, rfl⟩
  rw [← hY] at HS' hXl' ⊢
  rw [← hX] at HS hXl ⊢
  clear hX hY
  have HOg := Lib.hid (show wA.rangeAt X 2 (bv og) from HS.out.og)
  have HOg' := Lib.hid (show wA.rangeAt Y 2 (bv og') from HS'.out.og)
  have HCu := Lib.hid (show wA.rangeAt X 34 (bv cu) from HS.out.cu)
  have HCu' := Lib.hid (show wA.rangeAt Y 34 (bv cu') from HS'.out.cu)
  have hk1 : wA.cell? ⟨X, 0, none⟩ = some (.int .i64 k) := HS.out.c0
  have hk2 : wA.cell? ⟨Y, 0, none⟩ = some (.int .i64 k') := HS'.out.c0
  have hb1 : wA.cell? ⟨X, 1, none⟩ = some (.string br) := HS.out.c1
  have hb2 : wA.cell? ⟨Y, 1, none⟩ = some (.string br') := HS'.out.c1
  have ht1 : wA.cell? ⟨X, 66, none⟩ = some (.slice A n C) := by have := HS.out.td; simpa using this
  have ht2 : wA.cell? ⟨Y, 66, none⟩ = some (.slice A' n' C') := by have := HS'.out.td; simpa using this
  have HD1 : Hid (wA.cell? ⟨X, 67, none⟩ = some (.int .i64 dn)) := Lib.hid (by have := HS.out.dn; simpa using this)
  have HD2 : Hid (wA.cell? ⟨Y, 67, none⟩ = some (.int .i64 dn')) := Lib.hid (by have := HS'.out.dn; simpa using this)
  have HM1 : Hid (wA.cell? ⟨X, 68, none⟩ = some (.int .i64 md)) := Lib.hid (by have := HS.out.md; simpa using this)
  have HM2 : Hid (wA.cell? ⟨Y, 68, none⟩ = some (.int .i64 md')) := Lib.hid (by have := HS'.out.md; simpa using this)
  have HW1 : Hid (wA.cell? ⟨X, 69, none⟩ = some (.bool st)) := Lib.hid (by have := HS.out.st; simpa using this)
  have HW2 : Hid (wA.cell? ⟨Y, 69, none⟩ = some (.bool st')) := Lib.hid (by have := HS'.out.st; simpa using this)
  have hsw : w.heap.size ≤ wA.heap.size := HB.out.size
  generalize bv og = LO at *
  generalize bv og' = LP at *
  generalize bv cu = LC at *
  generalize bv cu' = LD at *
  have HW1' := HW1
  have hdn1 := HD1.out
  have hdn2 := HD2.out
  have hmd1 := HM1.out
  have hmd2 := HM2.out
  have hst1 := HW1.out
  have hst2 := HW2.out
  by_cases hkk : k = k'
  rotate_left
  · have hkn : (k != k') = true := by simp [hkk]
    have HE := Lib.hid (HQn.out hkk)
    clear hkk
    go_wp2_with fail
    exact HPost.out false _ HE.out.symm HB.out
  have hkn : (k != k') = false := by simp [hkk]
  by_cases hz : k = 0
  · have hz0 : (k == 0) = true := by simp [hz]
    have HE := Lib.hid (HQz.out hz (by rw [← hkk]; exact hz))
    clear hkk hz
    go_wp2_with fail
    exact HPost.out true _ HE.out.symm HB.out
  have hz0 : (k == 0) = false := by simp [hz]
  have HQ := Lib.hid (HQ0.out hkk hz)
  have hkb : (k == k') = true := by simp [hkk]
  rw [hkb] at HQ
  clear hkk hz hkb HQ0 HQn HQz
  obtain ⟨b2, h2⟩ : ∃ b, (br.toList == br'.toList) = b := ⟨_, rfl⟩
  have h2' : (br.toList != br'.toList) = !b2 := by rw [← h2]; rfl
  obtain ⟨b6, h6⟩ : ∃ b, (dn == dn') = b := ⟨_, rfl⟩
  have h6' : (dn != dn') = !b6 := by rw [← h6]; rfl
  obtain ⟨b7, h7⟩ : ∃ b, (md == md') = b := ⟨_, rfl⟩
  have h7' : (md != md') = !b7 := by rw [← h7]; rfl
  obtain ⟨b8, h8⟩ : ∃ b, (st == st') = b := ⟨_, rfl⟩
  have h8' : (st != st') = !b8 := by rw [← h8]; rfl
  rw [h2, h6, h7, h8] at HQ
  cases b2
  · skip
    go_wp2_with fail
    exact HPost.out false _ (by rw [HQ.out]; simp) HB.out
  cases b3
  · skip
    go_wp2_with (refine wpList_load_stop (by rfl) _ _ rfl X 2 rfl LO _ HOg.out Try.underlying37 rfl HZo.out ?_)
    intro c hc
    obtain rfl := hc.out
    go_wp2_with (refine wpList_load_stop (by rfl) _ _ rfl Y 2 rfl LP _ HOg'.out Try.underlying37 rfl HZo'.out ?_)
    intro c hc
    obtain rfl := hc.out
    go_wp2_with fail
    exact HPost.out false _ (by rw [HQ.out]; simp) HB.out
  cases b4
  · skip
    go_wp2_with (refine wpList_load_stop (by rfl) _ _ rfl X 2 rfl LO _ HOg.out Try.underlying37 rfl HZo.out ?_)
    intro c hc
    obtain rfl := hc.out
    go_wp2_with (refine wpList_load_stop (by rfl) _ _ rfl Y 2 rfl LP _ HOg'.out Try.underlying37 rfl HZo'.out ?_)
    intro c hc
    obtain rfl := hc.out
    go_wp2_with (refine wpList_load_stop (by rfl) _ _ rfl X 34 rfl LC _ HCu.out Try.underlying37 rfl HZc.out ?_)
    intro c hc
    obtain rfl := hc.out
    go_wp2_with (refine wpList_load_stop (by rfl) _ _ rfl Y 34 rfl LD _ HCu'.out Try.underlying37 rfl HZc'.out ?_)
    intro c hc
    obtain rfl := hc.out
    go_wp2_with fail
    exact HPost.out false _ (by rw [HQ.out]; simp) HB.out
  cases b6
  · skip
    go_wp2_with (refine wpList_load_stop (by rfl) _ _ rfl X 2 rfl LO _ HOg.out Try.underlying37 rfl HZo.out ?_)
    intro c hc
    obtain rfl := hc.out
    go_wp2_with (refine wpList_load_stop (by rfl) _ _ rfl Y 2 rfl LP _ HOg'.out Try.underlying37 rfl HZo'.out ?_)
    intro c hc
    obtain rfl := hc.out
    go_wp2_with (refine wpList_load_stop (by rfl) _ _ rfl X 34 rfl LC _ HCu.out Try.underlying37 rfl HZc.out ?_)
    intro c hc
    obtain rfl := hc.out
    go_wp2_with (refine wpList_load_stop (by rfl) _ _ rfl Y 34 rfl LD _ HCu'.out Try.underlying37 rfl HZc'.out ?_)
    intro c hc
    obtain rfl := hc.out
    go_wp2_with fail
    exact HPost.out false _ (by rw [HQ.out]; simp) HB.out
  cases b7
  · skip
    go_wp2_with (refine wpList_load_stop (by rfl) _ _ rfl X 2 rfl LO _ HOg.out Try.underlying37 rfl HZo.out ?_)
    intro c hc
    obtain rfl := hc.out
    go_wp2_with (refine wpList_load_stop (by rfl) _ _ rfl Y 2 rfl LP _ HOg'.out Try.underlying37 rfl HZo'.out ?_)
    intro c hc
    obtain rfl := hc.out
    go_wp2_with (refine wpList_load_stop (by rfl) _ _ rfl X 34 rfl LC _ HCu.out Try.underlying37 rfl HZc.out ?_)
    intro c hc
    obtain rfl := hc.out
    go_wp2_with (refine wpList_load_stop (by rfl) _ _ rfl Y 34 rfl LD _ HCu'.out Try.underlying37 rfl HZc'.out ?_)
    intro c hc
    obtain rfl := hc.out
    go_wp2_with fail
    exact HPost.out false _ (by rw [HQ.out]; simp) HB.out
  cases b8
  · skip
    go_wp2_with (refine wpList_load_stop (by rfl) _ _ rfl X 2 rfl LO _ HOg.out Try.underlying37 rfl HZo.out ?_)
    intro c hc
    obtain rfl := hc.out
    go_wp2_with (refine wpList_load_stop (by rfl) _ _ rfl Y 2 rfl LP _ HOg'.out Try.underlying37 rfl HZo'.out ?_)
    intro c hc
    obtain rfl := hc.out
    go_wp2_with (refine wpList_load_stop (by rfl) _ _ rfl X 34 rfl LC _ HCu.out Try.underlying37 rfl HZc.out ?_)
    intro c hc
    obtain rfl := hc.out
    go_wp2_with (refine wpList_load_stop (by rfl) _ _ rfl Y 34 rfl LD _ HCu'.out Try.underlying37 rfl HZc'.out ?_)
    intro c hc
    obtain rfl := hc.out
    go_wp2_with fail
    exact HPost.out false _ (by rw [HQ.out]; simp) HB.out
  by_cases hl : n = n'
  rotate_left
  · have hd : ((n : Int) != (n' : Int)) = true := by simp; omega
    have HE : Hid (eqL tdEq ts ts' = false) := Lib.hid (eqL_len (by rw [HL1.out, HL2.out]; exact hl))
    clear hl
    go_wp2_with (refine wpList_load_stop (by rfl) _ _ rfl X 2 rfl LO _ HOg.out Try.underlying37 rfl HZo.out ?_)
    intro c hc
    obtain rfl := hc.out
    go_wp2_with (refine wpList_load_stop (by rfl) _ _ rfl Y 2 rfl LP _ HOg'.out Try.underlying37 rfl HZo'.out ?_)
    intro c hc
    obtain rfl := hc.out
    go_wp2_with (refine wpList_load_stop (by rfl) _ _ rfl X 34 rfl LC _ HCu.out Try.underlying37 rfl HZc.out ?_)
    intro c hc
    obtain rfl := hc.out
    go_wp2_with (refine wpList_load_stop (by rfl) _ _ rfl Y 34 rfl LD _ HCu'.out Try.underlying37 rfl HZc'.out ?_)
    intro c hc
    obtain rfl := hc.out
    go_wp2_with fail
    exact HPost.out false _ (by rw [HQ.out, HE.out]; simp) HB.out
  subst hl
  have hd : ((n : Int) != (n : Int)) = false := by simp
  have HQe : Hid (SQ = eqL tdEq ts ts') := Lib.hid (by rw [HQ.out]; simp)
  go_wp2_with (refine wpList_load_stop (by rfl) _ _ rfl X 2 rfl LO _ HOg.out Try.underlying37 rfl HZo.out ?_)
  intro c hc
  obtain rfl := hc.out
  go_wp2_with (refine wpList_load_stop (by rfl) _ _ rfl Y 2 rfl LP _ HOg'.out Try.underlying37 rfl HZo'.out ?_)
  intro c hc
  obtain rfl := hc.out
  go_wp2_with (refine wpList_load_stop (by rfl) _ _ rfl X 34 rfl LC _ HCu.out Try.underlying37 rfl HZc.out ?_)
  intro c hc
  obtain rfl := hc.out
  go_wp2_with (refine wpList_load_stop (by rfl) _ _ rfl Y 34 rfl LD _ HCu'.out Try.underlying37 rfl HZc'.out ?_)
  intro c hc
  obtain rfl := hc.out
  go_upto_region 7 with (fail)
  clear hid1 hid2 hk1 hk2 hb1 hb2 hdn1 hdn2 hmd1 hmd2 hst1 hst2 hkn hz0 h2 h2' h6 h6' h7 h7' h8 h8' hd HOg HOg' HCu HCu' HD1 HD2 HM1 HM2 HW1 HW2 HW1' HZo HZo' HZc HZc' HQ
  have HTc := Lib.hid (And.intro ht1 ht2)
  clear ht1 ht2
  go_wp2_with fail
  go_loopw [5] (fun s wr => ∃ q : Nat, s = .int .i64 q ∧ q ≤ n ∧ Hid (eqL tdEq (ts.drop q) (ts'.drop q) = eqL tdEq ts ts') ∧ Hid (Below wA.heap.size wA wr)) (fun s _ => n - (intOf s).toNat)
  case atStart => exact ⟨0, rfl, Nat.zero_le _, Lib.hid rfl, Lib.hid (Below.refl _ _)⟩
  case round =>
    obtain ⟨q, rfl, hq, HF, HBr⟩ := hrel
    have hGA : G ≤ wA.heap.size := Nat.le_trans hG hsw
    have hq1 : wr.cell? ⟨X, 66, none⟩ = some (.slice A n C) := (HBr.out.cell (p := ⟨X, 66, none⟩) hXl).trans HTc.out.1
    have hq2 : wr.cell? ⟨Y, 66, none⟩ = some (.slice A' n C') := (HBr.out.cell (p := ⟨Y, 66, none⟩) hXl').trans HTc.out.2
    by_cases hlt : q < n
    · obtain ⟨g, o, hA, hg, hcc⟩ := (HT.out.below HBr.out hGA).rd.cell (by omega)
      obtain ⟨g2, o2, hA', hg2, hcc2⟩ := (HT'.out.below HBr.out hGA).rd.cell (by omega)
      obtain ⟨t, ht⟩ : ∃ t, t = ts.getD q default := ⟨_, rfl⟩
      obtain ⟨t2, ht2⟩ : ∃ t2, t2 = ts'.getD q default := ⟨_, rfl⟩
      have hx1 := hcc q hlt
      rw [map_getD _ (by rw [HL1.out]; exact hlt), ← ht] at hx1
      have hx2 := hcc2 q hlt
      rw [map_getD _ (by rw [HL2.out]; exact hlt), ← ht2] at hx2
      have hok1 := HT.out.ok t (by rw [ht]; exact getD_memI (by rw [HL1.out]; exact hlt))
      have hok2 := HT'.out.ok t2 (by rw [ht2]; exact getD_memI (by rw [HL2.out]; exact hlt))
      have hst := eqL_drop tdEq ts ts' q (by rw [HL1.out]; exact hlt) (by rw [HL2.out]; exact hlt)
      rw [HF.out, ← ht, ← ht2] at hst
      have HSt := Lib.hid hst
      have hS1 : Hid ((Try.prog.info? 84).map (·.size) = some t.cells.length) := Lib.hid (by rw [Td.len hok1]; exact infoTd)
      have hS2 : Hid ((Try.prog.info? 84).map (·.size) = some t2.cells.length) := Lib.hid (by rw [Td.len hok2]; exact infoTd)
      have hself := fun W => td_eq t t2 hok1 hok2 W
      subst hA hA'
      have HX1 := Lib.hid hx1
      have HX2 := Lib.hid hx2
      have HC1 := Lib.hid hq1
      have HC2 := Lib.hid hq2
      have hk0 : (0 : Int) ≤ (q : Int) := by omega
      have hk1 : (q : Int) < (n : Int) := by omega
      have hkn : q < n := hlt
      have HBd := Lib.hid HBr.out.drew
      clear hx1 hx2 hcc hcc2 hok1 hok2 HF HBr hg hg2 hst ht ht2
      generalize tdEq t t2 = b at *
      generalize t.cells = EL at *
      generalize t2.cells = ER at *
      cases b
      · rw [Bool.false_and] at HSt
        go_wp2_with fail
        clear hq1 hq2
        refine wp_region_noPanic ?_
        refine wp_region_held_drew (S := (fun wS => wS.rangeAt g (o + q * 33) EL ∧ wS.rangeAt g2 (o2 + q * 33) ER ∧ wS.cell? ⟨X, 66, none⟩ = some (.slice (some ⟨g, o, none⟩) n C) ∧ wS.cell? ⟨Y, 66, none⟩ = some (.slice (some ⟨g2, o2, none⟩) n C'))) (by kernel_rfl) ?_ (fun hHeld => ?_)
        · ((try dsimp only); exact ⟨HX1.out, HX2.out, HC1.out, HC2.out⟩)
        refine wpAnyH_take (i := 0) (oi := { dst := some 70, op := Op.fieldAddr 65 (Operand.tmp 2) 4, type := 0, pos := "ref.go:455", after := #[], guard := none }) (v := ?_) rfl (by kernel_rfl) (by kernel_rfl) (by kernel_rfl) (fun _ _ _ h => h) (Or.inl ⟨by rfl, ?_⟩) (by assumption) ?_
        rotate_left 1
        · ((intro w hSw; (try dsimp only at hSw); go_simp) <;> with_reducible rfl)
        (try simp only [Act.put, List.setIfInBounds_toArray, List.set_cons_zero, List.set_cons_succ])
        refine wpAnyH_take (i := 1) (oi := { dst := some 71, op := Op.load 63 (Operand.tmp 70), type := 63, pos := "ref.go:455", after := #[{ on := 0, ground := Ground.data }], guard := none }) (v := ?_) rfl (by kernel_rfl) (by kernel_rfl) (by kernel_rfl) (fun _ _ _ h => h) (Or.inl ⟨by rfl, ?_⟩) (by assumption) ?_
        rotate_left 1
        · ((intro w hSw; (try dsimp only at hSw); go_simp) <;> with_reducible rfl)
        (try simp only [Act.put, List.setIfInBounds_toArray, List.set_cons_zero, List.set_cons_succ])
        refine wpAnyH_take (i := 2) (oi := { dst := some 72, op := Op.move (Operand.tmp 5), type := 3, pos := "ref.go:455", after := #[], guard := none }) (v := ?_) rfl (by kernel_rfl) (by kernel_rfl) (by kernel_rfl) (fun _ _ _ h => h) (Or.inl ⟨by rfl, ?_⟩) (by assumption) ?_
        rotate_left 1
        · ((intro w hSw; (try dsimp only at hSw); go_simp) <;> with_reducible rfl)
        (try simp only [Act.put, List.setIfInBounds_toArray, List.set_cons_zero, List.set_cons_succ])
        refine wpAnyH_take (i := 3) (oi := { dst := some 73, op := Op.indexAddr 63 (Operand.tmp 71) (Operand.tmp 72), type := 0, pos := "ref.go:455", after := #[{ on := 1, ground := Ground.data }, { on := 2, ground := Ground.data }], guard := none }) (v := ?_) rfl (by kernel_rfl) (by kernel_rfl) (by kernel_rfl) (fun _ _ _ h => h) (Or.inl ⟨by rfl, ?_⟩) (by assumption) ?_
        rotate_left 1
        · ((intro w hSw; (try dsimp only at hSw); go_simp) <;> with_reducible rfl)
        (try simp only [Act.put, List.setIfInBounds_toArray, List.set_cons_zero, List.set_cons_succ])
        refine' wpAnyH_take (i := 4) (oi := { dst := some 74, op := Op.load 84 (Operand.tmp 73), type := 84, pos := "ref.go:455", after := #[{ on := 3, ground := Ground.data }], guard := none }) (v := _) rfl (by kernel_rfl) (by kernel_rfl) (by kernel_rfl) (fun _ _ _ h => h) (yieldsIf_load_mid (by rfl) _ _ rfl _ _ rfl EL _ (fun w hSw => hSw.1) Try.underlying84 rfl hS1.out) (by assumption) ?_
        (try simp only [Act.put, List.setIfInBounds_toArray, List.set_cons_zero, List.set_cons_succ])
        refine wpAnyH_take (i := 5) (oi := { dst := some 75, op := Op.fieldAddr 65 (Operand.tmp 3) 4, type := 0, pos := "ref.go:455", after := #[], guard := none }) (v := ?_) rfl (by kernel_rfl) (by kernel_rfl) (by kernel_rfl) (fun _ _ _ h => h) (Or.inl ⟨by rfl, ?_⟩) (by assumption) ?_
        rotate_left 1
        · ((intro w hSw; (try dsimp only at hSw); go_simp) <;> with_reducible rfl)
        (try simp only [Act.put, List.setIfInBounds_toArray, List.set_cons_zero, List.set_cons_succ])
        refine wpAnyH_take (i := 6) (oi := { dst := some 76, op := Op.load 63 (Operand.tmp 75), type := 63, pos := "ref.go:455", after := #[{ on := 5, ground := Ground.data }], guard := none }) (v := ?_) rfl (by kernel_rfl) (by kernel_rfl) (by kernel_rfl) (fun _ _ _ h => h) (Or.inl ⟨by rfl, ?_⟩) (by assumption) ?_
        rotate_left 1
        · ((intro w hSw; (try dsimp only at hSw); go_simp) <;> with_reducible rfl)
        (try simp only [Act.put, List.setIfInBounds_toArray, List.set_cons_zero, List.set_cons_succ])
        refine wpAnyH_take (i := 7) (oi := { dst := some 77, op := Op.move (Operand.tmp 5), type := 3, pos := "ref.go:455", after := #[], guard := none }) (v := ?_) rfl (by kernel_rfl) (by kernel_rfl) (by kernel_rfl) (fun _ _ _ h => h) (Or.inl ⟨by rfl, ?_⟩) (by assumption) ?_
        rotate_left 1
        · ((intro w hSw; (try dsimp only at hSw); go_simp) <;> with_reducible rfl)
        (try simp only [Act.put, List.setIfInBounds_toArray, List.set_cons_zero, List.set_cons_succ])
        refine wpAnyH_take (i := 8) (oi := { dst := some 78, op := Op.indexAddr 63 (Operand.tmp 76) (Operand.tmp 77), type := 0, pos := "ref.go:455", after := #[{ on := 6, ground := Ground.data }, { on := 7, ground := Ground.data }], guard := none }) (v := ?_) rfl (by kernel_rfl) (by kernel_rfl) (by kernel_rfl) (fun _ _ _ h => h) (Or.inl ⟨by rfl, ?_⟩) (by assumption) ?_
        rotate_left 1
        · ((intro w hSw; (try dsimp only at hSw); go_simp) <;> with_reducible rfl)
        (try simp only [Act.put, List.setIfInBounds_toArray, List.set_cons_zero, List.set_cons_succ])
        refine' wpAnyH_take (i := 9) (oi := { dst := some 79, op := Op.load 84 (Operand.tmp 78), type := 84, pos := "ref.go:455", after := #[{ on := 8, ground := Ground.data }], guard := none }) (v := _) rfl (by kernel_rfl) (by kernel_rfl) (by kernel_rfl) (fun _ _ _ h => h) (yieldsIf_load_mid (by rfl) _ _ rfl _ _ rfl ER _ (fun w hSw => hSw.2.1) Try.underlying84 rfl hS2.out) (by assumption) ?_
        (try simp only [Act.put, List.setIfInBounds_toArray, List.set_cons_zero, List.set_cons_succ])
        refine wpAnyH_take (i := 10) (oi := { dst := some 80, op := Op.binOp BinOp.neq 84 (Operand.tmp 74) (Operand.tmp 79) 84, type := 4, pos := "ref.go:455", after := #[{ on := 4, ground := Ground.data }, { on := 9, ground := Ground.data }], guard := none }) (v := ?_) rfl (by kernel_rfl) (by kernel_rfl) (by kernel_rfl) (fun _ _ _ h => h) (Or.inl ⟨by rfl, ?_⟩) (by assumption) ?_
        rotate_left 1
        · ((intro w hSw; (try dsimp only at hSw); go_simp) <;> with_reducible rfl)
        (try simp only [Act.put, List.setIfInBounds_toArray, List.set_cons_zero, List.set_cons_succ])
        refine wpAnyH_done (by kernel_rfl) ?_ _
        refine NoPanic.normal ?_
        skip
        go_wp2_with fail
        exact HPost.out false _ (by rw [HQe.out]; exact HSt.out.symm) (HB.out.trans (HBd.out.mono hsw))
      · rw [Bool.true_and] at HSt
        have HSt2 := Lib.hid HSt.out.symm
        go_wp2_with fail
        clear hq1 hq2
        refine wp_region_noPanic ?_
        refine wp_region_held_drew (S := (fun wS => wS.rangeAt g (o + q * 33) EL ∧ wS.rangeAt g2 (o2 + q * 33) ER ∧ wS.cell? ⟨X, 66, none⟩ = some (.slice (some ⟨g, o, none⟩) n C) ∧ wS.cell? ⟨Y, 66, none⟩ = some (.slice (some ⟨g2, o2, none⟩) n C'))) (by kernel_rfl) ?_ (fun hHeld => ?_)
        · ((try dsimp only); exact ⟨HX1.out, HX2.out, HC1.out, HC2.out⟩)
        refine wpAnyH_take (i := 0) (oi := { dst := some 70, op := Op.fieldAddr 65 (Operand.tmp 2) 4, type := 0, pos := "ref.go:455", after := #[], guard := none }) (v := ?_) rfl (by kernel_rfl) (by kernel_rfl) (by kernel_rfl) (fun _ _ _ h => h) (Or.inl ⟨by rfl, ?_⟩) (by assumption) ?_
        rotate_left 1
        · ((intro w hSw; (try dsimp only at hSw); go_simp) <;> with_reducible rfl)
        (try simp only [Act.put, List.setIfInBounds_toArray, List.set_cons_zero, List.set_cons_succ])
        refine wpAnyH_take (i := 1) (oi := { dst := some 71, op := Op.load 63 (Operand.tmp 70), type := 63, pos := "ref.go:455", after := #[{ on := 0, ground := Ground.data }], guard := none }) (v := ?_) rfl (by kernel_rfl) (by kernel_rfl) (by kernel_rfl) (fun _ _ _ h => h) (Or.inl ⟨by rfl, ?_⟩) (by assumption) ?_
        rotate_left 1
        · ((intro w hSw; (try dsimp only at hSw); go_simp) <;> with_reducible rfl)
        (try simp only [Act.put, List.setIfInBounds_toArray, List.set_cons_zero, List.set_cons_succ])
        refine wpAnyH_take (i := 2) (oi := { dst := some 72, op := Op.move (Operand.tmp 5), type := 3, pos := "ref.go:455", after := #[], guard := none }) (v := ?_) rfl (by kernel_rfl) (by kernel_rfl) (by kernel_rfl) (fun _ _ _ h => h) (Or.inl ⟨by rfl, ?_⟩) (by assumption) ?_
        rotate_left 1
        · ((intro w hSw; (try dsimp only at hSw); go_simp) <;> with_reducible rfl)
        (try simp only [Act.put, List.setIfInBounds_toArray, List.set_cons_zero, List.set_cons_succ])
        refine wpAnyH_take (i := 3) (oi := { dst := some 73, op := Op.indexAddr 63 (Operand.tmp 71) (Operand.tmp 72), type := 0, pos := "ref.go:455", after := #[{ on := 1, ground := Ground.data }, { on := 2, ground := Ground.data }], guard := none }) (v := ?_) rfl (by kernel_rfl) (by kernel_rfl) (by kernel_rfl) (fun _ _ _ h => h) (Or.inl ⟨by rfl, ?_⟩) (by assumption) ?_
        rotate_left 1
        · ((intro w hSw; (try dsimp only at hSw); go_simp) <;> with_reducible rfl)
        (try simp only [Act.put, List.setIfInBounds_toArray, List.set_cons_zero, List.set_cons_succ])
        refine' wpAnyH_take (i := 4) (oi := { dst := some 74, op := Op.load 84 (Operand.tmp 73), type := 84, pos := "ref.go:455", after := #[{ on := 3, ground := Ground.data }], guard := none }) (v := _) rfl (by kernel_rfl) (by kernel_rfl) (by kernel_rfl) (fun _ _ _ h => h) (yieldsIf_load_mid (by rfl) _ _ rfl _ _ rfl EL _ (fun w hSw => hSw.1) Try.underlying84 rfl hS1.out) (by assumption) ?_
        (try simp only [Act.put, List.setIfInBounds_toArray, List.set_cons_zero, List.set_cons_succ])
        refine wpAnyH_take (i := 5) (oi := { dst := some 75, op := Op.fieldAddr 65 (Operand.tmp 3) 4, type := 0, pos := "ref.go:455", after := #[], guard := none }) (v := ?_) rfl (by kernel_rfl) (by kernel_rfl) (by kernel_rfl) (fun _ _ _ h => h) (Or.inl ⟨by rfl, ?_⟩) (by assumption) ?_
        rotate_left 1
        · ((intro w hSw; (try dsimp only at hSw); go_simp) <;> with_reducible rfl)
        (try simp only [Act.put, List.setIfInBounds_toArray, List.set_cons_zero, List.set_cons_succ])
        refine wpAnyH_take (i := 6) (oi := { dst := some 76, op := Op.load 63 (Operand.tmp 75), type := 63, pos := "ref.go:455", after := #[{ on := 5, ground := Ground.data }], guard := none }) (v := ?_) rfl (by kernel_rfl) (by kernel_rfl) (by kernel_rfl) (fun _ _ _ h => h) (Or.inl ⟨by rfl, ?_⟩) (by assumption) ?_
        rotate_left 1
        · ((intro w hSw; (try dsimp only at hSw); go_simp) <;> with_reducible rfl)
        (try simp only [Act.put, List.setIfInBounds_toArray, List.set_cons_zero, List.set_cons_succ])
        refine wpAnyH_take (i := 7) (oi := { dst := some 77, op := Op.move (Operand.tmp 5), type := 3, pos := "ref.go:455", after := #[], guard := none }) (v := ?_) rfl (by kernel_rfl) (by kernel_rfl) (by kernel_rfl) (fun _ _ _ h => h) (Or.inl ⟨by rfl, ?_⟩) (by assumption) ?_
        rotate_left 1
        · ((intro w hSw; (try dsimp only at hSw); go_simp) <;> with_reducible rfl)
        (try simp only [Act.put, List.setIfInBounds_toArray, List.set_cons_zero, List.set_cons_succ])
        refine wpAnyH_take (i := 8) (oi := { dst := some 78, op := Op.indexAddr 63 (Operand.tmp 76) (Operand.tmp 77), type := 0, pos := "ref.go:455", after := #[{ on := 6, ground := Ground.data }, { on := 7, ground := Ground.data }], guard := none }) (v := ?_) rfl (by kernel_rfl) (by kernel_rfl) (by kernel_rfl) (fun _ _ _ h => h) (Or.inl ⟨by rfl, ?_⟩) (by assumption) ?_
        rotate_left 1
        · ((intro w hSw; (try dsimp only at hSw); go_simp) <;> with_reducible rfl)
        (try simp only [Act.put, List.setIfInBounds_toArray, List.set_cons_zero, List.set_cons_succ])
        refine' wpAnyH_take (i := 9) (oi := { dst := some 79, op := Op.load 84 (Operand.tmp 78), type := 84, pos := "ref.go:455", after := #[{ on := 8, ground := Ground.data }], guard := none }) (v := _) rfl (by kernel_rfl) (by kernel_rfl) (by kernel_rfl) (fun _ _ _ h => h) (yieldsIf_load_mid (by rfl) _ _ rfl _ _ rfl ER _ (fun w hSw => hSw.2.1) Try.underlying84 rfl hS2.out) (by assumption) ?_
        (try simp only [Act.put, List.setIfInBounds_toArray, List.set_cons_zero, List.set_cons_succ])
        refine wpAnyH_take (i := 10) (oi := { dst := some 80, op := Op.binOp BinOp.neq 84 (Operand.tmp 74) (Operand.tmp 79) 84, type := 4, pos := "ref.go:455", after := #[{ on := 4, ground := Ground.data }, { on := 9, ground := Ground.data }], guard := none }) (v := ?_) rfl (by kernel_rfl) (by kernel_rfl) (by kernel_rfl) (fun _ _ _ h => h) (Or.inl ⟨by rfl, ?_⟩) (by assumption) ?_
        rotate_left 1
        · ((intro w hSw; (try dsimp only at hSw); go_simp) <;> with_reducible rfl)
        (try simp only [Act.put, List.setIfInBounds_toArray, List.set_cons_zero, List.set_cons_succ])
        refine wpAnyH_done (by kernel_rfl) ?_ _
        refine NoPanic.normal ?_
        skip
        go_wp2_with fail
        go_roundw
        case rel => exact ⟨q + 1, by go_num, by omega, HSt2, HBd⟩
        case measure => simp [intOf]; omega
    · have hd2 : decide ((q : Int) < (n : Int)) = false := by simp; omega
      have HE : Hid (eqL tdEq ts ts' = true) := Lib.hid (by
        have h := HF.out
        rw [List.drop_of_length_le (by rw [HL1.out]; omega), List.drop_of_length_le (by rw [HL2.out]; omega)] at h
        exact h.symm)
      clear HF
      go_wp2_with fail
      exact HPost.out true _ (by rw [HQe.out]; exact HE.out.symm) (HB.out.trans (HBr.out.mono hsw))
end Go.Proofs.Ytmcmapgllaopmaa.Cd
end

section
namespace Go.Proofs.Ytmcmapgllaopmaa.Cd
open Go.RowKit
set_option linter.unusedVariables false
/-- a move's parts, from o on -/
structure MvO (w : World) (b o : Nat) (m : Mv) : Prop where
  nm : w.cell? ⟨b, o, none⟩ = some (.string m.nm)
  od : w.rangeAt b (o + 1) (bv m.od)
  nw : w.rangeAt b (o + 33) (bv m.nw)
  wy : w.cell? ⟨b, o + 65, none⟩ = some (.string m.wy)
theorem mv_o {w : World} {b o : Nat} {m : Mv} (h1 : m.od.length = 32) (h2 : m.nw.length = 32) (h : w.rangeAt b o m.cells) : MvO w b o m := by
  have e0 := rg_cons h
  have e1 := rg_app e0.2
  have e2 := rg_app e1.2
  have e3 := rg_cons e2.2
  have e4 := e2.1
  have e5 := e3.1
  simp only [bv_len, h1, h2, Nat.add_assoc] at e4 e5
  exact ⟨e0.1, e1.1, by simpa [Nat.add_assoc] using e4, by simpa [Nat.add_assoc] using e5⟩
structure MyO (w : World) (b o : Nat) (y : My) : Prop where
  key : w.rangeAt b o (bv y.key)
  data : w.cell? ⟨b, o + 32, none⟩ = some (.slice y.A y.n y.C)
theorem my_o {w : World} {b o : Nat} {y : My} (h1 : y.key.length = 32) (h : w.rangeAt b o y.cells) : MyO w b o y := by
  have e1 := rg_app h
  have e2 := rg_cons e1.2
  have e3 := e2.1
  simp only [bv_len, h1] at e3
  exact ⟨e1.1, e3⟩
/-- is a text too long, as the document asks? -/
def rlgB (hh : Bool) (hd : ByteArray) (ms : List Mv) (hs : Bool) (k : Int) (br : ByteArray) : Bool :=
  (hh && decide (255 < hd.size)) || (hs && (decide (k ≠ 0) && decide (255 < br.size))) || ms.any mlB
theorem rlgB_eq (hh : Bool) (hd : ByteArray) (ms : List Mv) (hs : Bool) (k : Int) (br og : ByteArray) (h : og = if hs = true ∧ k ≠ 0 then br else ByteArray.empty) : rlgB hh hd ms hs k br = lgB ms (akH hh hd) og := by
  subst h
  unfold rlgB lgB akH
  rw [Bool.or_comm]
  cases hh <;> cases hs <;> by_cases hk : k = 0 <;> simp [hk]
set_option maxRecDepth 100000 in
set_option maxHeartbeats 8000000 in
theorem rlong_any (G : Nat) (hh : Bool) (hd : ByteArray) (A : Option Addr) (n C : Nat) (ms : List Mv) (hs : Bool) (k : Int) (br : ByteArray) (og cu : List Int) (td : Value) (dn md : Int) (st : Bool) (mm : Value) (w : World)
    (ho : og.length = 32) (hc : cu.length = 32) (hM : RdM G w A n C ms) (hG : G ≤ w.heap.size) (hn : n ≤ 1000000000) (hhd : hd.size ≤ 140737488351232) (hbr : br.size ≤ 140737488351232) :
    Calls Try.prog 71 #[.agg (txV hh hd (.slice A n C) hs (sqV k br og cu td dn md st) mm).toArray] w fun e w' => e = .returned (.bool (rlgB hh hd ms hs k br)) ∧ Below w.heap.size w w' := by
  have hql := sqV_len (k := k) (br := br) (td := td) (dn := dn) (md := md) (st := st) ho hc
  have hb1 := (Below.refl w.heap.size w).alloc (Nat.le_refl _) (.cells (txV hh hd (.slice A n C) hs (sqV k br og cu td dn md st) mm).toArray 68)
  have hr1 := row_newL w (txV hh hd (.slice A n C) hs (sqV k br og cu td dn md st) mm) 68 75 (txV_len hql)
  have hta := tx_at hql (row_range hr1 (txV_len hql))
  have hsa := sq_at ho hc hta.sq
  have HM := Lib.hid (hM.below hb1 hG)
  have HB1 := Lib.hid hb1
  have HMl : Hid (ms.length = n) := Lib.hid (by have := hM.rd.len; simpa using this)
  have hcap := hM.rd.cap
  have hmax := hM.rd.max
  have HPost : Hid (∀ (b : Bool) (w' : World), b = rlgB hh hd ms hs k br → Below w.heap.size w w' → ((fun e w' => e = Ending.returned (.bool (rlgB hh hd ms hs k br)) ∧ Below w.heap.size w w') (Ending.returned (.bool b)) w')) := Lib.hid (fun b w' e hb => by subst e; exact ⟨rfl, hb⟩)
  generalize hPD : (fun e w' => e = Ending.returned (.bool (rlgB hh hd ms hs k br)) ∧ Below w.heap.size w w') = PO at *
  have hc0 := hta.c0
  have hc1 := hta.c1
  have hc2 := hta.c2
  have hc3 := hta.c3
  have hc4 := hsa.c0
  have hc5 : (w.alloc (.cells (txV hh hd (.slice A n C) hs (sqV k br og cu td dn md st) mm).toArray 68)).cell? ⟨w.heap.size, 5, none⟩ = some (.string br) := hsa.c1
  generalize txV hh hd (.slice A n C) hs (sqV k br og cu td dn md st) mm = CM at *
  clear hPD hM hb1 hr1 ho hc hql hta hsa
  go_enter Try.func71, Try.ntmps71
  go_upto_region 1 with (fail)
  generalize w.alloc (.cells CM.toArray 68) = wA at *
  generalize w.heap.size = X at *
  cases hh
  · skip
    cases hs
    · go_upto_region 4 with (fail)
      clear hc0 hc1 hc3 hc4 hc5
      go_loop [3] (fun i => ∃ (j : Nat), i = .int .i64 j ∧ j ≤ n ∧ Hid ((ms.take j).any mlB = false)) (fun i => n - (intOf i).toNat)
      case atStart => exact ⟨0, rfl, Nat.zero_le _, Lib.hid rfl⟩
      case round =>
        obtain ⟨j, rfl, hj, HF⟩ := hrel
        by_cases hlt : j < n
        · obtain ⟨g, o, rfl, hgl, hcc⟩ := HM.out.rd.cell (by omega)
          obtain ⟨t, ht⟩ : ∃ t, t = ms.getD j default := ⟨_, rfl⟩
          have hrg := hcc j hlt
          rw [map_getD _ (by rw [HMl.out]; exact hlt), ← ht] at hrg
          have htm : t ∈ ms := by rw [ht]; exact getD_memI (by rw [HMl.out]; exact hlt)
          have hok := HM.out.ok t htm
          have hat := mv_o hok.1 hok.2.1 hrg
          have hcn := hat.nm
          have hcw := hat.wy
          have hsn := hok.2.2.1
          have hsw := hok.2.2.2
          have hst := mlB_take ms j (by rw [HMl.out]; exact hlt)
          rw [HF.out, ← ht, Bool.false_or] at hst
          have hyes := mlB_yes ms j (by rw [HMl.out]; exact hlt)
          rw [← ht] at hyes
          have hml : mlB t = (decide (255 < t.nm.size) || decide (65535 < t.wy.size)) := rfl
          have HSt := Lib.hid hst
          have HYes := Lib.hid hyes
          have HMd := Lib.hid hml
          have hj0 : (0 : Int) ≤ (j : Int) := by omega
          have hj1 : (j : Int) < (n : Int) := by omega
          clear hcc hrg hst hyes hml ht htm hok hat HF
          obtain ⟨nm, hnm⟩ : ∃ nm, nm = t.nm := ⟨_, rfl⟩
          obtain ⟨wy, hwy⟩ : ∃ wy, wy = t.wy := ⟨_, rfl⟩
          rw [← hnm] at hcn hsn HMd
          rw [← hwy] at hcw hsw HMd
          clear hnm hwy
          by_cases g1 : 255 < nm.size
          · have hd1 : decide ((255 : Int) < (nm.size : Int)) = true := by simp; omega
            have HE : Hid (ms.any mlB = true) := Lib.hid (HYes.out (by rw [HMd.out]; simp [g1]))
            go_wp2_with fail
            exact HPost.out true _ (by unfold rlgB; rw [HE.out]; simp) HB1.out
          · have hd1 : decide ((255 : Int) < (nm.size : Int)) = false := by simp; omega
            by_cases g2 : 65535 < wy.size
            · have hd2 : decide ((65535 : Int) < (wy.size : Int)) = true := by simp; omega
              have HE : Hid (ms.any mlB = true) := Lib.hid (HYes.out (by rw [HMd.out]; simp [g2]))
              go_wp2_with fail
              exact HPost.out true _ (by unfold rlgB; rw [HE.out]; simp) HB1.out
            · have hd2 : decide ((65535 : Int) < (wy.size : Int)) = false := by simp; omega
              have HSt2 : Hid ((ms.take (j + 1)).any mlB = false) := Lib.hid (by rw [HSt.out, HMd.out]; simp; omega)
              go_wp2_with fail
              go_round
              case rel => exact ⟨j + 1, by go_num, by omega, HSt2⟩
              case measure => simp [intOf]; omega
        · have HTd : Hid (ms.any mlB = false) := Lib.hid (by
            have h := HF.out
            rw [show j = n by omega, List.take_of_length_le (by rw [HMl.out]; exact Nat.le_refl _)] at h
            exact h)
          have hd2 : decide ((j : Int) < (n : Int)) = false := by simp; omega
          clear HF
          go_wp2_with fail
          exact HPost.out false _ (by unfold rlgB; rw [HTd.out]; simp) HB1.out
    · by_cases hk : k = 0
      · have hk0 : (k != 0) = false := by simp [hk]
        have HK := Lib.hid hk
        clear hk
        go_upto_region 4 with (fail)
        clear hk0
        clear hc0 hc1 hc3 hc4 hc5
        go_loop [3] (fun i => ∃ (j : Nat), i = .int .i64 j ∧ j ≤ n ∧ Hid ((ms.take j).any mlB = false)) (fun i => n - (intOf i).toNat)
        case atStart => exact ⟨0, rfl, Nat.zero_le _, Lib.hid rfl⟩
        case round =>
          obtain ⟨j, rfl, hj, HF⟩ := hrel
          by_cases hlt : j < n
          · obtain ⟨g, o, rfl, hgl, hcc⟩ := HM.out.rd.cell (by omega)
            obtain ⟨t, ht⟩ : ∃ t, t = ms.getD j default := ⟨_, rfl⟩
            have hrg := hcc j hlt
            rw [map_getD _ (by rw [HMl.out]; exact hlt), ← ht] at hrg
            have htm : t ∈ ms := by rw [ht]; exact getD_memI (by rw [HMl.out]; exact hlt)
            have hok := HM.out.ok t htm
            have hat := mv_o hok.1 hok.2.1 hrg
            have hcn := hat.nm
            have hcw := hat.wy
            have hsn := hok.2.2.1
            have hsw := hok.2.2.2
            have hst := mlB_take ms j (by rw [HMl.out]; exact hlt)
            rw [HF.out, ← ht, Bool.false_or] at hst
            have hyes := mlB_yes ms j (by rw [HMl.out]; exact hlt)
            rw [← ht] at hyes
            have hml : mlB t = (decide (255 < t.nm.size) || decide (65535 < t.wy.size)) := rfl
            have HSt := Lib.hid hst
            have HYes := Lib.hid hyes
            have HMd := Lib.hid hml
            have hj0 : (0 : Int) ≤ (j : Int) := by omega
            have hj1 : (j : Int) < (n : Int) := by omega
            clear hcc hrg hst hyes hml ht htm hok hat HF
            obtain ⟨nm, hnm⟩ : ∃ nm, nm = t.nm := ⟨_, rfl⟩
            obtain ⟨wy, hwy⟩ : ∃ wy, wy = t.wy := ⟨_, rfl⟩
            rw [← hnm] at hcn hsn HMd
            rw [← hwy] at hcw hsw HMd
            clear hnm hwy
            by_cases g1 : 255 < nm.size
            · have hd1 : decide ((255 : Int) < (nm.size : Int)) = true := by simp; omega
              have HE : Hid (ms.any mlB = true) := Lib.hid (HYes.out (by rw [HMd.out]; simp [g1]))
              go_wp2_with fail
              exact HPost.out true _ (by unfold rlgB; rw [HE.out]; simp) HB1.out
            · have hd1 : decide ((255 : Int) < (nm.size : Int)) = false := by simp; omega
              by_cases g2 : 65535 < wy.size
              · have hd2 : decide ((65535 : Int) < (wy.size : Int)) = true := by simp; omega
                have HE : Hid (ms.any mlB = true) := Lib.hid (HYes.out (by rw [HMd.out]; simp [g2]))
                go_wp2_with fail
                exact HPost.out true _ (by unfold rlgB; rw [HE.out]; simp) HB1.out
              · have hd2 : decide ((65535 : Int) < (wy.size : Int)) = false := by simp; omega
                have HSt2 : Hid ((ms.take (j + 1)).any mlB = false) := Lib.hid (by rw [HSt.out, HMd.out]; simp; omega)
                go_wp2_with fail
                go_round
                case rel => exact ⟨j + 1, by go_num, by omega, HSt2⟩
                case measure => simp [intOf]; omega
          · have HTd : Hid (ms.any mlB = false) := Lib.hid (by
              have h := HF.out
              rw [show j = n by omega, List.take_of_length_le (by rw [HMl.out]; exact Nat.le_refl _)] at h
              exact h)
            have hd2 : decide ((j : Int) < (n : Int)) = false := by simp; omega
            clear HF
            go_wp2_with fail
            exact HPost.out false _ (by unfold rlgB; rw [HTd.out]; simp [HK.out]) HB1.out
      · have hk0 : (k != 0) = true := by simp [hk]
        by_cases g3 : 255 < br.size
        · have hd3 : decide ((255 : Int) < (br.size : Int)) = true := by simp; omega
          have hse : br.size ≤ 140737488355327 := by omega
          go_wp2_with fail
          exact HPost.out true _ (by unfold rlgB; simp [hk, g3]) HB1.out
        · have hd3 : decide ((255 : Int) < (br.size : Int)) = false := by simp; omega
          have hse : br.size ≤ 140737488355327 := by omega
          clear hk
          go_upto_region 4 with (fail)
          clear hk0 hd3 hse
          clear hc0 hc1 hc3 hc4 hc5
          go_loop [3] (fun i => ∃ (j : Nat), i = .int .i64 j ∧ j ≤ n ∧ Hid ((ms.take j).any mlB = false)) (fun i => n - (intOf i).toNat)
          case atStart => exact ⟨0, rfl, Nat.zero_le _, Lib.hid rfl⟩
          case round =>
            obtain ⟨j, rfl, hj, HF⟩ := hrel
            by_cases hlt : j < n
            · obtain ⟨g, o, rfl, hgl, hcc⟩ := HM.out.rd.cell (by omega)
              obtain ⟨t, ht⟩ : ∃ t, t = ms.getD j default := ⟨_, rfl⟩
              have hrg := hcc j hlt
              rw [map_getD _ (by rw [HMl.out]; exact hlt), ← ht] at hrg
              have htm : t ∈ ms := by rw [ht]; exact getD_memI (by rw [HMl.out]; exact hlt)
              have hok := HM.out.ok t htm
              have hat := mv_o hok.1 hok.2.1 hrg
              have hcn := hat.nm
              have hcw := hat.wy
              have hsn := hok.2.2.1
              have hsw := hok.2.2.2
              have hst := mlB_take ms j (by rw [HMl.out]; exact hlt)
              rw [HF.out, ← ht, Bool.false_or] at hst
              have hyes := mlB_yes ms j (by rw [HMl.out]; exact hlt)
              rw [← ht] at hyes
              have hml : mlB t = (decide (255 < t.nm.size) || decide (65535 < t.wy.size)) := rfl
              have HSt := Lib.hid hst
              have HYes := Lib.hid hyes
              have HMd := Lib.hid hml
              have hj0 : (0 : Int) ≤ (j : Int) := by omega
              have hj1 : (j : Int) < (n : Int) := by omega
              clear hcc hrg hst hyes hml ht htm hok hat HF
              obtain ⟨nm, hnm⟩ : ∃ nm, nm = t.nm := ⟨_, rfl⟩
              obtain ⟨wy, hwy⟩ : ∃ wy, wy = t.wy := ⟨_, rfl⟩
              rw [← hnm] at hcn hsn HMd
              rw [← hwy] at hcw hsw HMd
              clear hnm hwy
              by_cases g1 : 255 < nm.size
              · have hd1 : decide ((255 : Int) < (nm.size : Int)) = true := by simp; omega
                have HE : Hid (ms.any mlB = true) := Lib.hid (HYes.out (by rw [HMd.out]; simp [g1]))
                go_wp2_with fail
                exact HPost.out true _ (by unfold rlgB; rw [HE.out]; simp) HB1.out
              · have hd1 : decide ((255 : Int) < (nm.size : Int)) = false := by simp; omega
                by_cases g2 : 65535 < wy.size
                · have hd2 : decide ((65535 : Int) < (wy.size : Int)) = true := by simp; omega
                  have HE : Hid (ms.any mlB = true) := Lib.hid (HYes.out (by rw [HMd.out]; simp [g2]))
                  go_wp2_with fail
                  exact HPost.out true _ (by unfold rlgB; rw [HE.out]; simp) HB1.out
                · have hd2 : decide ((65535 : Int) < (wy.size : Int)) = false := by simp; omega
                  have HSt2 : Hid ((ms.take (j + 1)).any mlB = false) := Lib.hid (by rw [HSt.out, HMd.out]; simp; omega)
                  go_wp2_with fail
                  go_round
                  case rel => exact ⟨j + 1, by go_num, by omega, HSt2⟩
                  case measure => simp [intOf]; omega
            · have HTd : Hid (ms.any mlB = false) := Lib.hid (by
                have h := HF.out
                rw [show j = n by omega, List.take_of_length_le (by rw [HMl.out]; exact Nat.le_refl _)] at h
                exact h)
              have hd2 : decide ((j : Int) < (n : Int)) = false := by simp; omega
              clear HF
              go_wp2_with fail
              exact HPost.out false _ (by unfold rlgB; rw [HTd.out]; simp; omega) HB1.out
  · have hsd : hd.size ≤ 140737488355327 := by omega
    by_cases g0 : 255 < hd.size
    · have hd0 : decide ((255 : Int) < (hd.size : Int)) = true := by simp; omega
      go_wp2_with fail
      exact HPost.out true _ (by unfold rlgB; simp [g0]) HB1.out
    · have hd0 : decide ((255 : Int) < (hd.size : Int)) = false := by simp; omega
      cases hs
      · go_upto_region 4 with (fail)
        clear hc0 hc1 hc3 hc4 hc5
        go_loop [3] (fun i => ∃ (j : Nat), i = .int .i64 j ∧ j ≤ n ∧ Hid ((ms.take j).any mlB = false)) (fun i => n - (intOf i).toNat)
        case atStart => exact ⟨0, rfl, Nat.zero_le _, Lib.hid rfl⟩
        case round =>
          obtain ⟨j, rfl, hj, HF⟩ := hrel
          by_cases hlt : j < n
          · obtain ⟨g, o, rfl, hgl, hcc⟩ := HM.out.rd.cell (by omega)
            obtain ⟨t, ht⟩ : ∃ t, t = ms.getD j default := ⟨_, rfl⟩
            have hrg := hcc j hlt
            rw [map_getD _ (by rw [HMl.out]; exact hlt), ← ht] at hrg
            have htm : t ∈ ms := by rw [ht]; exact getD_memI (by rw [HMl.out]; exact hlt)
            have hok := HM.out.ok t htm
            have hat := mv_o hok.1 hok.2.1 hrg
            have hcn := hat.nm
            have hcw := hat.wy
            have hsn := hok.2.2.1
            have hsw := hok.2.2.2
            have hst := mlB_take ms j (by rw [HMl.out]; exact hlt)
            rw [HF.out, ← ht, Bool.false_or] at hst
            have hyes := mlB_yes ms j (by rw [HMl.out]; exact hlt)
            rw [← ht] at hyes
            have hml : mlB t = (decide (255 < t.nm.size) || decide (65535 < t.wy.size)) := rfl
            have HSt := Lib.hid hst
            have HYes := Lib.hid hyes
            have HMd := Lib.hid hml
            have hj0 : (0 : Int) ≤ (j : Int) := by omega
            have hj1 : (j : Int) < (n : Int) := by omega
            clear hcc hrg hst hyes hml ht htm hok hat HF
            obtain ⟨nm, hnm⟩ : ∃ nm, nm = t.nm := ⟨_, rfl⟩
            obtain ⟨wy, hwy⟩ : ∃ wy, wy = t.wy := ⟨_, rfl⟩
            rw [← hnm] at hcn hsn HMd
            rw [← hwy] at hcw hsw HMd
            clear hnm hwy
            by_cases g1 : 255 < nm.size
            · have hd1 : decide ((255 : Int) < (nm.size : Int)) = true := by simp; omega
              have HE : Hid (ms.any mlB = true) := Lib.hid (HYes.out (by rw [HMd.out]; simp [g1]))
              go_wp2_with fail
              exact HPost.out true _ (by unfold rlgB; rw [HE.out]; simp) HB1.out
            · have hd1 : decide ((255 : Int) < (nm.size : Int)) = false := by simp; omega
              by_cases g2 : 65535 < wy.size
              · have hd2 : decide ((65535 : Int) < (wy.size : Int)) = true := by simp; omega
                have HE : Hid (ms.any mlB = true) := Lib.hid (HYes.out (by rw [HMd.out]; simp [g2]))
                go_wp2_with fail
                exact HPost.out true _ (by unfold rlgB; rw [HE.out]; simp) HB1.out
              · have hd2 : decide ((65535 : Int) < (wy.size : Int)) = false := by simp; omega
                have HSt2 : Hid ((ms.take (j + 1)).any mlB = false) := Lib.hid (by rw [HSt.out, HMd.out]; simp; omega)
                go_wp2_with fail
                go_round
                case rel => exact ⟨j + 1, by go_num, by omega, HSt2⟩
                case measure => simp [intOf]; omega
          · have HTd : Hid (ms.any mlB = false) := Lib.hid (by
              have h := HF.out
              rw [show j = n by omega, List.take_of_length_le (by rw [HMl.out]; exact Nat.le_refl _)] at h
              exact h)
            have hd2 : decide ((j : Int) < (n : Int)) = false := by simp; omega
            clear HF
            go_wp2_with fail
            exact HPost.out false _ (by unfold rlgB; rw [HTd.out]; simp; omega) HB1.out
      · by_cases hk : k = 0
        · have hk0 : (k != 0) = false := by simp [hk]
          have HK := Lib.hid hk
          clear hk
          go_upto_region 4 with (fail)
          clear hk0
          clear hc0 hc1 hc3 hc4 hc5
          go_loop [3] (fun i => ∃ (j : Nat), i = .int .i64 j ∧ j ≤ n ∧ Hid ((ms.take j).any mlB = false)) (fun i => n - (intOf i).toNat)
          case atStart => exact ⟨0, rfl, Nat.zero_le _, Lib.hid rfl⟩
          case round =>
            obtain ⟨j, rfl, hj, HF⟩ := hrel
            by_cases hlt : j < n
            · obtain ⟨g, o, rfl, hgl, hcc⟩ := HM.out.rd.cell (by omega)
              obtain ⟨t, ht⟩ : ∃ t, t = ms.getD j default := ⟨_, rfl⟩
              have hrg := hcc j hlt
              rw [map_getD _ (by rw [HMl.out]; exact hlt), ← ht] at hrg
              have htm : t ∈ ms := by rw [ht]; exact getD_memI (by rw [HMl.out]; exact hlt)
              have hok := HM.out.ok t htm
              have hat := mv_o hok.1 hok.2.1 hrg
              have hcn := hat.nm
              have hcw := hat.wy
              have hsn := hok.2.2.1
              have hsw := hok.2.2.2
              have hst := mlB_take ms j (by rw [HMl.out]; exact hlt)
              rw [HF.out, ← ht, Bool.false_or] at hst
              have hyes := mlB_yes ms j (by rw [HMl.out]; exact hlt)
              rw [← ht] at hyes
              have hml : mlB t = (decide (255 < t.nm.size) || decide (65535 < t.wy.size)) := rfl
              have HSt := Lib.hid hst
              have HYes := Lib.hid hyes
              have HMd := Lib.hid hml
              have hj0 : (0 : Int) ≤ (j : Int) := by omega
              have hj1 : (j : Int) < (n : Int) := by omega
              clear hcc hrg hst hyes hml ht htm hok hat HF
              obtain ⟨nm, hnm⟩ : ∃ nm, nm = t.nm := ⟨_, rfl⟩
              obtain ⟨wy, hwy⟩ : ∃ wy, wy = t.wy := ⟨_, rfl⟩
              rw [← hnm] at hcn hsn HMd
              rw [← hwy] at hcw hsw HMd
              clear hnm hwy
              by_cases g1 : 255 < nm.size
              · have hd1 : decide ((255 : Int) < (nm.size : Int)) = true := by simp; omega
                have HE : Hid (ms.any mlB = true) := Lib.hid (HYes.out (by rw [HMd.out]; simp [g1]))
                go_wp2_with fail
                exact HPost.out true _ (by unfold rlgB; rw [HE.out]; simp) HB1.out
              · have hd1 : decide ((255 : Int) < (nm.size : Int)) = false := by simp; omega
                by_cases g2 : 65535 < wy.size
                · have hd2 : decide ((65535 : Int) < (wy.size : Int)) = true := by simp; omega
                  have HE : Hid (ms.any mlB = true) := Lib.hid (HYes.out (by rw [HMd.out]; simp [g2]))
                  go_wp2_with fail
                  exact HPost.out true _ (by unfold rlgB; rw [HE.out]; simp) HB1.out
                · have hd2 : decide ((65535 : Int) < (wy.size : Int)) = false := by simp; omega
                  have HSt2 : Hid ((ms.take (j + 1)).any mlB = false) := Lib.hid (by rw [HSt.out, HMd.out]; simp; omega)
                  go_wp2_with fail
                  go_round
                  case rel => exact ⟨j + 1, by go_num, by omega, HSt2⟩
                  case measure => simp [intOf]; omega
            · have HTd : Hid (ms.any mlB = false) := Lib.hid (by
                have h := HF.out
                rw [show j = n by omega, List.take_of_length_le (by rw [HMl.out]; exact Nat.le_refl _)] at h
                exact h)
              have hd2 : decide ((j : Int) < (n : Int)) = false := by simp; omega
              clear HF
              go_wp2_with fail
              exact HPost.out false _ (by unfold rlgB; rw [HTd.out]; simp [HK.out]; omega) HB1.out
        · have hk0 : (k != 0) = true := by simp [hk]
          by_cases g3 : 255 < br.size
          · have hd3 : decide ((255 : Int) < (br.size : Int)) = true := by simp; omega
            have hse : br.size ≤ 140737488355327 := by omega
            go_wp2_with fail
            exact HPost.out true _ (by unfold rlgB; simp [hk, g3]) HB1.out
          · have hd3 : decide ((255 : Int) < (br.size : Int)) = false := by simp; omega
            have hse : br.size ≤ 140737488355327 := by omega
            clear hk
            go_upto_region 4 with (fail)
            clear hk0 hd3 hse
            clear hc0 hc1 hc3 hc4 hc5
            go_loop [3] (fun i => ∃ (j : Nat), i = .int .i64 j ∧ j ≤ n ∧ Hid ((ms.take j).any mlB = false)) (fun i => n - (intOf i).toNat)
            case atStart => exact ⟨0, rfl, Nat.zero_le _, Lib.hid rfl⟩
            case round =>
              obtain ⟨j, rfl, hj, HF⟩ := hrel
              by_cases hlt : j < n
              · obtain ⟨g, o, rfl, hgl, hcc⟩ := HM.out.rd.cell (by omega)
                obtain ⟨t, ht⟩ : ∃ t, t = ms.getD j default := ⟨_, rfl⟩
                have hrg := hcc j hlt
                rw [map_getD _ (by rw [HMl.out]; exact hlt), ← ht] at hrg
                have htm : t ∈ ms := by rw [ht]; exact getD_memI (by rw [HMl.out]; exact hlt)
                have hok := HM.out.ok t htm
                have hat := mv_o hok.1 hok.2.1 hrg
                have hcn := hat.nm
                have hcw := hat.wy
                have hsn := hok.2.2.1
                have hsw := hok.2.2.2
                have hst := mlB_take ms j (by rw [HMl.out]; exact hlt)
                rw [HF.out, ← ht, Bool.false_or] at hst
                have hyes := mlB_yes ms j (by rw [HMl.out]; exact hlt)
                rw [← ht] at hyes
                have hml : mlB t = (decide (255 < t.nm.size) || decide (65535 < t.wy.size)) := rfl
                have HSt := Lib.hid hst
                have HYes := Lib.hid hyes
                have HMd := Lib.hid hml
                have hj0 : (0 : Int) ≤ (j : Int) := by omega
                have hj1 : (j : Int) < (n : Int) := by omega
                clear hcc hrg hst hyes hml ht htm hok hat HF
                obtain ⟨nm, hnm⟩ : ∃ nm, nm = t.nm := ⟨_, rfl⟩
                obtain ⟨wy, hwy⟩ : ∃ wy, wy = t.wy := ⟨_, rfl⟩
                rw [← hnm] at hcn hsn HMd
                rw [← hwy] at hcw hsw HMd
                clear hnm hwy
                by_cases g1 : 255 < nm.size
                · have hd1 : decide ((255 : Int) < (nm.size : Int)) = true := by simp; omega
                  have HE : Hid (ms.any mlB = true) := Lib.hid (HYes.out (by rw [HMd.out]; simp [g1]))
                  go_wp2_with fail
                  exact HPost.out true _ (by unfold rlgB; rw [HE.out]; simp) HB1.out
                · have hd1 : decide ((255 : Int) < (nm.size : Int)) = false := by simp; omega
                  by_cases g2 : 65535 < wy.size
                  · have hd2 : decide ((65535 : Int) < (wy.size : Int)) = true := by simp; omega
                    have HE : Hid (ms.any mlB = true) := Lib.hid (HYes.out (by rw [HMd.out]; simp [g2]))
                    go_wp2_with fail
                    exact HPost.out true _ (by unfold rlgB; rw [HE.out]; simp) HB1.out
                  · have hd2 : decide ((65535 : Int) < (wy.size : Int)) = false := by simp; omega
                    have HSt2 : Hid ((ms.take (j + 1)).any mlB = false) := Lib.hid (by rw [HSt.out, HMd.out]; simp; omega)
                    go_wp2_with fail
                    go_round
                    case rel => exact ⟨j + 1, by go_num, by omega, HSt2⟩
                    case measure => simp [intOf]; omega
              · have HTd : Hid (ms.any mlB = false) := Lib.hid (by
                  have h := HF.out
                  rw [show j = n by omega, List.take_of_length_le (by rw [HMl.out]; exact Nat.le_refl _)] at h
                  exact h)
                have hd2 : decide ((j : Int) < (n : Int)) = false := by simp; omega
                clear HF
                go_wp2_with fail
                exact HPost.out false _ (by unfold rlgB; rw [HTd.out]; simp; omega) HB1.out
end Go.Proofs.Ytmcmapgllaopmaa.Cd
end
