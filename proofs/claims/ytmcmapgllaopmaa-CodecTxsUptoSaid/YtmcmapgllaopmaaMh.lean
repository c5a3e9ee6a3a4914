/- Texts of one's own, merged: CdRSTx. -/
import Derived.Test.YtmcmapgllaopmaaMg

section
namespace Go.Proofs.Ytmcmapgllaopmaa.Cd
open Go.RowKit
set_option linter.unusedVariables false
theorem sx_hs (a b : SqD) (hs : Bool) : sqEq (a.ask hs) (b.ask hs) = (!hs || sqEq (a.ask true) (b.ask true)) := by
  cases hs
  · have e : ∀ s : SqD, s.ask false = SqD.zero := fun s => by unfold SqD.ask; rw [if_neg (by simp)]
    rw [e, e]
    simp [sqEq, sEq, SqD.zero, eqL]
  · rfl
theorem sx_hh (hh : Bool) (a b : ByteArray) : sEq (akH hh a) (akH hh b) = (!hh || (a.toList == b.toList)) := by
  cases hh
  · simp [sEq, akH]
  · simp [sEq, akH]
theorem sx_form (hh : Bool) (hd1 hd2 : ByteArray) (ms1 ms2 : List Mv) (hs : Bool) (q1 q2 : SqD) (ys1 ys2 : List My) : sxEq ⟨hh, hd1, ms1, hs, q1, ys1⟩ ⟨hh, hd2, ms2, hs, q2, ys2⟩ = ((!hh || (hd1.toList == hd2.toList)) && (eqL mvEq ms1 ms2 && ((!hs || sqEq (q1.ask true) (q2.ask true)) && eqL myEq ys1 ys2))) := by
  unfold sxEq
  rw [sx_hs, sx_hh]
  simp only [beq_self_eq_true, Bool.true_and]
set_option maxRecDepth 100000 in
set_option maxHeartbeats 16000000 in
theorem rsameTx_any (G : Nat) (hh1 : Bool) (hd1 : ByteArray) (A1 : Option Addr) (n1 C1 : Nat) (ms1 : List Mv) (hs1 : Bool) (k1 : Int) (br1 : ByteArray) (og1 cu1 : List Int) (At1 : Option Addr) (nt1 Ct1 : Nat) (ts1 : List Td) (dn1 md1 : Int) (st1 : Bool) (Am1 : Option Addr) (m1 Cm1 : Nat) (ys1 : List My) (hh2 : Bool) (hd2 : ByteArray) (A2 : Option Addr) (n2 C2 : Nat) (ms2 : List Mv) (hs2 : Bool) (k2 : Int) (br2 : ByteArray) (og2 cu2 : List Int) (At2 : Option Addr) (nt2 Ct2 : Nat) (ts2 : List Td) (dn2 md2 : Int) (st2 : Bool) (Am2 : Option Addr) (m2 Cm2 : Nat) (ys2 : List My) (w : World)
    (ho1 : IdOk og1) (hc1 : IdOk cu1) (hM1 : RdM G w A1 n1 C1 ms1) (hT1 : RdT G w At1 nt1 Ct1 ts1) (hY1 : RdY G w Am1 m1 Cm1 ys1) (hn1 : n1 ≤ 1000000000) (hm1 : m1 ≤ 1000000000) (hnt1 : nt1 ≤ 1000000000) (ho2 : IdOk og2) (hc2 : IdOk cu2) (hM2 : RdM G w A2 n2 C2 ms2) (hT2 : RdT G w At2 nt2 Ct2 ts2) (hY2 : RdY G w Am2 m2 Cm2 ys2) (hn2 : n2 ≤ 1000000000) (hm2 : m2 ≤ 1000000000) (hnt2 : nt2 ≤ 1000000000) (hG : G ≤ w.heap.size) :
    Calls Try.prog 33 #[.agg (txV hh1 hd1 (.slice A1 n1 C1) hs1 (sqV k1 br1 og1 cu1 (.slice At1 nt1 Ct1) dn1 md1 st1) (.slice Am1 m1 Cm1)).toArray, .agg (txV hh2 hd2 (.slice A2 n2 C2) hs2 (sqV k2 br2 og2 cu2 (.slice At2 nt2 Ct2) dn2 md2 st2) (.slice Am2 m2 Cm2)).toArray] w fun e w' => e = .returned (.bool (sxEq ⟨hh1, hd1, ms1, hs1, ⟨k1, br1, og1, cu1, ts1, dn1, md1, st1⟩, ys1⟩ ⟨hh2, hd2, ms2, hs2, ⟨k2, br2, og2, cu2, ts2, dn2, md2, st2⟩, ys2⟩)) ∧ Below w.heap.size w w' := by
  have hql1 := sqV_len (k := k1) (br := br1) (td := Value.slice At1 nt1 Ct1) (dn := dn1) (md := md1) (st := st1) ho1.1 hc1.1
  have hxl1 := txV_len (hh := hh1) (hd := hd1) (mv := .slice A1 n1 C1) (hs := hs1) (mm := .slice Am1 m1 Cm1) hql1
  have HL1 : Hid (ms1.length = n1) := Lib.hid (by have := hM1.rd.len; simpa using this)
  have HLy1 : Hid (ys1.length = m1) := Lib.hid (by have := hY1.rd.len; simpa using this)
  have hcapa1 := hM1.rd.cap
  have hmaxa1 := hM1.rd.max
  have hcapb1 := hY1.rd.cap
  have hmaxb1 := hY1.rd.max
  have hql2 := sqV_len (k := k2) (br := br2) (td := Value.slice At2 nt2 Ct2) (dn := dn2) (md := md2) (st := st2) ho2.1 hc2.1
  have hxl2 := txV_len (hh := hh2) (hd := hd2) (mv := .slice A2 n2 C2) (hs := hs2) (mm := .slice Am2 m2 Cm2) hql2
  have HL2 : Hid (ms2.length = n2) := Lib.hid (by have := hM2.rd.len; simpa using this)
  have HLy2 : Hid (ys2.length = m2) := Lib.hid (by have := hY2.rd.len; simpa using this)
  have hcapa2 := hM2.rd.cap
  have hmaxa2 := hM2.rd.max
  have hcapb2 := hY2.rd.cap
  have hmaxb2 := hY2.rd.max
  have hb1 := (Below.refl w.heap.size w).alloc (Nat.le_refl _) (.cells (txV hh1 hd1 (.slice A1 n1 C1) hs1 (sqV k1 br1 og1 cu1 (.slice At1 nt1 Ct1) dn1 md1 st1) (.slice Am1 m1 Cm1)).toArray 68)
  have hr1 := row_newL w (txV hh1 hd1 (.slice A1 n1 C1) hs1 (sqV k1 br1 og1 cu1 (.slice At1 nt1 Ct1) dn1 md1 st1) (.slice Am1 m1 Cm1)) 68 75 hxl1
  have hX1 : (w.alloc (.cells (txV hh1 hd1 (.slice A1 n1 C1) hs1 (sqV k1 br1 og1 cu1 (.slice At1 nt1 Ct1) dn1 md1 st1) (.slice Am1 m1 Cm1)).toArray 68)).heap.size = w.heap.size + 1 := by show (w.heap.push _).size = _; simp
  have hb2 := hb1.alloc (al_le w _) (.cells (txV hh2 hd2 (.slice A2 n2 C2) hs2 (sqV k2 br2 og2 cu2 (.slice At2 nt2 Ct2) dn2 md2 st2) (.slice Am2 m2 Cm2)).toArray 68)
  have hr1b := World.rowIs.alloc hr1 (.cells (txV hh2 hd2 (.slice A2 n2 C2) hs2 (sqV k2 br2 og2 cu2 (.slice At2 nt2 Ct2) dn2 md2 st2) (.slice Am2 m2 Cm2)).toArray 68)
  have hr2 := row_newL (w.alloc (.cells (txV hh1 hd1 (.slice A1 n1 C1) hs1 (sqV k1 br1 og1 cu1 (.slice At1 nt1 Ct1) dn1 md1 st1) (.slice Am1 m1 Cm1)).toArray 68)) (txV hh2 hd2 (.slice A2 n2 C2) hs2 (sqV k2 br2 og2 cu2 (.slice At2 nt2 Ct2) dn2 md2 st2) (.slice Am2 m2 Cm2)) 68 75 hxl2
  rw [hX1] at hr2
  have HB := Lib.hid hb2
  have HA := Lib.hid (tx_at hql1 (row_range hr1b hxl1))
  have HA' := Lib.hid (tx_at hql2 (row_range hr2 hxl2))
  have hXl := hr1b.lt
  have hXl' := hr2.lt
  have HSq1 : Hid ((Try.prog.info? 65).map (·.size) = some (sqV k1 br1 og1 cu1 (.slice At1 nt1 Ct1) dn1 md1 st1).length) := Lib.hid (by rw [hql1]; exact infoSq)
  have HSq2 : Hid ((Try.prog.info? 65).map (·.size) = some (sqV k2 br2 og2 cu2 (.slice At2 nt2 Ct2) dn2 md2 st2).length) := Lib.hid (by rw [hql2]; exact infoSq)
  have HM1 := Lib.hid (hM1.below hb2 hG)
  have HM2 := Lib.hid (hM2.below hb2 hG)
  have HY1 := Lib.hid (hY1.below hb2 (Nat.le_refl _) hG)
  have HY2 := Lib.hid (hY2.below hb2 (Nat.le_refl _) hG)
  have HEs : Hid (∀ W : World, Below w.heap.size w W → Calls Try.prog 76 #[.agg (sqV k1 br1 og1 cu1 (.slice At1 nt1 Ct1) dn1 md1 st1).toArray, .agg (sqV k2 br2 og2 cu2 (.slice At2 nt2 Ct2) dn2 md2 st2).toArray] W fun e w' => e = .returned (.bool (sqEq ((⟨k1, br1, og1, cu1, ts1, dn1, md1, st1⟩ : SqD).ask true) ((⟨k2, br2, og2, cu2, ts2, dn2, md2, st2⟩ : SqD).ask true))) ∧ Below W.heap.size W w') := Lib.hid (fun W hb => rsameSeq_any G k1 br1 og1 cu1 At1 nt1 Ct1 ts1 dn1 md1 st1 k2 br2 og2 cu2 At2 nt2 Ct2 ts2 dn2 md2 st2 W ho1.1 hc1.1 (hT1.below hb hG) hnt1 ho2.1 hc2.1 (hT2.below hb hG) hnt2 (Nat.le_trans hG hb.size))
  have HQx : Hid (hh1 = hh2 → hs1 = hs2 → sxEq ⟨hh1, hd1, ms1, hs1, ⟨k1, br1, og1, cu1, ts1, dn1, md1, st1⟩, ys1⟩ ⟨hh2, hd2, ms2, hs2, ⟨k2, br2, og2, cu2, ts2, dn2, md2, st2⟩, ys2⟩ = ((!hh1 || (hd1.toList == hd2.toList)) && (eqL mvEq ms1 ms2 && ((!hs1 || sqEq ((⟨k1, br1, og1, cu1, ts1, dn1, md1, st1⟩ : SqD).ask true) ((⟨k2, br2, og2, cu2, ts2, dn2, md2, st2⟩ : SqD).ask true)) && eqL myEq ys1 ys2)))) := Lib.hid (fun h1 h2 => by subst h1 h2; exact sx_form _ _ _ _ _ _ _ _ _ _)
  have HQh : Hid (hh1 ≠ hh2 → sxEq ⟨hh1, hd1, ms1, hs1, ⟨k1, br1, og1, cu1, ts1, dn1, md1, st1⟩, ys1⟩ ⟨hh2, hd2, ms2, hs2, ⟨k2, br2, og2, cu2, ts2, dn2, md2, st2⟩, ys2⟩ = false) := Lib.hid (fun h => by unfold sxEq; rw [beq_eq_false_iff_ne.2 h]; rfl)
  have HQs : Hid (hs1 ≠ hs2 → sxEq ⟨hh1, hd1, ms1, hs1, ⟨k1, br1, og1, cu1, ts1, dn1, md1, st1⟩, ys1⟩ ⟨hh2, hd2, ms2, hs2, ⟨k2, br2, og2, cu2, ts2, dn2, md2, st2⟩, ys2⟩ = false) := Lib.hid (fun h => by unfold sxEq; rw [beq_eq_false_iff_ne.2 h]; simp)
  have HPost : Hid (∀ (b : Bool) (w' : World), b = sxEq ⟨hh1, hd1, ms1, hs1, ⟨k1, br1, og1, cu1, ts1, dn1, md1, st1⟩, ys1⟩ ⟨hh2, hd2, ms2, hs2, ⟨k2, br2, og2, cu2, ts2, dn2, md2, st2⟩, ys2⟩ → Below w.heap.size w w' → ((fun e w' => e = Ending.returned (.bool (sxEq ⟨hh1, hd1, ms1, hs1, ⟨k1, br1, og1, cu1, ts1, dn1, md1, st1⟩, ys1⟩ ⟨hh2, hd2, ms2, hs2, ⟨k2, br2, og2, cu2, ts2, dn2, md2, st2⟩, ys2⟩)) ∧ Below w.heap.size w w') (Ending.returned (.bool b)) w')) := Lib.hid (fun b w' e hb => by subst e; exact ⟨rfl, hb⟩)
  generalize hPD : (fun e w' => e = Ending.returned (.bool (sxEq ⟨hh1, hd1, ms1, hs1, ⟨k1, br1, og1, cu1, ts1, dn1, md1, st1⟩, ys1⟩ ⟨hh2, hd2, ms2, hs2, ⟨k2, br2, og2, cu2, ts2, dn2, md2, st2⟩, ys2⟩)) ∧ Below w.heap.size w w') = PO at *
  generalize sxEq ⟨hh1, hd1, ms1, hs1, ⟨k1, br1, og1, cu1, ts1, dn1, md1, st1⟩, ys1⟩ ⟨hh2, hd2, ms2, hs2, ⟨k2, br2, og2, cu2, ts2, dn2, md2, st2⟩, ys2⟩ = SX at *
  generalize sqEq ((⟨k1, br1, og1, cu1, ts1, dn1, md1, st1⟩ : SqD).ask true) ((⟨k2, br2, og2, cu2, ts2, dn2, md2, st2⟩ : SqD).ask true) = b4 at *
  generalize hCA : txV hh1 hd1 (.slice A1 n1 C1) hs1 (sqV k1 br1 og1 cu1 (.slice At1 nt1 Ct1) dn1 md1 st1) (.slice Am1 m1 Cm1) = CA at *
  generalize hCB : txV hh2 hd2 (.slice A2 n2 C2) hs2 (sqV k2 br2 og2 cu2 (.slice At2 nt2 Ct2) dn2 md2 st2) (.slice Am2 m2 Cm2) = CB at *
  generalize sqV k1 br1 og1 cu1 (.slice At1 nt1 Ct1) dn1 md1 st1 = S1 at *
  generalize sqV k2 br2 og2 cu2 (.slice At2 nt2 Ct2) dn2 md2 st2 = S2 at *
  clear hPD hCA hCB hM1 hM2 hT1 hT2 hY1 hY2 ho1 ho2 hc1 hc2 hql1 hql2 hxl1 hxl2 hb1 hb2 hr1 hr1b hr2 hX1
  go_enter Try.func33, Try.ntmps33
  go_upto_region 1 with (fail)
  generalize (w.alloc (.cells CA.toArray 68)).alloc (.cells CB.toArray 68) = wA at *
  have hsw : w.heap.size ≤ wA.heap.size := HB.out.size
  have HBs := Lib.hid (HEs.out wA HB.out)
  obtain ⟨X, hX⟩ : ∃ X, X = w.heap.size := ⟨_, rfl⟩
  obtain ⟨Y, hY⟩ : ∃ Y, Y = w.heap.size + 1 := ⟨_, rfl⟩
  rw [← hY] at HA' hXl' ⊢
  rw [← hX] at HA hXl ⊢
  clear hX hY HEs
  have hh1c := HA.out.c0
  have hh2c := HA'.out.c0
  have hd1c := HA.out.c1
  have hd2c := HA'.out.c1
  have hs1c := HA.out.c3
  have hs2c := HA'.out.c3
  have hm1c := HA.out.c2
  have hm2c := HA'.out.c2
  have hy1c := HA.out.mm
  have hy2c := HA'.out.mm
  have HR1 := Lib.hid HA.out.sq
  have HR2 := Lib.hid HA'.out.sq
  have HMc := Lib.hid (And.intro hm1c hm2c)
  have HYc := Lib.hid (And.intro hy1c hy2c)
  clear HA HA'
  go_cut [59] (fun s59 wx => ∃ r : Bool, s59 = .bool r ∧ Hid (r = true → SX = false) ∧ Hid (r = false → n1 = n2 ∧ m1 = m2 ∧ SX = (eqL mvEq ms1 ms2 && eqL myEq ys1 ys2)) ∧ Hid (Below wA.heap.size wA wx))
  case first =>
    cases hh1
    · cases hh2
      · skip
        cases hs1
        · cases hs2
          · skip
            by_cases hl : n1 = n2
            rotate_left
            · have hd : ((n1 : Int) != (n2 : Int)) = true := by simp; omega
              have HE : Hid (eqL mvEq ms1 ms2 = false) := Lib.hid (eqL_len (by rw [HL1.out, HL2.out]; exact hl))
              have HQe : Hid (SX = (eqL mvEq ms1 ms2 && eqL myEq ys1 ys2)) := Lib.hid (by rw [HQx.out rfl rfl]; simp)
              clear hl
              go_wp2_with fail
              go_meet
              exact ⟨true, rfl, Lib.hid (fun _ => by rw [HQe.out, HE.out]; simp), Lib.hid (fun h => by cases h), Lib.hid (Below.refl _ _)⟩
            have hd : ((n1 : Int) != (n2 : Int)) = false := by simp; omega
            by_cases hl2 : m1 = m2
            rotate_left
            · have hd2 : ((m1 : Int) != (m2 : Int)) = true := by simp; omega
              have HE : Hid (eqL myEq ys1 ys2 = false) := Lib.hid (eqL_len (by rw [HLy1.out, HLy2.out]; exact hl2))
              have HQe : Hid (SX = (eqL mvEq ms1 ms2 && eqL myEq ys1 ys2)) := Lib.hid (by rw [HQx.out rfl rfl]; simp)
              clear hl hl2
              go_wp2_with fail
              go_meet
              exact ⟨true, rfl, Lib.hid (fun _ => by rw [HQe.out, HE.out]; simp), Lib.hid (fun h => by cases h), Lib.hid (Below.refl _ _)⟩
            have hd2 : ((m1 : Int) != (m2 : Int)) = false := by simp; omega
            have HQe : Hid (SX = (eqL mvEq ms1 ms2 && eqL myEq ys1 ys2)) := Lib.hid (by rw [HQx.out rfl rfl]; simp)
            have HLL := Lib.hid (And.intro hl hl2)
            clear hl hl2
            go_wp2_with fail
            go_meet
            exact ⟨false, rfl, Lib.hid (fun h => by cases h), Lib.hid (fun _ => ⟨HLL.out.1, HLL.out.2, HQe.out⟩), Lib.hid (Below.refl _ _)⟩
          · skip
            go_wp2_with fail
            go_meet
            exact ⟨true, rfl, Lib.hid (fun _ => HQs.out (by decide)), Lib.hid (fun h => by cases h), Lib.hid (Below.refl _ _)⟩
        · cases hs2
          · skip
            go_wp2_with fail
            go_meet
            exact ⟨true, rfl, Lib.hid (fun _ => HQs.out (by decide)), Lib.hid (fun h => by cases h), Lib.hid (Below.refl _ _)⟩
          · cases b4
            · have HQe : Hid (SX = false) := Lib.hid (by rw [HQx.out rfl rfl]; simp)
              go_wp2_with (refine wpList_load_stop (by rfl) _ _ rfl X 4 rfl S1 _ HR1.out Try.underlying65 rfl HSq1.out ?_)
              intro c hc
              obtain rfl := hc.out
              go_wp2_with (refine wpList_load_stop (by rfl) _ _ rfl Y 4 rfl S2 _ HR2.out Try.underlying65 rfl HSq2.out ?_)
              intro c hc
              obtain rfl := hc.out
              go_wp2_with fail
              refine HBs.out.mono ?_
              rintro e w2 ⟨rfl, hb⟩
              have HB2 := Lib.hid hb
              have hm1d : w2.cell? ⟨X, 2, none⟩ = some (.slice A1 n1 C1) := (hb.cell (p := ⟨X, 2, none⟩) hXl).trans HMc.out.1
              have hm2d : w2.cell? ⟨Y, 2, none⟩ = some (.slice A2 n2 C2) := (hb.cell (p := ⟨Y, 2, none⟩) hXl').trans HMc.out.2
              have hy1d : w2.cell? ⟨X, 74, none⟩ = some (.slice Am1 m1 Cm1) := (hb.cell (p := ⟨X, 74, none⟩) hXl).trans HYc.out.1
              have hy2d : w2.cell? ⟨Y, 74, none⟩ = some (.slice Am2 m2 Cm2) := (hb.cell (p := ⟨Y, 74, none⟩) hXl').trans HYc.out.2
              clear hb HBs
              go_wp2_with fail
              go_meet
              exact ⟨true, rfl, Lib.hid (fun _ => HQe.out), Lib.hid (fun h => by cases h), HB2⟩
            · skip
              by_cases hl : n1 = n2
              rotate_left
              · have hd : ((n1 : Int) != (n2 : Int)) = true := by simp; omega
                have HE : Hid (eqL mvEq ms1 ms2 = false) := Lib.hid (eqL_len (by rw [HL1.out, HL2.out]; exact hl))
                have HQe : Hid (SX = (eqL mvEq ms1 ms2 && eqL myEq ys1 ys2)) := Lib.hid (by rw [HQx.out rfl rfl]; simp)
                clear hl
                go_wp2_with (refine wpList_load_stop (by rfl) _ _ rfl X 4 rfl S1 _ HR1.out Try.underlying65 rfl HSq1.out ?_)
                intro c hc
                obtain rfl := hc.out
                go_wp2_with (refine wpList_load_stop (by rfl) _ _ rfl Y 4 rfl S2 _ HR2.out Try.underlying65 rfl HSq2.out ?_)
                intro c hc
                obtain rfl := hc.out
                go_wp2_with fail
                refine HBs.out.mono ?_
                rintro e w2 ⟨rfl, hb⟩
                have HB2 := Lib.hid hb
                have hm1d : w2.cell? ⟨X, 2, none⟩ = some (.slice A1 n1 C1) := (hb.cell (p := ⟨X, 2, none⟩) hXl).trans HMc.out.1
                have hm2d : w2.cell? ⟨Y, 2, none⟩ = some (.slice A2 n2 C2) := (hb.cell (p := ⟨Y, 2, none⟩) hXl').trans HMc.out.2
                have hy1d : w2.cell? ⟨X, 74, none⟩ = some (.slice Am1 m1 Cm1) := (hb.cell (p := ⟨X, 74, none⟩) hXl).trans HYc.out.1
                have hy2d : w2.cell? ⟨Y, 74, none⟩ = some (.slice Am2 m2 Cm2) := (hb.cell (p := ⟨Y, 74, none⟩) hXl').trans HYc.out.2
                clear hb HBs
                go_wp2_with fail
                go_meet
                exact ⟨true, rfl, Lib.hid (fun _ => by rw [HQe.out, HE.out]; simp), Lib.hid (fun h => by cases h), HB2⟩
              have hd : ((n1 : Int) != (n2 : Int)) = false := by simp; omega
              by_cases hl2 : m1 = m2
              rotate_left
              · have hd2 : ((m1 : Int) != (m2 : Int)) = true := by simp; omega
                have HE : Hid (eqL myEq ys1 ys2 = false) := Lib.hid (eqL_len (by rw [HLy1.out, HLy2.out]; exact hl2))
                have HQe : Hid (SX = (eqL mvEq ms1 ms2 && eqL myEq ys1 ys2)) := Lib.hid (by rw [HQx.out rfl rfl]; simp)
                clear hl hl2
                go_wp2_with (refine wpList_load_stop (by rfl) _ _ rfl X 4 rfl S1 _ HR1.out Try.underlying65 rfl HSq1.out ?_)
                intro c hc
                obtain rfl := hc.out
                go_wp2_with (refine wpList_load_stop (by rfl) _ _ rfl Y 4 rfl S2 _ HR2.out Try.underlying65 rfl HSq2.out ?_)
                intro c hc
                obtain rfl := hc.out
                go_wp2_with fail
                refine HBs.out.mono ?_
                rintro e w2 ⟨rfl, hb⟩
                have HB2 := Lib.hid hb
                have hm1d : w2.cell? ⟨X, 2, none⟩ = some (.slice A1 n1 C1) := (hb.cell (p := ⟨X, 2, none⟩) hXl).trans HMc.out.1
                have hm2d : w2.cell? ⟨Y, 2, none⟩ = some (.slice A2 n2 C2) := (hb.cell (p := ⟨Y, 2, none⟩) hXl').trans HMc.out.2
                have hy1d : w2.cell? ⟨X, 74, none⟩ = some (.slice Am1 m1 Cm1) := (hb.cell (p := ⟨X, 74, none⟩) hXl).trans HYc.out.1
                have hy2d : w2.cell? ⟨Y, 74, none⟩ = some (.slice Am2 m2 Cm2) := (hb.cell (p := ⟨Y, 74, none⟩) hXl').trans HYc.out.2
                clear hb HBs
                go_wp2_with fail
                go_meet
                exact ⟨true, rfl, Lib.hid (fun _ => by rw [HQe.out, HE.out]; simp), Lib.hid (fun h => by cases h), HB2⟩
              have hd2 : ((m1 : Int) != (m2 : Int)) = false := by simp; omega
              have HQe : Hid (SX = (eqL mvEq ms1 ms2 && eqL myEq ys1 ys2)) := Lib.hid (by rw [HQx.out rfl rfl]; simp)
              have HLL := Lib.hid (And.intro hl hl2)
              clear hl hl2
              go_wp2_with (refine wpList_load_stop (by rfl) _ _ rfl X 4 rfl S1 _ HR1.out Try.underlying65 rfl HSq1.out ?_)
              intro c hc
              obtain rfl := hc.out
              go_wp2_with (refine wpList_load_stop (by rfl) _ _ rfl Y 4 rfl S2 _ HR2.out Try.underlying65 rfl HSq2.out ?_)
              intro c hc
              obtain rfl := hc.out
              go_wp2_with fail
              refine HBs.out.mono ?_
              rintro e w2 ⟨rfl, hb⟩
              have HB2 := Lib.hid hb
              have hm1d : w2.cell? ⟨X, 2, none⟩ = some (.slice A1 n1 C1) := (hb.cell (p := ⟨X, 2, none⟩) hXl).trans HMc.out.1
              have hm2d : w2.cell? ⟨Y, 2, none⟩ = some (.slice A2 n2 C2) := (hb.cell (p := ⟨Y, 2, none⟩) hXl').trans HMc.out.2
              have hy1d : w2.cell? ⟨X, 74, none⟩ = some (.slice Am1 m1 Cm1) := (hb.cell (p := ⟨X, 74, none⟩) hXl).trans HYc.out.1
              have hy2d : w2.cell? ⟨Y, 74, none⟩ = some (.slice Am2 m2 Cm2) := (hb.cell (p := ⟨Y, 74, none⟩) hXl').trans HYc.out.2
              clear hb HBs
              go_wp2_with fail
              go_meet
              exact ⟨false, rfl, Lib.hid (fun h => by cases h), Lib.hid (fun _ => ⟨HLL.out.1, HLL.out.2, HQe.out⟩), HB2⟩
      · skip
        go_wp2_with fail
        go_meet
        exact ⟨true, rfl, Lib.hid (fun _ => HQh.out (by decide)), Lib.hid (fun h => by cases h), Lib.hid (Below.refl _ _)⟩
    · cases hh2
      · skip
        go_wp2_with fail
        go_meet
        exact ⟨true, rfl, Lib.hid (fun _ => HQh.out (by decide)), Lib.hid (fun h => by cases h), Lib.hid (Below.refl _ _)⟩
      · by_cases h2 : (hd1.toList == hd2.toList) = true
        rotate_left
        · have h2f : (hd1.toList == hd2.toList) = false := by simpa using h2
          have h2n : (hd1.toList != hd2.toList) = true := by simp [bne, h2f]
          have HQe : Hid (hs1 = hs2 → SX = false) := Lib.hid (fun h => by rw [HQx.out rfl h, h2f]; simp)
          have HQe2 : Hid (SX = false) := Lib.hid (by
            by_cases h : hs1 = hs2
            · exact HQe.out h
            · exact HQs.out h)
          clear h2
          go_wp2_with fail
          go_meet
          exact ⟨true, rfl, Lib.hid (fun _ => HQe2.out), Lib.hid (fun h => by cases h), Lib.hid (Below.refl _ _)⟩
        have h2n : (hd1.toList != hd2.toList) = false := by simp [bne, h2]
        cases hs1
        · cases hs2
          · skip
            by_cases hl : n1 = n2
            rotate_left
            · have hd : ((n1 : Int) != (n2 : Int)) = true := by simp; omega
              have HE : Hid (eqL mvEq ms1 ms2 = false) := Lib.hid (eqL_len (by rw [HL1.out, HL2.out]; exact hl))
              have HQe : Hid (SX = (eqL mvEq ms1 ms2 && eqL myEq ys1 ys2)) := Lib.hid (by rw [HQx.out rfl rfl]; simp [h2])
              clear hl
              go_wp2_with fail
              go_meet
              exact ⟨true, rfl, Lib.hid (fun _ => by rw [HQe.out, HE.out]; simp), Lib.hid (fun h => by cases h), Lib.hid (Below.refl _ _)⟩
            have hd : ((n1 : Int) != (n2 : Int)) = false := by simp; omega
            by_cases hl2 : m1 = m2
            rotate_left
            · have hd2 : ((m1 : Int) != (m2 : Int)) = true := by simp; omega
              have HE : Hid (eqL myEq ys1 ys2 = false) := Lib.hid (eqL_len (by rw [HLy1.out, HLy2.out]; exact hl2))
              have HQe : Hid (SX = (eqL mvEq ms1 ms2 && eqL myEq ys1 ys2)) := Lib.hid (by rw [HQx.out rfl rfl]; simp [h2])
              clear hl hl2
              go_wp2_with fail
              go_meet
              exact ⟨true, rfl, Lib.hid (fun _ => by rw [HQe.out, HE.out]; simp), Lib.hid (fun h => by cases h), Lib.hid (Below.refl _ _)⟩
            have hd2 : ((m1 : Int) != (m2 : Int)) = false := by simp; omega
            have HQe : Hid (SX = (eqL mvEq ms1 ms2 && eqL myEq ys1 ys2)) := Lib.hid (by rw [HQx.out rfl rfl]; simp [h2])
            have HLL := Lib.hid (And.intro hl hl2)
            clear hl hl2
            go_wp2_with fail
            go_meet
            exact ⟨false, rfl, Lib.hid (fun h => by cases h), Lib.hid (fun _ => ⟨HLL.out.1, HLL.out.2, HQe.out⟩), Lib.hid (Below.refl _ _)⟩
          · skip
            go_wp2_with fail
            go_meet
            exact ⟨true, rfl, Lib.hid (fun _ => HQs.out (by decide)), Lib.hid (fun h => by cases h), Lib.hid (Below.refl _ _)⟩
        · cases hs2
          · skip
            go_wp2_with fail
            go_meet
            exact ⟨true, rfl, Lib.hid (fun _ => HQs.out (by decide)), Lib.hid (fun h => by cases h), Lib.hid (Below.refl _ _)⟩
          · cases b4
            · have HQe : Hid (SX = false) := Lib.hid (by rw [HQx.out rfl rfl]; simp)
              go_wp2_with (refine wpList_load_stop (by rfl) _ _ rfl X 4 rfl S1 _ HR1.out Try.underlying65 rfl HSq1.out ?_)
              intro c hc
              obtain rfl := hc.out
              go_wp2_with (refine wpList_load_stop (by rfl) _ _ rfl Y 4 rfl S2 _ HR2.out Try.underlying65 rfl HSq2.out ?_)
              intro c hc
              obtain rfl := hc.out
              go_wp2_with fail
              refine HBs.out.mono ?_
              rintro e w2 ⟨rfl, hb⟩
              have HB2 := Lib.hid hb
              have hm1d : w2.cell? ⟨X, 2, none⟩ = some (.slice A1 n1 C1) := (hb.cell (p := ⟨X, 2, none⟩) hXl).trans HMc.out.1
              have hm2d : w2.cell? ⟨Y, 2, none⟩ = some (.slice A2 n2 C2) := (hb.cell (p := ⟨Y, 2, none⟩) hXl').trans HMc.out.2
              have hy1d : w2.cell? ⟨X, 74, none⟩ = some (.slice Am1 m1 Cm1) := (hb.cell (p := ⟨X, 74, none⟩) hXl).trans HYc.out.1
              have hy2d : w2.cell? ⟨Y, 74, none⟩ = some (.slice Am2 m2 Cm2) := (hb.cell (p := ⟨Y, 74, none⟩) hXl').trans HYc.out.2
              clear hb HBs
              go_wp2_with fail
              go_meet
              exact ⟨true, rfl, Lib.hid (fun _ => HQe.out), Lib.hid (fun h => by cases h), HB2⟩
            · skip
              by_cases hl : n1 = n2
              rotate_left
              · have hd : ((n1 : Int) != (n2 : Int)) = true := by simp; omega
                have HE : Hid (eqL mvEq ms1 ms2 = false) := Lib.hid (eqL_len (by rw [HL1.out, HL2.out]; exact hl))
                have HQe : Hid (SX = (eqL mvEq ms1 ms2 && eqL myEq ys1 ys2)) := Lib.hid (by rw [HQx.out rfl rfl]; simp [h2])
                clear hl
                go_wp2_with (refine wpList_load_stop (by rfl) _ _ rfl X 4 rfl S1 _ HR1.out Try.underlying65 rfl HSq1.out ?_)
                intro c hc
                obtain rfl := hc.out
                go_wp2_with (refine wpList_load_stop (by rfl) _ _ rfl Y 4 rfl S2 _ HR2.out Try.underlying65 rfl HSq2.out ?_)
                intro c hc
                obtain rfl := hc.out
                go_wp2_with fail
                refine HBs.out.mono ?_
                rintro e w2 ⟨rfl, hb⟩
                have HB2 := Lib.hid hb
                have hm1d : w2.cell? ⟨X, 2, none⟩ = some (.slice A1 n1 C1) := (hb.cell (p := ⟨X, 2, none⟩) hXl).trans HMc.out.1
                have hm2d : w2.cell? ⟨Y, 2, none⟩ = some (.slice A2 n2 C2) := (hb.cell (p := ⟨Y, 2, none⟩) hXl').trans HMc.out.2
                have hy1d : w2.cell? ⟨X, 74, none⟩ = some (.slice Am1 m1 Cm1) := (hb.cell (p := ⟨X, 74, none⟩) hXl).trans HYc.out.1
                have hy2d : w2.cell? ⟨Y, 74, none⟩ = some (.slice Am2 m2 Cm2) := (hb.cell (p := ⟨Y, 74, none⟩) hXl').trans HYc.out.2
                clear hb HBs
                go_wp2_with fail
                go_meet
                exact ⟨true, rfl, Lib.hid (fun _ => by rw [HQe.out, HE.out]; simp), Lib.hid (fun h => by cases h), HB2⟩
              have hd : ((n1 : Int) != (n2 : Int)) = false := by simp; omega
              by_cases hl2 : m1 = m2
              rotate_left
              · have hd2 : ((m1 : Int) != (m2 : Int)) = true := by simp; omega
                have HE : Hid (eqL myEq ys1 ys2 = false) := Lib.hid (eqL_len (by rw [HLy1.out, HLy2.out]; exact hl2))
                have HQe : Hid (SX = (eqL mvEq ms1 ms2 && eqL myEq ys1 ys2)) := Lib.hid (by rw [HQx.out rfl rfl]; simp [h2])
                clear hl hl2
                go_wp2_with (refine wpList_load_stop (by rfl) _ _ rfl X 4 rfl S1 _ HR1.out Try.underlying65 rfl HSq1.out ?_)
                intro c hc
                obtain rfl := hc.out
                go_wp2_with (refine wpList_load_stop (by rfl) _ _ rfl Y 4 rfl S2 _ HR2.out Try.underlying65 rfl HSq2.out ?_)
                intro c hc
                obtain rfl := hc.out
                go_wp2_with fail
                refine HBs.out.mono ?_
                rintro e w2 ⟨rfl, hb⟩
                have HB2 := Lib.hid hb
                have hm1d : w2.cell? ⟨X, 2, none⟩ = some (.slice A1 n1 C1) := (hb.cell (p := ⟨X, 2, none⟩) hXl).trans HMc.out.1
                have hm2d : w2.cell? ⟨Y, 2, none⟩ = some (.slice A2 n2 C2) := (hb.cell (p := ⟨Y, 2, none⟩) hXl').trans HMc.out.2
                have hy1d : w2.cell? ⟨X, 74, none⟩ = some (.slice Am1 m1 Cm1) := (hb.cell (p := ⟨X, 74, none⟩) hXl).trans HYc.out.1
                have hy2d : w2.cell? ⟨Y, 74, none⟩ = some (.slice Am2 m2 Cm2) := (hb.cell (p := ⟨Y, 74, none⟩) hXl').trans HYc.out.2
                clear hb HBs
                go_wp2_with fail
                go_meet
                exact ⟨true, rfl, Lib.hid (fun _ => by rw [HQe.out, HE.out]; simp), Lib.hid (fun h => by cases h), HB2⟩
              have hd2 : ((m1 : Int) != (m2 : Int)) = false := by simp; omega
              have HQe : Hid (SX = (eqL mvEq ms1 ms2 && eqL myEq ys1 ys2)) := Lib.hid (by rw [HQx.out rfl rfl]; simp [h2])
              have HLL := Lib.hid (And.intro hl hl2)
              clear hl hl2
              go_wp2_with (refine wpList_load_stop (by rfl) _ _ rfl X 4 rfl S1 _ HR1.out Try.underlying65 rfl HSq1.out ?_)
              intro c hc
              obtain rfl := hc.out
              go_wp2_with (refine wpList_load_stop (by rfl) _ _ rfl Y 4 rfl S2 _ HR2.out Try.underlying65 rfl HSq2.out ?_)
              intro c hc
              obtain rfl := hc.out
              go_wp2_with fail
              refine HBs.out.mono ?_
              rintro e w2 ⟨rfl, hb⟩
              have HB2 := Lib.hid hb
              have hm1d : w2.cell? ⟨X, 2, none⟩ = some (.slice A1 n1 C1) := (hb.cell (p := ⟨X, 2, none⟩) hXl).trans HMc.out.1
              have hm2d : w2.cell? ⟨Y, 2, none⟩ = some (.slice A2 n2 C2) := (hb.cell (p := ⟨Y, 2, none⟩) hXl').trans HMc.out.2
              have hy1d : w2.cell? ⟨X, 74, none⟩ = some (.slice Am1 m1 Cm1) := (hb.cell (p := ⟨X, 74, none⟩) hXl).trans HYc.out.1
              have hy2d : w2.cell? ⟨Y, 74, none⟩ = some (.slice Am2 m2 Cm2) := (hb.cell (p := ⟨Y, 74, none⟩) hXl').trans HYc.out.2
              clear hb HBs
              go_wp2_with fail
              go_meet
              exact ⟨false, rfl, Lib.hid (fun h => by cases h), Lib.hid (fun _ => ⟨HLL.out.1, HLL.out.2, HQe.out⟩), HB2⟩
  case rest =>
    obtain ⟨r, rfl, Hr1, Hr2, HBc⟩ := hcut
    cases r
    rotate_left
    · go_wp2_with fail
      exact HPost.out false _ (Hr1.out (by simp)).symm (HB.out.trans (HBc.out.mono hsw))
    obtain ⟨hl, hl2, hsx⟩ := Hr2.out rfl
    subst hl hl2
    have HSX := Lib.hid hsx
    clear hsx Hr1 Hr2 HQx HQh HQs HR1 HR2 HSq1 HSq2 hh1c hh2c hd1c hd2c hs1c hs2c hm1c hm2c hy1c hy2c HBs
    have hGA : G ≤ wA.heap.size := Nat.le_trans hG hsw
    go_wp2_with fail
    go_loopw [5] (fun s wr => ∃ q : Nat, s = .int .i64 q ∧ q ≤ n1 ∧ Hid (eqL mvEq (ms1.drop q) (ms2.drop q) = eqL mvEq ms1 ms2) ∧ Hid (Below wA.heap.size wA wr)) (fun s _ => n1 - (intOf s).toNat)
    case atStart => exact ⟨0, rfl, Nat.zero_le _, Lib.hid rfl, HBc⟩
    case round =>
      clear HBc
      obtain ⟨q, rfl, hq, HF, HBr⟩ := hrel
      have hq1 : wr.cell? ⟨X, 2, none⟩ = some (.slice A1 n1 C1) := (HBr.out.cell (p := ⟨X, 2, none⟩) hXl).trans HMc.out.1
      have hq2 : wr.cell? ⟨Y, 2, none⟩ = some (.slice A2 n1 C2) := (HBr.out.cell (p := ⟨Y, 2, none⟩) hXl').trans HMc.out.2
      by_cases hlt : q < n1
      · obtain ⟨g, o, hA, hg, hcc⟩ := (HM1.out.below HBr.out hGA).rd.cell (by omega)
        obtain ⟨g2, o2, hA', hg2, hcc2⟩ := (HM2.out.below HBr.out hGA).rd.cell (by omega)
        obtain ⟨t, ht⟩ : ∃ t, t = ms1.getD q default := ⟨_, rfl⟩
        obtain ⟨t2, ht2⟩ : ∃ t2, t2 = ms2.getD q default := ⟨_, rfl⟩
        have hx1 := hcc q hlt
        rw [map_getD _ (by rw [HL1.out]; exact hlt), ← ht] at hx1
        have hx2 := hcc2 q hlt
        rw [map_getD _ (by rw [HL2.out]; exact hlt), ← ht2] at hx2
        have hok1 := HM1.out.ok t (by rw [ht]; exact getD_memI (by rw [HL1.out]; exact hlt))
        have hok2 := HM2.out.ok t2 (by rw [ht2]; exact getD_memI (by rw [HL2.out]; exact hlt))
        have hst := eqL_drop mvEq ms1 ms2 q (by rw [HL1.out]; exact hlt) (by rw [HL2.out]; exact hlt)
        rw [HF.out, ← ht, ← ht2] at hst
        have HSt := Lib.hid hst
        have hS1 : Hid ((Try.prog.info? 126).map (·.size) = some t.cells.length) := Lib.hid (by rw [Mv.len hok1.1 hok1.2.1]; exact infoMv)
        have hS2 : Hid ((Try.prog.info? 126).map (·.size) = some t2.cells.length) := Lib.hid (by rw [Mv.len hok2.1 hok2.2.1]; exact infoMv)
        have hself := fun W => mv_eq t t2 ⟨hok1.1, hok1.2.1⟩ ⟨hok2.1, hok2.2.1⟩ W
        subst hA hA'
        have HX1 := Lib.hid hx1
        have HX2 := Lib.hid hx2
        have HC1 := Lib.hid hq1
        have HC2 := Lib.hid hq2
        have hk0 : (0 : Int) ≤ (q : Int) := by omega
        have hk1 : (q : Int) < (n1 : Int) := by omega
        have hkn : q < n1 := hlt
        have HBd := Lib.hid HBr.out.drew
        clear hx1 hx2 hcc hcc2 hok1 hok2 HF HBr hg hg2 hst ht ht2
        generalize mvEq t t2 = b at *
        generalize t.cells = EL at *
        generalize t2.cells = ER at *
        cases b
        · rw [Bool.false_and] at HSt
          go_wp2_with fail
          clear hq1 hq2
          refine wp_region_noPanic ?_
          refine wp_region_held_drew (S := (fun wS => wS.rangeAt g (o + q * 66) EL ∧ wS.rangeAt g2 (o2 + q * 66) ER ∧ wS.cell? ⟨X, 2, none⟩ = some (.slice (some ⟨g, o, none⟩) n1 C1) ∧ wS.cell? ⟨Y, 2, none⟩ = some (.slice (some ⟨g2, o2, none⟩) n1 C2))) (by kernel_rfl) ?_ (fun hHeld => ?_)
          · ((try dsimp only); exact ⟨HX1.out, HX2.out, HC1.out, HC2.out⟩)
          refine wpAnyH_take (i := 0) (oi := { dst := some 67, op := Op.fieldAddr 68 (Operand.tmp 2) 2, type := 0, pos := "ref.go:468", after := #[], guard := none }) (v := ?_) rfl (by kernel_rfl) (by kernel_rfl) (by kernel_rfl) (fun _ _ _ h => h) (Or.inl ⟨by rfl, ?_⟩) (by assumption) ?_
          rotate_left 1
          · ((intro w hSw; (try dsimp only at hSw); go_simp) <;> with_reducible rfl)
          (try simp only [Act.put, List.setIfInBounds_toArray, List.set_cons_zero, List.set_cons_succ])
          refine wpAnyH_take (i := 1) (oi := { dst := some 68, op := Op.load 62 (Operand.tmp 67), type := 62, pos := "ref.go:468", after := #[{ on := 0, ground := Ground.data }], guard := none }) (v := ?_) rfl (by kernel_rfl) (by kernel_rfl) (by kernel_rfl) (fun _ _ _ h => h) (Or.inl ⟨by rfl, ?_⟩) (by assumption) ?_
          rotate_left 1
          · ((intro w hSw; (try dsimp only at hSw); go_simp) <;> with_reducible rfl)
          (try simp only [Act.put, List.setIfInBounds_toArray, List.set_cons_zero, List.set_cons_succ])
          refine wpAnyH_take (i := 2) (oi := { dst := some 69, op := Op.move (Operand.tmp 5), type := 3, pos := "ref.go:468", after := #[], guard := none }) (v := ?_) rfl (by kernel_rfl) (by kernel_rfl) (by kernel_rfl) (fun _ _ _ h => h) (Or.inl ⟨by rfl, ?_⟩) (by assumption) ?_
          rotate_left 1
          · ((intro w hSw; (try dsimp only at hSw); go_simp) <;> with_reducible rfl)
          (try simp only [Act.put, List.setIfInBounds_toArray, List.set_cons_zero, List.set_cons_succ])
          refine wpAnyH_take (i := 3) (oi := { dst := some 70, op := Op.indexAddr 62 (Operand.tmp 68) (Operand.tmp 69), type := 0, pos := "ref.go:468", after := #[{ on := 1, ground := Ground.data }, { on := 2, ground := Ground.data }], guard := none }) (v := ?_) rfl (by kernel_rfl) (by kernel_rfl) (by kernel_rfl) (fun _ _ _ h => h) (Or.inl ⟨by rfl, ?_⟩) (by assumption) ?_
          rotate_left 1
          · ((intro w hSw; (try dsimp only at hSw); go_simp) <;> with_reducible rfl)
          (try simp only [Act.put, List.setIfInBounds_toArray, List.set_cons_zero, List.set_cons_succ])
          refine' wpAnyH_take (i := 4) (oi := { dst := some 71, op := Op.load 126 (Operand.tmp 70), type := 126, pos := "ref.go:468", after := #[{ on := 3, ground := Ground.data }], guard := none }) (v := _) rfl (by kernel_rfl) (by kernel_rfl) (by kernel_rfl) (fun _ _ _ h => h) (yieldsIf_load_mid (by rfl) _ _ rfl _ _ rfl EL _ (fun w hSw => hSw.1) Try.underlying126 rfl hS1.out) (by assumption) ?_
          (try simp only [Act.put, List.setIfInBounds_toArray, List.set_cons_zero, List.set_cons_succ])
          refine wpAnyH_take (i := 5) (oi := { dst := some 72, op := Op.fieldAddr 68 (Operand.tmp 3) 2, type := 0, pos := "ref.go:468", after := #[], guard := none }) (v := ?_) rfl (by kernel_rfl) (by kernel_rfl) (by kernel_rfl) (fun _ _ _ h => h) (Or.inl ⟨by rfl, ?_⟩) (by assumption) ?_
          rotate_left 1
          · ((intro w hSw; (try dsimp only at hSw); go_simp) <;> with_reducible rfl)
          (try simp only [Act.put, List.setIfInBounds_toArray, List.set_cons_zero, List.set_cons_succ])
          refine wpAnyH_take (i := 6) (oi := { dst := some 73, op := Op.load 62 (Operand.tmp 72), type := 62, pos := "ref.go:468", after := #[{ on := 5, ground := Ground.data }], guard := none }) (v := ?_) rfl (by kernel_rfl) (by kernel_rfl) (by kernel_rfl) (fun _ _ _ h => h) (Or.inl ⟨by rfl, ?_⟩) (by assumption) ?_
          rotate_left 1
          · ((intro w hSw; (try dsimp only at hSw); go_simp) <;> with_reducible rfl)
          (try simp only [Act.put, List.setIfInBounds_toArray, List.set_cons_zero, List.set_cons_succ])
          refine wpAnyH_take (i := 7) (oi := { dst := some 74, op := Op.move (Operand.tmp 5), type := 3, pos := "ref.go:468", after := #[], guard := none }) (v := ?_) rfl (by kernel_rfl) (by kernel_rfl) (by kernel_rfl) (fun _ _ _ h => h) (Or.inl ⟨by rfl, ?_⟩) (by assumption) ?_
          rotate_left 1
          · ((intro w hSw; (try dsimp only at hSw); go_simp) <;> with_reducible rfl)
          (try simp only [Act.put, List.setIfInBounds_toArray, List.set_cons_zero, List.set_cons_succ])
          refine wpAnyH_take (i := 8) (oi := { dst := some 75, op := Op.indexAddr 62 (Operand.tmp 73) (Operand.tmp 74), type := 0, pos := "ref.go:468", after := #[{ on := 6, ground := Ground.data }, { on := 7, ground := Ground.data }], guard := none }) (v := ?_) rfl (by kernel_rfl) (by kernel_rfl) (by kernel_rfl) (fun _ _ _ h => h) (Or.inl ⟨by rfl, ?_⟩) (by assumption) ?_
          rotate_left 1
          · ((intro w hSw; (try dsimp only at hSw); go_simp) <;> with_reducible rfl)
          (try simp only [Act.put, List.setIfInBounds_toArray, List.set_cons_zero, List.set_cons_succ])
          refine' wpAnyH_take (i := 9) (oi := { dst := some 76, op := Op.load 126 (Operand.tmp 75), type := 126, pos := "ref.go:468", after := #[{ on := 8, ground := Ground.data }], guard := none }) (v := _) rfl (by kernel_rfl) (by kernel_rfl) (by kernel_rfl) (fun _ _ _ h => h) (yieldsIf_load_mid (by rfl) _ _ rfl _ _ rfl ER _ (fun w hSw => hSw.2.1) Try.underlying126 rfl hS2.out) (by assumption) ?_
          (try simp only [Act.put, List.setIfInBounds_toArray, List.set_cons_zero, List.set_cons_succ])
          refine wpAnyH_take (i := 10) (oi := { dst := some 77, op := Op.binOp BinOp.neq 126 (Operand.tmp 71) (Operand.tmp 76) 126, type := 4, pos := "ref.go:468", after := #[{ on := 4, ground := Ground.data }, { on := 9, ground := Ground.data }], guard := none }) (v := ?_) rfl (by kernel_rfl) (by kernel_rfl) (by kernel_rfl) (fun _ _ _ h => h) (Or.inl ⟨by rfl, ?_⟩) (by assumption) ?_
          rotate_left 1
          · ((intro w hSw; (try dsimp only at hSw); go_simp) <;> with_reducible rfl)
          (try simp only [Act.put, List.setIfInBounds_toArray, List.set_cons_zero, List.set_cons_succ])
          refine wpAnyH_done (by kernel_rfl) ?_ _
          refine NoPanic.normal ?_
          skip
          go_wp2_with fail
          exact HPost.out false _ (by rw [HSX.out, HSt.out]; rfl) (HB.out.trans (HBd.out.mono hsw))
        · rw [Bool.true_and] at HSt
          have HSt2 := Lib.hid HSt.out.symm
          go_wp2_with fail
          clear hq1 hq2
          refine wp_region_noPanic ?_
          refine wp_region_held_drew (S := (fun wS => wS.rangeAt g (o + q * 66) EL ∧ wS.rangeAt g2 (o2 + q * 66) ER ∧ wS.cell? ⟨X, 2, none⟩ = some (.slice (some ⟨g, o, none⟩) n1 C1) ∧ wS.cell? ⟨Y, 2, none⟩ = some (.slice (some ⟨g2, o2, none⟩) n1 C2))) (by kernel_rfl) ?_ (fun hHeld => ?_)
          · ((try dsimp only); exact ⟨HX1.out, HX2.out, HC1.out, HC2.out⟩)
          refine wpAnyH_take (i := 0) (oi := { dst := some 67, op := Op.fieldAddr 68 (Operand.tmp 2) 2, type := 0, pos := "ref.go:468", after := #[], guard := none }) (v := ?_) rfl (by kernel_rfl) (by kernel_rfl) (by kernel_rfl) (fun _ _ _ h => h) (Or.inl ⟨by rfl, ?_⟩) (by assumption) ?_
          rotate_left 1
          · ((intro w hSw; (try dsimp only at hSw); go_simp) <;> with_reducible rfl)
          (try simp only [Act.put, List.setIfInBounds_toArray, List.set_cons_zero, List.set_cons_succ])
          refine wpAnyH_take (i := 1) (oi := { dst := some 68, op := Op.load 62 (Operand.tmp 67), type := 62, pos := "ref.go:468", after := #[{ on := 0, ground := Ground.data }], guard := none }) (v := ?_) rfl (by kernel_rfl) (by kernel_rfl) (by kernel_rfl) (fun _ _ _ h => h) (Or.inl ⟨by rfl, ?_⟩) (by assumption) ?_
          rotate_left 1
          · ((intro w hSw; (try dsimp only at hSw); go_simp) <;> with_reducible rfl)
          (try simp only [Act.put, List.setIfInBounds_toArray, List.set_cons_zero, List.set_cons_succ])
          refine wpAnyH_take (i := 2) (oi := { dst := some 69, op := Op.move (Operand.tmp 5), type := 3, pos := "ref.go:468", after := #[], guard := none }) (v := ?_) rfl (by kernel_rfl) (by kernel_rfl) (by kernel_rfl) (fun _ _ _ h => h) (Or.inl ⟨by rfl, ?_⟩) (by assumption) ?_
          rotate_left 1
          · ((intro w hSw; (try dsimp only at hSw); go_simp) <;> with_reducible rfl)
          (try simp only [Act.put, List.setIfInBounds_toArray, List.set_cons_zero, List.set_cons_succ])
          refine wpAnyH_take (i := 3) (oi := { dst := some 70, op := Op.indexAddr 62 (Operand.tmp 68) (Operand.tmp 69), type := 0, pos := "ref.go:468", after := #[{ on := 1, ground := Ground.data }, { on := 2, ground := Ground.data }], guard := none }) (v := ?_) rfl (by kernel_rfl) (by kernel_rfl) (by kernel_rfl) (fun _ _ _ h => h) (Or.inl ⟨by rfl, ?_⟩) (by assumption) ?_
          rotate_left 1
          · ((intro w hSw; (try dsimp only at hSw); go_simp) <;> with_reducible rfl)
          (try simp only [Act.put, List.setIfInBounds_toArray, List.set_cons_zero, List.set_cons_succ])
          refine' wpAnyH_take (i := 4) (oi := { dst := some 71, op := Op.load 126 (Operand.tmp 70), type := 126, pos := "ref.go:468", after := #[{ on := 3, ground := Ground.data }], guard := none }) (v := _) rfl (by kernel_rfl) (by kernel_rfl) (by kernel_rfl) (fun _ _ _ h => h) (yieldsIf_load_mid (by rfl) _ _ rfl _ _ rfl EL _ (fun w hSw => hSw.1) Try.underlying126 rfl hS1.out) (by assumption) ?_
          (try simp only [Act.put, List.setIfInBounds_toArray, List.set_cons_zero, List.set_cons_succ])
          refine wpAnyH_take (i := 5) (oi := { dst := some 72, op := Op.fieldAddr 68 (Operand.tmp 3) 2, type := 0, pos := "ref.go:468", after := #[], guard := none }) (v := ?_) rfl (by kernel_rfl) (by kernel_rfl) (by kernel_rfl) (fun _ _ _ h => h) (Or.inl ⟨by rfl, ?_⟩) (by assumption) ?_
          rotate_left 1
          · ((intro w hSw; (try dsimp only at hSw); go_simp) <;> with_reducible rfl)
          (try simp only [Act.put, List.setIfInBounds_toArray, List.set_cons_zero, List.set_cons_succ])
          refine wpAnyH_take (i := 6) (oi := { dst := some 73, op := Op.load 62 (Operand.tmp 72), type := 62, pos := "ref.go:468", after := #[{ on := 5, ground := Ground.data }], guard := none }) (v := ?_) rfl (by kernel_rfl) (by kernel_rfl) (by kernel_rfl) (fun _ _ _ h => h) (Or.inl ⟨by rfl, ?_⟩) (by assumption) ?_
          rotate_left 1
          · ((intro w hSw; (try dsimp only at hSw); go_simp) <;> with_reducible rfl)
          (try simp only [Act.put, List.setIfInBounds_toArray, List.set_cons_zero, List.set_cons_succ])
          refine wpAnyH_take (i := 7) (oi := { dst := some 74, op := Op.move (Operand.tmp 5), type := 3, pos := "ref.go:468", after := #[], guard := none }) (v := ?_) rfl (by kernel_rfl) (by kernel_rfl) (by kernel_rfl) (fun _ _ _ h => h) (Or.inl ⟨by rfl, ?_⟩) (by assumption) ?_
          rotate_left 1
          · ((intro w hSw; (try dsimp only at hSw); go_simp) <;> with_reducible rfl)
          (try simp only [Act.put, List.setIfInBounds_toArray, List.set_cons_zero, List.set_cons_succ])
          refine wpAnyH_take (i := 8) (oi := { dst := some 75, op := Op.indexAddr 62 (Operand.tmp 73) (Operand.tmp 74), type := 0, pos := "ref.go:468", after := #[{ on := 6, ground := Ground.data }, { on := 7, ground := Ground.data }], guard := none }) (v := ?_) rfl (by kernel_rfl) (by kernel_rfl) (by kernel_rfl) (fun _ _ _ h => h) (Or.inl ⟨by rfl, ?_⟩) (by assumption) ?_
          rotate_left 1
          · ((intro w hSw; (try dsimp only at hSw); go_simp) <;> with_reducible rfl)
          (try simp only [Act.put, List.setIfInBounds_toArray, List.set_cons_zero, List.set_cons_succ])
          refine' wpAnyH_take (i := 9) (oi := { dst := some 76, op := Op.load 126 (Operand.tmp 75), type := 126, pos := "ref.go:468", after := #[{ on := 8, ground := Ground.data }], guard := none }) (v := _) rfl (by kernel_rfl) (by kernel_rfl) (by kernel_rfl) (fun _ _ _ h => h) (yieldsIf_load_mid (by rfl) _ _ rfl _ _ rfl ER _ (fun w hSw => hSw.2.1) Try.underlying126 rfl hS2.out) (by assumption) ?_
          (try simp only [Act.put, List.setIfInBounds_toArray, List.set_cons_zero, List.set_cons_succ])
          refine wpAnyH_take (i := 10) (oi := { dst := some 77, op := Op.binOp BinOp.neq 126 (Operand.tmp 71) (Operand.tmp 76) 126, type := 4, pos := "ref.go:468", after := #[{ on := 4, ground := Ground.data }, { on := 9, ground := Ground.data }], guard := none }) (v := ?_) rfl (by kernel_rfl) (by kernel_rfl) (by kernel_rfl) (fun _ _ _ h => h) (Or.inl ⟨by rfl, ?_⟩) (by assumption) ?_
          rotate_left 1
          · ((intro w hSw; (try dsimp only at hSw); go_simp) <;> with_reducible rfl)
          (try simp only [Act.put, List.setIfInBounds_toArray, List.set_cons_zero, List.set_cons_succ])
          refine wpAnyH_done (by kernel_rfl) ?_ _
          refine NoPanic.normal ?_
          skip
          go_wp2_with fail
          go_roundw
          case rel => exact ⟨q + 1, by go_num, by omega, HSt2, HBd⟩
          case measure => simp [intOf]; omega
      · have hd2 : decide ((q : Int) < (n1 : Int)) = false := by simp; omega
        have HE : Hid (SX = eqL myEq ys1 ys2) := Lib.hid (by
          have h := HF.out
          rw [List.drop_of_length_le (by rw [HL1.out]; omega), List.drop_of_length_le (by rw [HL2.out]; omega)] at h
          rw [HSX.out, ← h]; rfl)
        clear HF HSX HM1 HM2 HMc HL1 HL2
        go_wp2_with fail
        clear hq1 hq2 hd2
        go_loopw [6] (fun s wr => ∃ q : Nat, s = .int .i64 q ∧ q ≤ m1 ∧ Hid (eqL myEq (ys1.drop q) (ys2.drop q) = eqL myEq ys1 ys2) ∧ Hid (Below wA.heap.size wA wr)) (fun s _ => m1 - (intOf s).toNat)
        case atStart => exact ⟨0, rfl, Nat.zero_le _, Lib.hid rfl, HBr⟩
        case round =>
          clear HBr hlt hq
          obtain ⟨q, rfl, hq, HF, HBr⟩ := hrel
          have hq1 : wr.cell? ⟨X, 74, none⟩ = some (.slice Am1 m1 Cm1) := (HBr.out.cell (p := ⟨X, 74, none⟩) hXl).trans HYc.out.1
          have hq2 : wr.cell? ⟨Y, 74, none⟩ = some (.slice Am2 m1 Cm2) := (HBr.out.cell (p := ⟨Y, 74, none⟩) hXl').trans HYc.out.2
          by_cases hlt : q < m1
          · have hy1 := HY1.out.below HBr.out (Nat.le_refl _) hGA
            have hy2 := HY2.out.below HBr.out (Nat.le_refl _) hGA
            obtain ⟨g, o, hA, hg, hcc⟩ := hy1.rd.cell (by omega)
            obtain ⟨g2, o2, hA', hg2, hcc2⟩ := hy2.rd.cell (by omega)
            obtain ⟨t, ht⟩ : ∃ t, t = ys1.getD q default := ⟨_, rfl⟩
            obtain ⟨t2, ht2⟩ : ∃ t2, t2 = ys2.getD q default := ⟨_, rfl⟩
            have hx1 := hcc q hlt
            rw [map_getD _ (by rw [HLy1.out]; exact hlt), ← ht] at hx1
            have hx2 := hcc2 q hlt
            rw [map_getD _ (by rw [HLy2.out]; exact hlt), ← ht2] at hx2
            have hok1 := hy1.ok t (by rw [ht]; exact getD_memI (by rw [HLy1.out]; exact hlt))
            have hok2 := hy2.ok t2 (by rw [ht2]; exact getD_memI (by rw [HLy2.out]; exact hlt))
            have hst := eqL_drop myEq ys1 ys2 q (by rw [HLy1.out]; exact hlt) (by rw [HLy2.out]; exact hlt)
            rw [HF.out, ← ht, ← ht2] at hst
            have HSt := Lib.hid hst
            have hS1 : Hid ((Try.prog.info? 37).map (·.size) = some (bv t.key).length) := Lib.hid (by rw [bv_len, hok1.1]; exact infoId)
            have hS2 : Hid ((Try.prog.info? 37).map (·.size) = some (bv t2.key).length) := Lib.hid (by rw [bv_len, hok2.1]; exact infoId)
            have hself := fun W => ids_eq t.key t2.key hok1.1 hok2.1 W
            have hp1 := my_o hok1.1 hx1
            have hp2 := my_o hok2.1 hx2
            have HX1 := Lib.hid hp1.key
            have HX2 := Lib.hid hp2.key
            have HD1 := Lib.hid hp1.data
            have HD2 := Lib.hid hp2.data
            have HV1 : Hid ((convert 23 9 (.slice t.A t.n t.C)).run Try.prog wr.drew = .ok (.string (sb t.l)) wr.drew) := Lib.hid (conv_rd (hok1.2.2.rd.below (Below.refl _ _).drew))
            have HV2 : Hid ((convert 23 9 (.slice t2.A t2.n t2.C)).run Try.prog wr.drew = .ok (.string (sb t2.l)) wr.drew) := Lib.hid (conv_rd (hok2.2.2.rd.below (Below.refl _ _).drew))
            subst hA hA'
            have HC1 := Lib.hid hq1
            have HC2 := Lib.hid hq2
            have hk0 : (0 : Int) ≤ (q : Int) := by omega
            have hk1 : (q : Int) < (m1 : Int) := by omega
            have hkn : q < m1 := hlt
            have HBd := Lib.hid HBr.out.drew
            have hmy : myEq t t2 = (decide (t.key = t2.key) && ((sb t.l).toList == (sb t2.l).toList)) := rfl
            rw [hmy] at HSt
            clear hx1 hx2 hcc hcc2 hok1 hok2 HF HBr hg hg2 hst ht ht2 hy1 hy2 hp1 hp2 hmy
            generalize decide (t.key = t2.key) = b1 at *
            generalize sb t.l = T1 at *
            generalize sb t2.l = T2 at *
            generalize bv t.key = L1 at *
            generalize bv t2.key = L2 at *
            generalize t.A = yA at *
            generalize t.n = yn at *
            generalize t.C = yC at *
            generalize t2.A = zA at *
            generalize t2.n = zn at *
            generalize t2.C = zC at *
            obtain ⟨b2, h2⟩ : ∃ b, (T1.toList == T2.toList) = b := ⟨_, rfl⟩
            have h2' : (T1.toList != T2.toList) = !b2 := by rw [← h2]; rfl
            rw [h2] at HSt
            cases b1
            · rw [Bool.false_and, Bool.false_and] at HSt
              go_wp2_with fail
              clear hq1 hq2
              refine wp_region_noPanic ?_
              refine wp_region_held_drew (S := (fun wS => wS.rangeAt g (o + q * 33) L1 ∧ wS.rangeAt g2 (o2 + q * 33) L2 ∧ wS.cell? ⟨X, 74, none⟩ = some (.slice (some ⟨g, o, none⟩) m1 Cm1) ∧ wS.cell? ⟨Y, 74, none⟩ = some (.slice (some ⟨g2, o2, none⟩) m1 Cm2) ∧ wS.cell? ⟨g, o + q * 33 + 32, none⟩ = some (.slice yA yn yC) ∧ wS.cell? ⟨g2, o2 + q * 33 + 32, none⟩ = some (.slice zA zn zC) ∧ (convert 23 9 (.slice yA yn yC)).run Try.prog wS = .ok (.string T1) wS ∧ (convert 23 9 (.slice zA zn zC)).run Try.prog wS = .ok (.string T2) wS)) (by kernel_rfl) ?_ (fun hHeld => ?_)
              · ((try dsimp only); exact ⟨HX1.out, HX2.out, HC1.out, HC2.out, HD1.out, HD2.out, HV1.out, HV2.out⟩)
              refine wpAnyH_take (i := 0) (oi := { dst := some 85, op := Op.fieldAddr 68 (Operand.tmp 2) 5, type := 0, pos := "ref.go:473", after := #[], guard := none }) (v := ?_) rfl (by kernel_rfl) (by kernel_rfl) (by kernel_rfl) (fun _ _ _ h => h) (Or.inl ⟨by rfl, ?_⟩) (by assumption) ?_
              rotate_left 1
              · ((intro w hSw; (try dsimp only at hSw); go_simp) <;> with_reducible rfl)
              (try simp only [Act.put, List.setIfInBounds_toArray, List.set_cons_zero, List.set_cons_succ])
              refine wpAnyH_take (i := 1) (oi := { dst := some 86, op := Op.load 66 (Operand.tmp 85), type := 66, pos := "ref.go:473", after := #[{ on := 0, ground := Ground.data }], guard := none }) (v := ?_) rfl (by kernel_rfl) (by kernel_rfl) (by kernel_rfl) (fun _ _ _ h => h) (Or.inl ⟨by rfl, ?_⟩) (by assumption) ?_
              rotate_left 1
              · ((intro w hSw; (try dsimp only at hSw); go_simp) <;> with_reducible rfl)
              (try simp only [Act.put, List.setIfInBounds_toArray, List.set_cons_zero, List.set_cons_succ])
              refine wpAnyH_take (i := 2) (oi := { dst := some 87, op := Op.move (Operand.tmp 6), type := 3, pos := "ref.go:473", after := #[], guard := none }) (v := ?_) rfl (by kernel_rfl) (by kernel_rfl) (by kernel_rfl) (fun _ _ _ h => h) (Or.inl ⟨by rfl, ?_⟩) (by assumption) ?_
              rotate_left 1
              · ((intro w hSw; (try dsimp only at hSw); go_simp) <;> with_reducible rfl)
              (try simp only [Act.put, List.setIfInBounds_toArray, List.set_cons_zero, List.set_cons_succ])
              refine wpAnyH_take (i := 3) (oi := { dst := some 88, op := Op.indexAddr 66 (Operand.tmp 86) (Operand.tmp 87), type := 0, pos := "ref.go:473", after := #[{ on := 1, ground := Ground.data }, { on := 2, ground := Ground.data }], guard := none }) (v := ?_) rfl (by kernel_rfl) (by kernel_rfl) (by kernel_rfl) (fun _ _ _ h => h) (Or.inl ⟨by rfl, ?_⟩) (by assumption) ?_
              rotate_left 1
              · ((intro w hSw; (try dsimp only at hSw); go_simp) <;> with_reducible rfl)
              (try simp only [Act.put, List.setIfInBounds_toArray, List.set_cons_zero, List.set_cons_succ])
              refine wpAnyH_take (i := 4) (oi := { dst := some 89, op := Op.fieldAddr 128 (Operand.tmp 88) 0, type := 0, pos := "ref.go:473", after := #[{ on := 3, ground := Ground.data }], guard := none }) (v := ?_) rfl (by kernel_rfl) (by kernel_rfl) (by kernel_rfl) (fun _ _ _ h => h) (Or.inl ⟨by rfl, ?_⟩) (by assumption) ?_
              rotate_left 1
              · ((intro w hSw; (try dsimp only at hSw); go_simp) <;> with_reducible rfl)
              (try simp only [Act.put, List.setIfInBounds_toArray, List.set_cons_zero, List.set_cons_succ])
              refine' wpAnyH_take (i := 5) (oi := { dst := some 90, op := Op.load 37 (Operand.tmp 89), type := 37, pos := "ref.go:473", after := #[{ on := 4, ground := Ground.data }], guard := none }) (v := _) rfl (by kernel_rfl) (by kernel_rfl) (by kernel_rfl) (fun _ _ _ h => h) (yieldsIf_load_mid (by rfl) _ _ rfl _ _ rfl L1 _ (fun w hSw => hSw.1) Try.underlying37 rfl hS1.out) (by assumption) ?_
              (try simp only [Act.put, List.setIfInBounds_toArray, List.set_cons_zero, List.set_cons_succ])
              refine wpAnyH_take (i := 6) (oi := { dst := some 91, op := Op.fieldAddr 68 (Operand.tmp 3) 5, type := 0, pos := "ref.go:473", after := #[], guard := none }) (v := ?_) rfl (by kernel_rfl) (by kernel_rfl) (by kernel_rfl) (fun _ _ _ h => h) (Or.inl ⟨by rfl, ?_⟩) (by assumption) ?_
              rotate_left 1
              · ((intro w hSw; (try dsimp only at hSw); go_simp) <;> with_reducible rfl)
              (try simp only [Act.put, List.setIfInBounds_toArray, List.set_cons_zero, List.set_cons_succ])
              refine wpAnyH_take (i := 7) (oi := { dst := some 92, op := Op.load 66 (Operand.tmp 91), type := 66, pos := "ref.go:473", after := #[{ on := 6, ground := Ground.data }], guard := none }) (v := ?_) rfl (by kernel_rfl) (by kernel_rfl) (by kernel_rfl) (fun _ _ _ h => h) (Or.inl ⟨by rfl, ?_⟩) (by assumption) ?_
              rotate_left 1
              · ((intro w hSw; (try dsimp only at hSw); go_simp) <;> with_reducible rfl)
              (try simp only [Act.put, List.setIfInBounds_toArray, List.set_cons_zero, List.set_cons_succ])
              refine wpAnyH_take (i := 8) (oi := { dst := some 93, op := Op.move (Operand.tmp 6), type := 3, pos := "ref.go:473", after := #[], guard := none }) (v := ?_) rfl (by kernel_rfl) (by kernel_rfl) (by kernel_rfl) (fun _ _ _ h => h) (Or.inl ⟨by rfl, ?_⟩) (by assumption) ?_
              rotate_left 1
              · ((intro w hSw; (try dsimp only at hSw); go_simp) <;> with_reducible rfl)
              (try simp only [Act.put, List.setIfInBounds_toArray, List.set_cons_zero, List.set_cons_succ])
              refine wpAnyH_take (i := 9) (oi := { dst := some 94, op := Op.indexAddr 66 (Operand.tmp 92) (Operand.tmp 93), type := 0, pos := "ref.go:473", after := #[{ on := 7, ground := Ground.data }, { on := 8, ground := Ground.data }], guard := none }) (v := ?_) rfl (by kernel_rfl) (by kernel_rfl) (by kernel_rfl) (fun _ _ _ h => h) (Or.inl ⟨by rfl, ?_⟩) (by assumption) ?_
              rotate_left 1
              · ((intro w hSw; (try dsimp only at hSw); go_simp) <;> with_reducible rfl)
              (try simp only [Act.put, List.setIfInBounds_toArray, List.set_cons_zero, List.set_cons_succ])
              refine wpAnyH_take (i := 10) (oi := { dst := some 95, op := Op.fieldAddr 128 (Operand.tmp 94) 0, type := 0, pos := "ref.go:473", after := #[{ on := 9, ground := Ground.data }], guard := none }) (v := ?_) rfl (by kernel_rfl) (by kernel_rfl) (by kernel_rfl) (fun _ _ _ h => h) (Or.inl ⟨by rfl, ?_⟩) (by assumption) ?_
              rotate_left 1
              · ((intro w hSw; (try dsimp only at hSw); go_simp) <;> with_reducible rfl)
              (try simp only [Act.put, List.setIfInBounds_toArray, List.set_cons_zero, List.set_cons_succ])
              refine' wpAnyH_take (i := 11) (oi := { dst := some 96, op := Op.load 37 (Operand.tmp 95), type := 37, pos := "ref.go:473", after := #[{ on := 10, ground := Ground.data }], guard := none }) (v := _) rfl (by kernel_rfl) (by kernel_rfl) (by kernel_rfl) (fun _ _ _ h => h) (yieldsIf_load_mid (by rfl) _ _ rfl _ _ rfl L2 _ (fun w hSw => hSw.2.1) Try.underlying37 rfl hS2.out) (by assumption) ?_
              (try simp only [Act.put, List.setIfInBounds_toArray, List.set_cons_zero, List.set_cons_succ])
              refine wpAnyH_take (i := 12) (oi := { dst := some 97, op := Op.binOp BinOp.neq 37 (Operand.tmp 90) (Operand.tmp 96) 37, type := 4, pos := "ref.go:473", after := #[{ on := 5, ground := Ground.data }, { on := 11, ground := Ground.data }], guard := none }) (v := ?_) rfl (by kernel_rfl) (by kernel_rfl) (by kernel_rfl) (fun _ _ _ h => h) (Or.inl ⟨by rfl, ?_⟩) (by assumption) ?_
              rotate_left 1
              · ((intro w hSw; (try dsimp only at hSw); go_simp) <;> with_reducible rfl)
              (try simp only [Act.put, List.setIfInBounds_toArray, List.set_cons_zero, List.set_cons_succ])
              refine wpAnyH_take (i := 13) (oi := { dst := some 98, op := Op.move (Operand.tmp 97), type := 4, pos := "ref.go:473", after := #[{ on := 12, ground := Ground.data }], guard := none }) (v := ?_) rfl (by kernel_rfl) (by kernel_rfl) (by kernel_rfl) (fun _ _ _ h => h) (Or.inl ⟨by rfl, ?_⟩) (by assumption) ?_
              rotate_left 1
              · ((intro w hSw; (try dsimp only at hSw); go_simp) <;> with_reducible rfl)
              (try simp only [Act.put, List.setIfInBounds_toArray, List.set_cons_zero, List.set_cons_succ])
              refine wpAnyH_take (i := 14) (oi := { dst := some 99, op := Op.fieldAddr 68 (Operand.tmp 2) 5, type := 0, pos := "ref.go:473", after := #[{ on := 13, ground := Ground.guard }], guard := some (13, false) }) (v := undef) rfl (by kernel_rfl) (by kernel_rfl) (by kernel_rfl) (fun _ _ _ h => h) (Or.inr ⟨by rfl, rfl⟩) (by assumption) ?_
              (try simp only [Act.put, List.setIfInBounds_toArray, List.set_cons_zero, List.set_cons_succ])
              refine wpAnyH_take (i := 15) (oi := { dst := some 100, op := Op.load 66 (Operand.tmp 99), type := 66, pos := "ref.go:473", after := #[{ on := 14, ground := Ground.data }, { on := 13, ground := Ground.guard }], guard := some (13, false) }) (v := undef) rfl (by kernel_rfl) (by kernel_rfl) (by kernel_rfl) (fun _ _ _ h => h) (Or.inr ⟨by rfl, rfl⟩) (by assumption) ?_
              (try simp only [Act.put, List.setIfInBounds_toArray, List.set_cons_zero, List.set_cons_succ])
              refine wpAnyH_take (i := 16) (oi := { dst := some 101, op := Op.move (Operand.tmp 6), type := 3, pos := "ref.go:473", after := #[{ on := 13, ground := Ground.guard }], guard := some (13, false) }) (v := undef) rfl (by kernel_rfl) (by kernel_rfl) (by kernel_rfl) (fun _ _ _ h => h) (Or.inr ⟨by rfl, rfl⟩) (by assumption) ?_
              (try simp only [Act.put, List.setIfInBounds_toArray, List.set_cons_zero, List.set_cons_succ])
              refine wpAnyH_take (i := 17) (oi := { dst := some 102, op := Op.indexAddr 66 (Operand.tmp 100) (Operand.tmp 101), type := 0, pos := "ref.go:473", after := #[{ on := 15, ground := Ground.data }, { on := 16, ground := Ground.data }, { on := 13, ground := Ground.guard }], guard := some (13, false) }) (v := undef) rfl (by kernel_rfl) (by kernel_rfl) (by kernel_rfl) (fun _ _ _ h => h) (Or.inr ⟨by rfl, rfl⟩) (by assumption) ?_
              (try simp only [Act.put, List.setIfInBounds_toArray, List.set_cons_zero, List.set_cons_succ])
              refine wpAnyH_take (i := 18) (oi := { dst := some 103, op := Op.fieldAddr 128 (Operand.tmp 102) 1, type := 0, pos := "ref.go:473", after := #[{ on := 17, ground := Ground.data }, { on := 13, ground := Ground.guard }], guard := some (13, false) }) (v := undef) rfl (by kernel_rfl) (by kernel_rfl) (by kernel_rfl) (fun _ _ _ h => h) (Or.inr ⟨by rfl, rfl⟩) (by assumption) ?_
              (try simp only [Act.put, List.setIfInBounds_toArray, List.set_cons_zero, List.set_cons_succ])
              refine wpAnyH_take (i := 19) (oi := { dst := some 104, op := Op.load 23 (Operand.tmp 103), type := 23, pos := "ref.go:473", after := #[{ on := 18, ground := Ground.data }, { on := 13, ground := Ground.guard }], guard := some (13, false) }) (v := undef) rfl (by kernel_rfl) (by kernel_rfl) (by kernel_rfl) (fun _ _ _ h => h) (Or.inr ⟨by rfl, rfl⟩) (by assumption) ?_
              (try simp only [Act.put, List.setIfInBounds_toArray, List.set_cons_zero, List.set_cons_succ])
              refine wpAnyH_take (i := 20) (oi := { dst := some 105, op := Op.convert 23 9 (Operand.tmp 104), type := 9, pos := "ref.go:473", after := #[{ on := 19, ground := Ground.data }, { on := 13, ground := Ground.guard }], guard := some (13, false) }) (v := undef) rfl (by kernel_rfl) (by kernel_rfl) (by kernel_rfl) (fun _ _ _ h => h) (Or.inr ⟨by rfl, rfl⟩) (by assumption) ?_
              (try simp only [Act.put, List.setIfInBounds_toArray, List.set_cons_zero, List.set_cons_succ])
              refine wpAnyH_take (i := 21) (oi := { dst := some 106, op := Op.fieldAddr 68 (Operand.tmp 3) 5, type := 0, pos := "ref.go:473", after := #[{ on := 13, ground := Ground.guard }], guard := some (13, false) }) (v := undef) rfl (by kernel_rfl) (by kernel_rfl) (by kernel_rfl) (fun _ _ _ h => h) (Or.inr ⟨by rfl, rfl⟩) (by assumption) ?_
              (try simp only [Act.put, List.setIfInBounds_toArray, List.set_cons_zero, List.set_cons_succ])
              refine wpAnyH_take (i := 22) (oi := { dst := some 107, op := Op.load 66 (Operand.tmp 106), type := 66, pos := "ref.go:473", after := #[{ on := 21, ground := Ground.data }, { on := 13, ground := Ground.guard }], guard := some (13, false) }) (v := undef) rfl (by kernel_rfl) (by kernel_rfl) (by kernel_rfl) (fun _ _ _ h => h) (Or.inr ⟨by rfl, rfl⟩) (by assumption) ?_
              (try simp only [Act.put, List.setIfInBounds_toArray, List.set_cons_zero, List.set_cons_succ])
              refine wpAnyH_take (i := 23) (oi := { dst := some 108, op := Op.move (Operand.tmp 6), type := 3, pos := "ref.go:473", after := #[{ on := 13, ground := Ground.guard }], guard := some (13, false) }) (v := undef) rfl (by kernel_rfl) (by kernel_rfl) (by kernel_rfl) (fun _ _ _ h => h) (Or.inr ⟨by rfl, rfl⟩) (by assumption) ?_
              (try simp only [Act.put, List.setIfInBounds_toArray, List.set_cons_zero, List.set_cons_succ])
              refine wpAnyH_take (i := 24) (oi := { dst := some 109, op := Op.indexAddr 66 (Operand.tmp 107) (Operand.tmp 108), type := 0, pos := "ref.go:473", after := #[{ on := 22, ground := Ground.data }, { on := 23, ground := Ground.data }, { on := 13, ground := Ground.guard }], guard := some (13, false) }) (v := undef) rfl (by kernel_rfl) (by kernel_rfl) (by kernel_rfl) (fun _ _ _ h => h) (Or.inr ⟨by rfl, rfl⟩) (by assumption) ?_
              (try simp only [Act.put, List.setIfInBounds_toArray, List.set_cons_zero, List.set_cons_succ])
              refine wpAnyH_take (i := 25) (oi := { dst := some 110, op := Op.fieldAddr 128 (Operand.tmp 109) 1, type := 0, pos := "ref.go:473", after := #[{ on := 24, ground := Ground.data }, { on := 13, ground := Ground.guard }], guard := some (13, false) }) (v := undef) rfl (by kernel_rfl) (by kernel_rfl) (by kernel_rfl) (fun _ _ _ h => h) (Or.inr ⟨by rfl, rfl⟩) (by assumption) ?_
              (try simp only [Act.put, List.setIfInBounds_toArray, List.set_cons_zero, List.set_cons_succ])
              refine wpAnyH_take (i := 26) (oi := { dst := some 111, op := Op.load 23 (Operand.tmp 110), type := 23, pos := "ref.go:473", after := #[{ on := 25, ground := Ground.data }, { on := 13, ground := Ground.guard }], guard := some (13, false) }) (v := undef) rfl (by kernel_rfl) (by kernel_rfl) (by kernel_rfl) (fun _ _ _ h => h) (Or.inr ⟨by rfl, rfl⟩) (by assumption) ?_
              (try simp only [Act.put, List.setIfInBounds_toArray, List.set_cons_zero, List.set_cons_succ])
              refine wpAnyH_take (i := 27) (oi := { dst := some 112, op := Op.convert 23 9 (Operand.tmp 111), type := 9, pos := "ref.go:473", after := #[{ on := 26, ground := Ground.data }, { on := 13, ground := Ground.guard }], guard := some (13, false) }) (v := undef) rfl (by kernel_rfl) (by kernel_rfl) (by kernel_rfl) (fun _ _ _ h => h) (Or.inr ⟨by rfl, rfl⟩) (by assumption) ?_
              (try simp only [Act.put, List.setIfInBounds_toArray, List.set_cons_zero, List.set_cons_succ])
              refine wpAnyH_take (i := 28) (oi := { dst := some 113, op := Op.binOp BinOp.neq 9 (Operand.tmp 105) (Operand.tmp 112) 9, type := 4, pos := "ref.go:473", after := #[{ on := 20, ground := Ground.data }, { on := 27, ground := Ground.data }, { on := 13, ground := Ground.guard }], guard := some (13, false) }) (v := undef) rfl (by kernel_rfl) (by kernel_rfl) (by kernel_rfl) (fun _ _ _ h => h) (Or.inr ⟨by rfl, rfl⟩) (by assumption) ?_
              (try simp only [Act.put, List.setIfInBounds_toArray, List.set_cons_zero, List.set_cons_succ])
              refine wpAnyH_take (i := 29) (oi := { dst := some 114, op := Op.pick (Operand.tmp 98) (Operand.const (Value.bool true)) (Operand.tmp 113), type := 4, pos := "ref.go:473", after := #[{ on := 13, ground := Ground.data }, { on := 28, ground := Ground.data }], guard := none }) (v := ?_) rfl (by kernel_rfl) (by kernel_rfl) (by kernel_rfl) (fun _ _ _ h => h) (Or.inl ⟨by rfl, ?_⟩) (by assumption) ?_
              rotate_left 1
              · ((intro w hSw; (try dsimp only at hSw); go_simp) <;> with_reducible rfl)
              (try simp only [Act.put, List.setIfInBounds_toArray, List.set_cons_zero, List.set_cons_succ])
              refine wpAnyH_done (by kernel_rfl) ?_ _
              refine NoPanic.normal ?_
              skip
              go_wp2_with fail
              exact HPost.out false _ (by rw [HE.out, ← HSt.out]) (HB.out.trans (HBd.out.mono hsw))
            · rw [Bool.true_and] at HSt
              cases b2
              · rw [Bool.false_and] at HSt
                go_wp2_with fail
                clear hq1 hq2
                refine wp_region_noPanic ?_
                refine wp_region_held_drew (S := (fun wS => wS.rangeAt g (o + q * 33) L1 ∧ wS.rangeAt g2 (o2 + q * 33) L2 ∧ wS.cell? ⟨X, 74, none⟩ = some (.slice (some ⟨g, o, none⟩) m1 Cm1) ∧ wS.cell? ⟨Y, 74, none⟩ = some (.slice (some ⟨g2, o2, none⟩) m1 Cm2) ∧ wS.cell? ⟨g, o + q * 33 + 32, none⟩ = some (.slice yA yn yC) ∧ wS.cell? ⟨g2, o2 + q * 33 + 32, none⟩ = some (.slice zA zn zC) ∧ (convert 23 9 (.slice yA yn yC)).run Try.prog wS = .ok (.string T1) wS ∧ (convert 23 9 (.slice zA zn zC)).run Try.prog wS = .ok (.string T2) wS)) (by kernel_rfl) ?_ (fun hHeld => ?_)
                · ((try dsimp only); exact ⟨HX1.out, HX2.out, HC1.out, HC2.out, HD1.out, HD2.out, HV1.out, HV2.out⟩)
                refine wpAnyH_take (i := 0) (oi := { dst := some 85, op := Op.fieldAddr 68 (Operand.tmp 2) 5, type := 0, pos := "ref.go:473", after := #[], guard := none }) (v := ?_) rfl (by kernel_rfl) (by kernel_rfl) (by kernel_rfl) (fun _ _ _ h => h) (Or.inl ⟨by rfl, ?_⟩) (by assumption) ?_
                rotate_left 1
                · ((intro w hSw; (try dsimp only at hSw); go_simp) <;> with_reducible rfl)
                (try simp only [Act.put, List.setIfInBounds_toArray, List.set_cons_zero, List.set_cons_succ])
                refine wpAnyH_take (i := 1) (oi := { dst := some 86, op := Op.load 66 (Operand.tmp 85), type := 66, pos := "ref.go:473", after := #[{ on := 0, ground := Ground.data }], guard := none }) (v := ?_) rfl (by kernel_rfl) (by kernel_rfl) (by kernel_rfl) (fun _ _ _ h => h) (Or.inl ⟨by rfl, ?_⟩) (by assumption) ?_
                rotate_left 1
                · ((intro w hSw; (try dsimp only at hSw); go_simp) <;> with_reducible rfl)
                (try simp only [Act.put, List.setIfInBounds_toArray, List.set_cons_zero, List.set_cons_succ])
                refine wpAnyH_take (i := 2) (oi := { dst := some 87, op := Op.move (Operand.tmp 6), type := 3, pos := "ref.go:473", after := #[], guard := none }) (v := ?_) rfl (by kernel_rfl) (by kernel_rfl) (by kernel_rfl) (fun _ _ _ h => h) (Or.inl ⟨by rfl, ?_⟩) (by assumption) ?_
                rotate_left 1
                · ((intro w hSw; (try dsimp only at hSw); go_simp) <;> with_reducible rfl)
                (try simp only [Act.put, List.setIfInBounds_toArray, List.set_cons_zero, List.set_cons_succ])
                refine wpAnyH_take (i := 3) (oi := { dst := some 88, op := Op.indexAddr 66 (Operand.tmp 86) (Operand.tmp 87), type := 0, pos := "ref.go:473", after := #[{ on := 1, ground := Ground.data }, { on := 2, ground := Ground.data }], guard := none }) (v := ?_) rfl (by kernel_rfl) (by kernel_rfl) (by kernel_rfl) (fun _ _ _ h => h) (Or.inl ⟨by rfl, ?_⟩) (by assumption) ?_
                rotate_left 1
                · ((intro w hSw; (try dsimp only at hSw); go_simp) <;> with_reducible rfl)
                (try simp only [Act.put, List.setIfInBounds_toArray, List.set_cons_zero, List.set_cons_succ])
                refine wpAnyH_take (i := 4) (oi := { dst := some 89, op := Op.fieldAddr 128 (Operand.tmp 88) 0, type := 0, pos := "ref.go:473", after := #[{ on := 3, ground := Ground.data }], guard := none }) (v := ?_) rfl (by kernel_rfl) (by kernel_rfl) (by kernel_rfl) (fun _ _ _ h => h) (Or.inl ⟨by rfl, ?_⟩) (by assumption) ?_
                rotate_left 1
                · ((intro w hSw; (try dsimp only at hSw); go_simp) <;> with_reducible rfl)
                (try simp only [Act.put, List.setIfInBounds_toArray, List.set_cons_zero, List.set_cons_succ])
                refine' wpAnyH_take (i := 5) (oi := { dst := some 90, op := Op.load 37 (Operand.tmp 89), type := 37, pos := "ref.go:473", after := #[{ on := 4, ground := Ground.data }], guard := none }) (v := _) rfl (by kernel_rfl) (by kernel_rfl) (by kernel_rfl) (fun _ _ _ h => h) (yieldsIf_load_mid (by rfl) _ _ rfl _ _ rfl L1 _ (fun w hSw => hSw.1) Try.underlying37 rfl hS1.out) (by assumption) ?_
                (try simp only [Act.put, List.setIfInBounds_toArray, List.set_cons_zero, List.set_cons_succ])
                refine wpAnyH_take (i := 6) (oi := { dst := some 91, op := Op.fieldAddr 68 (Operand.tmp 3) 5, type := 0, pos := "ref.go:473", after := #[], guard := none }) (v := ?_) rfl (by kernel_rfl) (by kernel_rfl) (by kernel_rfl) (fun _ _ _ h => h) (Or.inl ⟨by rfl, ?_⟩) (by assumption) ?_
                rotate_left 1
                · ((intro w hSw; (try dsimp only at hSw); go_simp) <;> with_reducible rfl)
                (try simp only [Act.put, List.setIfInBounds_toArray, List.set_cons_zero, List.set_cons_succ])
                refine wpAnyH_take (i := 7) (oi := { dst := some 92, op := Op.load 66 (Operand.tmp 91), type := 66, pos := "ref.go:473", after := #[{ on := 6, ground := Ground.data }], guard := none }) (v := ?_) rfl (by kernel_rfl) (by kernel_rfl) (by kernel_rfl) (fun _ _ _ h => h) (Or.inl ⟨by rfl, ?_⟩) (by assumption) ?_
                rotate_left 1
                · ((intro w hSw; (try dsimp only at hSw); go_simp) <;> with_reducible rfl)
                (try simp only [Act.put, List.setIfInBounds_toArray, List.set_cons_zero, List.set_cons_succ])
                refine wpAnyH_take (i := 8) (oi := { dst := some 93, op := Op.move (Operand.tmp 6), type := 3, pos := "ref.go:473", after := #[], guard := none }) (v := ?_) rfl (by kernel_rfl) (by kernel_rfl) (by kernel_rfl) (fun _ _ _ h => h) (Or.inl ⟨by rfl, ?_⟩) (by assumption) ?_
                rotate_left 1
                · ((intro w hSw; (try dsimp only at hSw); go_simp) <;> with_reducible rfl)
                (try simp only [Act.put, List.setIfInBounds_toArray, List.set_cons_zero, List.set_cons_succ])
                refine wpAnyH_take (i := 9) (oi := { dst := some 94, op := Op.indexAddr 66 (Operand.tmp 92) (Operand.tmp 93), type := 0, pos := "ref.go:473", after := #[{ on := 7, ground := Ground.data }, { on := 8, ground := Ground.data }], guard := none }) (v := ?_) rfl (by kernel_rfl) (by kernel_rfl) (by kernel_rfl) (fun _ _ _ h => h) (Or.inl ⟨by rfl, ?_⟩) (by assumption) ?_
                rotate_left 1
                · ((intro w hSw; (try dsimp only at hSw); go_simp) <;> with_reducible rfl)
                (try simp only [Act.put, List.setIfInBounds_toArray, List.set_cons_zero, List.set_cons_succ])
                refine wpAnyH_take (i := 10) (oi := { dst := some 95, op := Op.fieldAddr 128 (Operand.tmp 94) 0, type := 0, pos := "ref.go:473", after := #[{ on := 9, ground := Ground.data }], guard := none }) (v := ?_) rfl (by kernel_rfl) (by kernel_rfl) (by kernel_rfl) (fun _ _ _ h => h) (Or.inl ⟨by rfl, ?_⟩) (by assumption) ?_
                rotate_left 1
                · ((intro w hSw; (try dsimp only at hSw); go_simp) <;> with_reducible rfl)
                (try simp only [Act.put, List.setIfInBounds_toArray, List.set_cons_zero, List.set_cons_succ])
                refine' wpAnyH_take (i := 11) (oi := { dst := some 96, op := Op.load 37 (Operand.tmp 95), type := 37, pos := "ref.go:473", after := #[{ on := 10, ground := Ground.data }], guard := none }) (v := _) rfl (by kernel_rfl) (by kernel_rfl) (by kernel_rfl) (fun _ _ _ h => h) (yieldsIf_load_mid (by rfl) _ _ rfl _ _ rfl L2 _ (fun w hSw => hSw.2.1) Try.underlying37 rfl hS2.out) (by assumption) ?_
                (try simp only [Act.put, List.setIfInBounds_toArray, List.set_cons_zero, List.set_cons_succ])
                refine wpAnyH_take (i := 12) (oi := { dst := some 97, op := Op.binOp BinOp.neq 37 (Operand.tmp 90) (Operand.tmp 96) 37, type := 4, pos := "ref.go:473", after := #[{ on := 5, ground := Ground.data }, { on := 11, ground := Ground.data }], guard := none }) (v := ?_) rfl (by kernel_rfl) (by kernel_rfl) (by kernel_rfl) (fun _ _ _ h => h) (Or.inl ⟨by rfl, ?_⟩) (by assumption) ?_
                rotate_left 1
                · ((intro w hSw; (try dsimp only at hSw); go_simp) <;> with_reducible rfl)
                (try simp only [Act.put, List.setIfInBounds_toArray, List.set_cons_zero, List.set_cons_succ])
                refine wpAnyH_take (i := 13) (oi := { dst := some 98, op := Op.move (Operand.tmp 97), type := 4, pos := "ref.go:473", after := #[{ on := 12, ground := Ground.data }], guard := none }) (v := ?_) rfl (by kernel_rfl) (by kernel_rfl) (by kernel_rfl) (fun _ _ _ h => h) (Or.inl ⟨by rfl, ?_⟩) (by assumption) ?_
                rotate_left 1
                · ((intro w hSw; (try dsimp only at hSw); go_simp) <;> with_reducible rfl)
                (try simp only [Act.put, List.setIfInBounds_toArray, List.set_cons_zero, List.set_cons_succ])
                refine wpAnyH_take (i := 14) (oi := { dst := some 99, op := Op.fieldAddr 68 (Operand.tmp 2) 5, type := 0, pos := "ref.go:473", after := #[{ on := 13, ground := Ground.guard }], guard := some (13, false) }) (v := ?_) rfl (by kernel_rfl) (by kernel_rfl) (by kernel_rfl) (fun _ _ _ h => h) (Or.inl ⟨by rfl, ?_⟩) (by assumption) ?_
                rotate_left 1
                · ((intro w hSw; (try dsimp only at hSw); go_simp) <;> with_reducible rfl)
                (try simp only [Act.put, List.setIfInBounds_toArray, List.set_cons_zero, List.set_cons_succ])
                refine wpAnyH_take (i := 15) (oi := { dst := some 100, op := Op.load 66 (Operand.tmp 99), type := 66, pos := "ref.go:473", after := #[{ on := 14, ground := Ground.data }, { on := 13, ground := Ground.guard }], guard := some (13, false) }) (v := ?_) rfl (by kernel_rfl) (by kernel_rfl) (by kernel_rfl) (fun _ _ _ h => h) (Or.inl ⟨by rfl, ?_⟩) (by assumption) ?_
                rotate_left 1
                · ((intro w hSw; (try dsimp only at hSw); go_simp) <;> with_reducible rfl)
                (try simp only [Act.put, List.setIfInBounds_toArray, List.set_cons_zero, List.set_cons_succ])
                refine wpAnyH_take (i := 16) (oi := { dst := some 101, op := Op.move (Operand.tmp 6), type := 3, pos := "ref.go:473", after := #[{ on := 13, ground := Ground.guard }], guard := some (13, false) }) (v := ?_) rfl (by kernel_rfl) (by kernel_rfl) (by kernel_rfl) (fun _ _ _ h => h) (Or.inl ⟨by rfl, ?_⟩) (by assumption) ?_
                rotate_left 1
                · ((intro w hSw; (try dsimp only at hSw); go_simp) <;> with_reducible rfl)
                (try simp only [Act.put, List.setIfInBounds_toArray, List.set_cons_zero, List.set_cons_succ])
                refine wpAnyH_take (i := 17) (oi := { dst := some 102, op := Op.indexAddr 66 (Operand.tmp 100) (Operand.tmp 101), type := 0, pos := "ref.go:473", after := #[{ on := 15, ground := Ground.data }, { on := 16, ground := Ground.data }, { on := 13, ground := Ground.guard }], guard := some (13, false) }) (v := ?_) rfl (by kernel_rfl) (by kernel_rfl) (by kernel_rfl) (fun _ _ _ h => h) (Or.inl ⟨by rfl, ?_⟩) (by assumption) ?_
                rotate_left 1
                · ((intro w hSw; (try dsimp only at hSw); go_simp) <;> with_reducible rfl)
                (try simp only [Act.put, List.setIfInBounds_toArray, List.set_cons_zero, List.set_cons_succ])
                refine wpAnyH_take (i := 18) (oi := { dst := some 103, op := Op.fieldAddr 128 (Operand.tmp 102) 1, type := 0, pos := "ref.go:473", after := #[{ on := 17, ground := Ground.data }, { on := 13, ground := Ground.guard }], guard := some (13, false) }) (v := ?_) rfl (by kernel_rfl) (by kernel_rfl) (by kernel_rfl) (fun _ _ _ h => h) (Or.inl ⟨by rfl, ?_⟩) (by assumption) ?_
                rotate_left 1
                · ((intro w hSw; (try dsimp only at hSw); go_simp) <;> with_reducible rfl)
                (try simp only [Act.put, List.setIfInBounds_toArray, List.set_cons_zero, List.set_cons_succ])
                refine wpAnyH_take (i := 19) (oi := { dst := some 104, op := Op.load 23 (Operand.tmp 103), type := 23, pos := "ref.go:473", after := #[{ on := 18, ground := Ground.data }, { on := 13, ground := Ground.guard }], guard := some (13, false) }) (v := ?_) rfl (by kernel_rfl) (by kernel_rfl) (by kernel_rfl) (fun _ _ _ h => h) (Or.inl ⟨by rfl, ?_⟩) (by assumption) ?_
                rotate_left 1
                · ((intro w hSw; (try dsimp only at hSw); go_simp) <;> with_reducible rfl)
                (try simp only [Act.put, List.setIfInBounds_toArray, List.set_cons_zero, List.set_cons_succ])
                refine wpAnyH_take (i := 20) (oi := { dst := some 105, op := Op.convert 23 9 (Operand.tmp 104), type := 9, pos := "ref.go:473", after := #[{ on := 19, ground := Ground.data }, { on := 13, ground := Ground.guard }], guard := some (13, false) }) (v := ?_) rfl (by kernel_rfl) (by kernel_rfl) (by kernel_rfl) (fun _ _ _ h => h) (Or.inl ⟨by rfl, ?_⟩) (by assumption) ?_
                rotate_left 1
                · ((intro w hSw; (try dsimp only at hSw); go_simp) <;> with_reducible rfl)
                (try simp only [Act.put, List.setIfInBounds_toArray, List.set_cons_zero, List.set_cons_succ])
                refine wpAnyH_take (i := 21) (oi := { dst := some 106, op := Op.fieldAddr 68 (Operand.tmp 3) 5, type := 0, pos := "ref.go:473", after := #[{ on := 13, ground := Ground.guard }], guard := some (13, false) }) (v := ?_) rfl (by kernel_rfl) (by kernel_rfl) (by kernel_rfl) (fun _ _ _ h => h) (Or.inl ⟨by rfl, ?_⟩) (by assumption) ?_
                rotate_left 1
                · ((intro w hSw; (try dsimp only at hSw); go_simp) <;> with_reducible rfl)
                (try simp only [Act.put, List.setIfInBounds_toArray, List.set_cons_zero, List.set_cons_succ])
                refine wpAnyH_take (i := 22) (oi := { dst := some 107, op := Op.load 66 (Operand.tmp 106), type := 66, pos := "ref.go:473", after := #[{ on := 21, ground := Ground.data }, { on := 13, ground := Ground.guard }], guard := some (13, false) }) (v := ?_) rfl (by kernel_rfl) (by kernel_rfl) (by kernel_rfl) (fun _ _ _ h => h) (Or.inl ⟨by rfl, ?_⟩) (by assumption) ?_
                rotate_left 1
                · ((intro w hSw; (try dsimp only at hSw); go_simp) <;> with_reducible rfl)
                (try simp only [Act.put, List.setIfInBounds_toArray, List.set_cons_zero, List.set_cons_succ])
                refine wpAnyH_take (i := 23) (oi := { dst := some 108, op := Op.move (Operand.tmp 6), type := 3, pos := "ref.go:473", after := #[{ on := 13, ground := Ground.guard }], guard := some (13, false) }) (v := ?_) rfl (by kernel_rfl) (by kernel_rfl) (by kernel_rfl) (fun _ _ _ h => h) (Or.inl ⟨by rfl, ?_⟩) (by assumption) ?_
                rotate_left 1
                · ((intro w hSw; (try dsimp only at hSw); go_simp) <;> with_reducible rfl)
                (try simp only [Act.put, List.setIfInBounds_toArray, List.set_cons_zero, List.set_cons_succ])
                refine wpAnyH_take (i := 24) (oi := { dst := some 109, op := Op.indexAddr 66 (Operand.tmp 107) (Operand.tmp 108), type := 0, pos := "ref.go:473", after := #[{ on := 22, ground := Ground.data }, { on := 23, ground := Ground.data }, { on := 13, ground := Ground.guard }], guard := some (13, false) }) (v := ?_) rfl (by kernel_rfl) (by kernel_rfl) (by kernel_rfl) (fun _ _ _ h => h) (Or.inl ⟨by rfl, ?_⟩) (by assumption) ?_
                rotate_left 1
                · ((intro w hSw; (try dsimp only at hSw); go_simp) <;> with_reducible rfl)
                (try simp only [Act.put, List.setIfInBounds_toArray, List.set_cons_zero, List.set_cons_succ])
                refine wpAnyH_take (i := 25) (oi := { dst := some 110, op := Op.fieldAddr 128 (Operand.tmp 109) 1, type := 0, pos := "ref.go:473", after := #[{ on := 24, ground := Ground.data }, { on := 13, ground := Ground.guard }], guard := some (13, false) }) (v := ?_) rfl (by kernel_rfl) (by kernel_rfl) (by kernel_rfl) (fun _ _ _ h => h) (Or.inl ⟨by rfl, ?_⟩) (by assumption) ?_
                rotate_left 1
                · ((intro w hSw; (try dsimp only at hSw); go_simp) <;> with_reducible rfl)
                (try simp only [Act.put, List.setIfInBounds_toArray, List.set_cons_zero, List.set_cons_succ])
                refine wpAnyH_take (i := 26) (oi := { dst := some 111, op := Op.load 23 (Operand.tmp 110), type := 23, pos := "ref.go:473", after := #[{ on := 25, ground := Ground.data }, { on := 13, ground := Ground.guard }], guard := some (13, false) }) (v := ?_) rfl (by kernel_rfl) (by kernel_rfl) (by kernel_rfl) (fun _ _ _ h => h) (Or.inl ⟨by rfl, ?_⟩) (by assumption) ?_
                rotate_left 1
                · ((intro w hSw; (try dsimp only at hSw); go_simp) <;> with_reducible rfl)
                (try simp only [Act.put, List.setIfInBounds_toArray, List.set_cons_zero, List.set_cons_succ])
                refine wpAnyH_take (i := 27) (oi := { dst := some 112, op := Op.convert 23 9 (Operand.tmp 111), type := 9, pos := "ref.go:473", after := #[{ on := 26, ground := Ground.data }, { on := 13, ground := Ground.guard }], guard := some (13, false) }) (v := ?_) rfl (by kernel_rfl) (by kernel_rfl) (by kernel_rfl) (fun _ _ _ h => h) (Or.inl ⟨by rfl, ?_⟩) (by assumption) ?_
                rotate_left 1
                · ((intro w hSw; (try dsimp only at hSw); go_simp) <;> with_reducible rfl)
                (try simp only [Act.put, List.setIfInBounds_toArray, List.set_cons_zero, List.set_cons_succ])
                refine wpAnyH_take (i := 28) (oi := { dst := some 113, op := Op.binOp BinOp.neq 9 (Operand.tmp 105) (Operand.tmp 112) 9, type := 4, pos := "ref.go:473", after := #[{ on := 20, ground := Ground.data }, { on := 27, ground := Ground.data }, { on := 13, ground := Ground.guard }], guard := some (13, false) }) (v := ?_) rfl (by kernel_rfl) (by kernel_rfl) (by kernel_rfl) (fun _ _ _ h => h) (Or.inl ⟨by rfl, ?_⟩) (by assumption) ?_
                rotate_left 1
                · ((intro w hSw; (try dsimp only at hSw); go_simp) <;> with_reducible rfl)
                (try simp only [Act.put, List.setIfInBounds_toArray, List.set_cons_zero, List.set_cons_succ])
                refine wpAnyH_take (i := 29) (oi := { dst := some 114, op := Op.pick (Operand.tmp 98) (Operand.const (Value.bool true)) (Operand.tmp 113), type := 4, pos := "ref.go:473", after := #[{ on := 13, ground := Ground.data }, { on := 28, ground := Ground.data }], guard := none }) (v := ?_) rfl (by kernel_rfl) (by kernel_rfl) (by kernel_rfl) (fun _ _ _ h => h) (Or.inl ⟨by rfl, ?_⟩) (by assumption) ?_
                rotate_left 1
                · ((intro w hSw; (try dsimp only at hSw); go_simp) <;> with_reducible rfl)
                (try simp only [Act.put, List.setIfInBounds_toArray, List.set_cons_zero, List.set_cons_succ])
                refine wpAnyH_done (by kernel_rfl) ?_ _
                refine NoPanic.normal ?_
                skip
                go_wp2_with fail
                exact HPost.out false _ (by rw [HE.out, ← HSt.out]) (HB.out.trans (HBd.out.mono hsw))
              · rw [Bool.true_and] at HSt
                have HSt2 := Lib.hid HSt.out.symm
                go_wp2_with fail
                clear hq1 hq2
                refine wp_region_noPanic ?_
                refine wp_region_held_drew (S := (fun wS => wS.rangeAt g (o + q * 33) L1 ∧ wS.rangeAt g2 (o2 + q * 33) L2 ∧ wS.cell? ⟨X, 74, none⟩ = some (.slice (some ⟨g, o, none⟩) m1 Cm1) ∧ wS.cell? ⟨Y, 74, none⟩ = some (.slice (some ⟨g2, o2, none⟩) m1 Cm2) ∧ wS.cell? ⟨g, o + q * 33 + 32, none⟩ = some (.slice yA yn yC) ∧ wS.cell? ⟨g2, o2 + q * 33 + 32, none⟩ = some (.slice zA zn zC) ∧ (convert 23 9 (.slice yA yn yC)).run Try.prog wS = .ok (.string T1) wS ∧ (convert 23 9 (.slice zA zn zC)).run Try.prog wS = .ok (.string T2) wS)) (by kernel_rfl) ?_ (fun hHeld => ?_)
                · ((try dsimp only); exact ⟨HX1.out, HX2.out, HC1.out, HC2.out, HD1.out, HD2.out, HV1.out, HV2.out⟩)
                refine wpAnyH_take (i := 0) (oi := { dst := some 85, op := Op.fieldAddr 68 (Operand.tmp 2) 5, type := 0, pos := "ref.go:473", after := #[], guard := none }) (v := ?_) rfl (by kernel_rfl) (by kernel_rfl) (by kernel_rfl) (fun _ _ _ h => h) (Or.inl ⟨by rfl, ?_⟩) (by assumption) ?_
                rotate_left 1
                · ((intro w hSw; (try dsimp only at hSw); go_simp) <;> with_reducible rfl)
                (try simp only [Act.put, List.setIfInBounds_toArray, List.set_cons_zero, List.set_cons_succ])
                refine wpAnyH_take (i := 1) (oi := { dst := some 86, op := Op.load 66 (Operand.tmp 85), type := 66, pos := "ref.go:473", after := #[{ on := 0, ground := Ground.data }], guard := none }) (v := ?_) rfl (by kernel_rfl) (by kernel_rfl) (by kernel_rfl) (fun _ _ _ h => h) (Or.inl ⟨by rfl, ?_⟩) (by assumption) ?_
                rotate_left 1
                · ((intro w hSw; (try dsimp only at hSw); go_simp) <;> with_reducible rfl)
                (try simp only [Act.put, List.setIfInBounds_toArray, List.set_cons_zero, List.set_cons_succ])
                refine wpAnyH_take (i := 2) (oi := { dst := some 87, op := Op.move (Operand.tmp 6), type := 3, pos := "ref.go:473", after := #[], guard := none }) (v := ?_) rfl (by kernel_rfl) (by kernel_rfl) (by kernel_rfl) (fun _ _ _ h => h) (Or.inl ⟨by rfl, ?_⟩) (by assumption) ?_
                rotate_left 1
                · ((intro w hSw; (try dsimp only at hSw); go_simp) <;> with_reducible rfl)
                (try simp only [Act.put, List.setIfInBounds_toArray, List.set_cons_zero, List.set_cons_succ])
                refine wpAnyH_take (i := 3) (oi := { dst := some 88, op := Op.indexAddr 66 (Operand.tmp 86) (Operand.tmp 87), type := 0, pos := "ref.go:473", after := #[{ on := 1, ground := Ground.data }, { on := 2, ground := Ground.data }], guard := none }) (v := ?_) rfl (by kernel_rfl) (by kernel_rfl) (by kernel_rfl) (fun _ _ _ h => h) (Or.inl ⟨by rfl, ?_⟩) (by assumption) ?_
                rotate_left 1
                · ((intro w hSw; (try dsimp only at hSw); go_simp) <;> with_reducible rfl)
                (try simp only [Act.put, List.setIfInBounds_toArray, List.set_cons_zero, List.set_cons_succ])
                refine wpAnyH_take (i := 4) (oi := { dst := some 89, op := Op.fieldAddr 128 (Operand.tmp 88) 0, type := 0, pos := "ref.go:473", after := #[{ on := 3, ground := Ground.data }], guard := none }) (v := ?_) rfl (by kernel_rfl) (by kernel_rfl) (by kernel_rfl) (fun _ _ _ h => h) (Or.inl ⟨by rfl, ?_⟩) (by assumption) ?_
                rotate_left 1
                · ((intro w hSw; (try dsimp only at hSw); go_simp) <;> with_reducible rfl)
                (try simp only [Act.put, List.setIfInBounds_toArray, List.set_cons_zero, List.set_cons_succ])
                refine' wpAnyH_take (i := 5) (oi := { dst := some 90, op := Op.load 37 (Operand.tmp 89), type := 37, pos := "ref.go:473", after := #[{ on := 4, ground := Ground.data }], guard := none }) (v := _) rfl (by kernel_rfl) (by kernel_rfl) (by kernel_rfl) (fun _ _ _ h => h) (yieldsIf_load_mid (by rfl) _ _ rfl _ _ rfl L1 _ (fun w hSw => hSw.1) Try.underlying37 rfl hS1.out) (by assumption) ?_
                (try simp only [Act.put, List.setIfInBounds_toArray, List.set_cons_zero, List.set_cons_succ])
                refine wpAnyH_take (i := 6) (oi := { dst := some 91, op := Op.fieldAddr 68 (Operand.tmp 3) 5, type := 0, pos := "ref.go:473", after := #[], guard := none }) (v := ?_) rfl (by kernel_rfl) (by kernel_rfl) (by kernel_rfl) (fun _ _ _ h => h) (Or.inl ⟨by rfl, ?_⟩) (by assumption) ?_
                rotate_left 1
                · ((intro w hSw; (try dsimp only at hSw); go_simp) <;> with_reducible rfl)
                (try simp only [Act.put, List.setIfInBounds_toArray, List.set_cons_zero, List.set_cons_succ])
                refine wpAnyH_take (i := 7) (oi := { dst := some 92, op := Op.load 66 (Operand.tmp 91), type := 66, pos := "ref.go:473", after := #[{ on := 6, ground := Ground.data }], guard := none }) (v := ?_) rfl (by kernel_rfl) (by kernel_rfl) (by kernel_rfl) (fun _ _ _ h => h) (Or.inl ⟨by rfl, ?_⟩) (by assumption) ?_
                rotate_left 1
                · ((intro w hSw; (try dsimp only at hSw); go_simp) <;> with_reducible rfl)
                (try simp only [Act.put, List.setIfInBounds_toArray, List.set_cons_zero, List.set_cons_succ])
                refine wpAnyH_take (i := 8) (oi := { dst := some 93, op := Op.move (Operand.tmp 6), type := 3, pos := "ref.go:473", after := #[], guard := none }) (v := ?_) rfl (by kernel_rfl) (by kernel_rfl) (by kernel_rfl) (fun _ _ _ h => h) (Or.inl ⟨by rfl, ?_⟩) (by assumption) ?_
                rotate_left 1
                · ((intro w hSw; (try dsimp only at hSw); go_simp) <;> with_reducible rfl)
                (try simp only [Act.put, List.setIfInBounds_toArray, List.set_cons_zero, List.set_cons_succ])
                refine wpAnyH_take (i := 9) (oi := { dst := some 94, op := Op.indexAddr 66 (Operand.tmp 92) (Operand.tmp 93), type := 0, pos := "ref.go:473", after := #[{ on := 7, ground := Ground.data }, { on := 8, ground := Ground.data }], guard := none }) (v := ?_) rfl (by kernel_rfl) (by kernel_rfl) (by kernel_rfl) (fun _ _ _ h => h) (Or.inl ⟨by rfl, ?_⟩) (by assumption) ?_
                rotate_left 1
                · ((intro w hSw; (try dsimp only at hSw); go_simp) <;> with_reducible rfl)
                (try simp only [Act.put, List.setIfInBounds_toArray, List.set_cons_zero, List.set_cons_succ])
                refine wpAnyH_take (i := 10) (oi := { dst := some 95, op := Op.fieldAddr 128 (Operand.tmp 94) 0, type := 0, pos := "ref.go:473", after := #[{ on := 9, ground := Ground.data }], guard := none }) (v := ?_) rfl (by kernel_rfl) (by kernel_rfl) (by kernel_rfl) (fun _ _ _ h => h) (Or.inl ⟨by rfl, ?_⟩) (by assumption) ?_
                rotate_left 1
                · ((intro w hSw; (try dsimp only at hSw); go_simp) <;> with_reducible rfl)
                (try simp only [Act.put, List.setIfInBounds_toArray, List.set_cons_zero, List.set_cons_succ])
                refine' wpAnyH_take (i := 11) (oi := { dst := some 96, op := Op.load 37 (Operand.tmp 95), type := 37, pos := "ref.go:473", after := #[{ on := 10, ground := Ground.data }], guard := none }) (v := _) rfl (by kernel_rfl) (by kernel_rfl) (by kernel_rfl) (fun _ _ _ h => h) (yieldsIf_load_mid (by rfl) _ _ rfl _ _ rfl L2 _ (fun w hSw => hSw.2.1) Try.underlying37 rfl hS2.out) (by assumption) ?_
                (try simp only [Act.put, List.setIfInBounds_toArray, List.set_cons_zero, List.set_cons_succ])
                refine wpAnyH_take (i := 12) (oi := { dst := some 97, op := Op.binOp BinOp.neq 37 (Operand.tmp 90) (Operand.tmp 96) 37, type := 4, pos := "ref.go:473", after := #[{ on := 5, ground := Ground.data }, { on := 11, ground := Ground.data }], guard := none }) (v := ?_) rfl (by kernel_rfl) (by kernel_rfl) (by kernel_rfl) (fun _ _ _ h => h) (Or.inl ⟨by rfl, ?_⟩) (by assumption) ?_
                rotate_left 1
                · ((intro w hSw; (try dsimp only at hSw); go_simp) <;> with_reducible rfl)
                (try simp only [Act.put, List.setIfInBounds_toArray, List.set_cons_zero, List.set_cons_succ])
                refine wpAnyH_take (i := 13) (oi := { dst := some 98, op := Op.move (Operand.tmp 97), type := 4, pos := "ref.go:473", after := #[{ on := 12, ground := Ground.data }], guard := none }) (v := ?_) rfl (by kernel_rfl) (by kernel_rfl) (by kernel_rfl) (fun _ _ _ h => h) (Or.inl ⟨by rfl, ?_⟩) (by assumption) ?_
                rotate_left 1
                · ((intro w hSw; (try dsimp only at hSw); go_simp) <;> with_reducible rfl)
                (try simp only [Act.put, List.setIfInBounds_toArray, List.set_cons_zero, List.set_cons_succ])
                refine wpAnyH_take (i := 14) (oi := { dst := some 99, op := Op.fieldAddr 68 (Operand.tmp 2) 5, type := 0, pos := "ref.go:473", after := #[{ on := 13, ground := Ground.guard }], guard := some (13, false) }) (v := ?_) rfl (by kernel_rfl) (by kernel_rfl) (by kernel_rfl) (fun _ _ _ h => h) (Or.inl ⟨by rfl, ?_⟩) (by assumption) ?_
                rotate_left 1
                · ((intro w hSw; (try dsimp only at hSw); go_simp) <;> with_reducible rfl)
                (try simp only [Act.put, List.setIfInBounds_toArray, List.set_cons_zero, List.set_cons_succ])
                refine wpAnyH_take (i := 15) (oi := { dst := some 100, op := Op.load 66 (Operand.tmp 99), type := 66, pos := "ref.go:473", after := #[{ on := 14, ground := Ground.data }, { on := 13, ground := Ground.guard }], guard := some (13, false) }) (v := ?_) rfl (by kernel_rfl) (by kernel_rfl) (by kernel_rfl) (fun _ _ _ h => h) (Or.inl ⟨by rfl, ?_⟩) (by assumption) ?_
                rotate_left 1
                · ((intro w hSw; (try dsimp only at hSw); go_simp) <;> with_reducible rfl)
                (try simp only [Act.put, List.setIfInBounds_toArray, List.set_cons_zero, List.set_cons_succ])
                refine wpAnyH_take (i := 16) (oi := { dst := some 101, op := Op.move (Operand.tmp 6), type := 3, pos := "ref.go:473", after := #[{ on := 13, ground := Ground.guard }], guard := some (13, false) }) (v := ?_) rfl (by kernel_rfl) (by kernel_rfl) (by kernel_rfl) (fun _ _ _ h => h) (Or.inl ⟨by rfl, ?_⟩) (by assumption) ?_
                rotate_left 1
                · ((intro w hSw; (try dsimp only at hSw); go_simp) <;> with_reducible rfl)
                (try simp only [Act.put, List.setIfInBounds_toArray, List.set_cons_zero, List.set_cons_succ])
                refine wpAnyH_take (i := 17) (oi := { dst := some 102, op := Op.indexAddr 66 (Operand.tmp 100) (Operand.tmp 101), type := 0, pos := "ref.go:473", after := #[{ on := 15, ground := Ground.data }, { on := 16, ground := Ground.data }, { on := 13, ground := Ground.guard }], guard := some (13, false) }) (v := ?_) rfl (by kernel_rfl) (by kernel_rfl) (by kernel_rfl) (fun _ _ _ h => h) (Or.inl ⟨by rfl, ?_⟩) (by assumption) ?_
                rotate_left 1
                · ((intro w hSw; (try dsimp only at hSw); go_simp) <;> with_reducible rfl)
                (try simp only [Act.put, List.setIfInBounds_toArray, List.set_cons_zero, List.set_cons_succ])
                refine wpAnyH_take (i := 18) (oi := { dst := some 103, op := Op.fieldAddr 128 (Operand.tmp 102) 1, type := 0, pos := "ref.go:473", after := #[{ on := 17, ground := Ground.data }, { on := 13, ground := Ground.guard }], guard := some (13, false) }) (v := ?_) rfl (by kernel_rfl) (by kernel_rfl) (by kernel_rfl) (fun _ _ _ h => h) (Or.inl ⟨by rfl, ?_⟩) (by assumption) ?_
                rotate_left 1
                · ((intro w hSw; (try dsimp only at hSw); go_simp) <;> with_reducible rfl)
                (try simp only [Act.put, List.setIfInBounds_toArray, List.set_cons_zero, List.set_cons_succ])
                refine wpAnyH_take (i := 19) (oi := { dst := some 104, op := Op.load 23 (Operand.tmp 103), type := 23, pos := "ref.go:473", after := #[{ on := 18, ground := Ground.data }, { on := 13, ground := Ground.guard }], guard := some (13, false) }) (v := ?_) rfl (by kernel_rfl) (by kernel_rfl) (by kernel_rfl) (fun _ _ _ h => h) (Or.inl ⟨by rfl, ?_⟩) (by assumption) ?_
                rotate_left 1
                · ((intro w hSw; (try dsimp only at hSw); go_simp) <;> with_reducible rfl)
                (try simp only [Act.put, List.setIfInBounds_toArray, List.set_cons_zero, List.set_cons_succ])
                refine wpAnyH_take (i := 20) (oi := { dst := some 105, op := Op.convert 23 9 (Operand.tmp 104), type := 9, pos := "ref.go:473", after := #[{ on := 19, ground := Ground.data }, { on := 13, ground := Ground.guard }], guard := some (13, false) }) (v := ?_) rfl (by kernel_rfl) (by kernel_rfl) (by kernel_rfl) (fun _ _ _ h => h) (Or.inl ⟨by rfl, ?_⟩) (by assumption) ?_
                rotate_left 1
                · ((intro w hSw; (try dsimp only at hSw); go_simp) <;> with_reducible rfl)
                (try simp only [Act.put, List.setIfInBounds_toArray, List.set_cons_zero, List.set_cons_succ])
                refine wpAnyH_take (i := 21) (oi := { dst := some 106, op := Op.fieldAddr 68 (Operand.tmp 3) 5, type := 0, pos := "ref.go:473", after := #[{ on := 13, ground := Ground.guard }], guard := some (13, false) }) (v := ?_) rfl (by kernel_rfl) (by kernel_rfl) (by kernel_rfl) (fun _ _ _ h => h) (Or.inl ⟨by rfl, ?_⟩) (by assumption) ?_
                rotate_left 1
                · ((intro w hSw; (try dsimp only at hSw); go_simp) <;> with_reducible rfl)
                (try simp only [Act.put, List.setIfInBounds_toArray, List.set_cons_zero, List.set_cons_succ])
                refine wpAnyH_take (i := 22) (oi := { dst := some 107, op := Op.load 66 (Operand.tmp 106), type := 66, pos := "ref.go:473", after := #[{ on := 21, ground := Ground.data }, { on := 13, ground := Ground.guard }], guard := some (13, false) }) (v := ?_) rfl (by kernel_rfl) (by kernel_rfl) (by kernel_rfl) (fun _ _ _ h => h) (Or.inl ⟨by rfl, ?_⟩) (by assumption) ?_
                rotate_left 1
                · ((intro w hSw; (try dsimp only at hSw); go_simp) <;> with_reducible rfl)
                (try simp only [Act.put, List.setIfInBounds_toArray, List.set_cons_zero, List.set_cons_succ])
                refine wpAnyH_take (i := 23) (oi := { dst := some 108, op := Op.move (Operand.tmp 6), type := 3, pos := "ref.go:473", after := #[{ on := 13, ground := Ground.guard }], guard := some (13, false) }) (v := ?_) rfl (by kernel_rfl) (by kernel_rfl) (by kernel_rfl) (fun _ _ _ h => h) (Or.inl ⟨by rfl, ?_⟩) (by assumption) ?_
                rotate_left 1
                · ((intro w hSw; (try dsimp only at hSw); go_simp) <;> with_reducible rfl)
                (try simp only [Act.put, List.setIfInBounds_toArray, List.set_cons_zero, List.set_cons_succ])
                refine wpAnyH_take (i := 24) (oi := { dst := some 109, op := Op.indexAddr 66 (Operand.tmp 107) (Operand.tmp 108), type := 0, pos := "ref.go:473", after := #[{ on := 22, ground := Ground.data }, { on := 23, ground := Ground.data }, { on := 13, ground := Ground.guard }], guard := some (13, false) }) (v := ?_) rfl (by kernel_rfl) (by kernel_rfl) (by kernel_rfl) (fun _ _ _ h => h) (Or.inl ⟨by rfl, ?_⟩) (by assumption) ?_
                rotate_left 1
                · ((intro w hSw; (try dsimp only at hSw); go_simp) <;> with_reducible rfl)
                (try simp only [Act.put, List.setIfInBounds_toArray, List.set_cons_zero, List.set_cons_succ])
                refine wpAnyH_take (i := 25) (oi := { dst := some 110, op := Op.fieldAddr 128 (Operand.tmp 109) 1, type := 0, pos := "ref.go:473", after := #[{ on := 24, ground := Ground.data }, { on := 13, ground := Ground.guard }], guard := some (13, false) }) (v := ?_) rfl (by kernel_rfl) (by kernel_rfl) (by kernel_rfl) (fun _ _ _ h => h) (Or.inl ⟨by rfl, ?_⟩) (by assumption) ?_
                rotate_left 1
                · ((intro w hSw; (try dsimp only at hSw); go_simp) <;> with_reducible rfl)
                (try simp only [Act.put, List.setIfInBounds_toArray, List.set_cons_zero, List.set_cons_succ])
                refine wpAnyH_take (i := 26) (oi := { dst := some 111, op := Op.load 23 (Operand.tmp 110), type := 23, pos := "ref.go:473", after := #[{ on := 25, ground := Ground.data }, { on := 13, ground := Ground.guard }], guard := some (13, false) }) (v := ?_) rfl (by kernel_rfl) (by kernel_rfl) (by kernel_rfl) (fun _ _ _ h => h) (Or.inl ⟨by rfl, ?_⟩) (by assumption) ?_
                rotate_left 1
                · ((intro w hSw; (try dsimp only at hSw); go_simp) <;> with_reducible rfl)
                (try simp only [Act.put, List.setIfInBounds_toArray, List.set_cons_zero, List.set_cons_succ])
                refine wpAnyH_take (i := 27) (oi := { dst := some 112, op := Op.convert 23 9 (Operand.tmp 111), type := 9, pos := "ref.go:473", after := #[{ on := 26, ground := Ground.data }, { on := 13, ground := Ground.guard }], guard := some (13, false) }) (v := ?_) rfl (by kernel_rfl) (by kernel_rfl) (by kernel_rfl) (fun _ _ _ h => h) (Or.inl ⟨by rfl, ?_⟩) (by assumption) ?_
                rotate_left 1
                · ((intro w hSw; (try dsimp only at hSw); go_simp) <;> with_reducible rfl)
                (try simp only [Act.put, List.setIfInBounds_toArray, List.set_cons_zero, List.set_cons_succ])
                refine wpAnyH_take (i := 28) (oi := { dst := some 113, op := Op.binOp BinOp.neq 9 (Operand.tmp 105) (Operand.tmp 112) 9, type := 4, pos := "ref.go:473", after := #[{ on := 20, ground := Ground.data }, { on := 27, ground := Ground.data }, { on := 13, ground := Ground.guard }], guard := some (13, false) }) (v := ?_) rfl (by kernel_rfl) (by kernel_rfl) (by kernel_rfl) (fun _ _ _ h => h) (Or.inl ⟨by rfl, ?_⟩) (by assumption) ?_
                rotate_left 1
                · ((intro w hSw; (try dsimp only at hSw); go_simp) <;> with_reducible rfl)
                (try simp only [Act.put, List.setIfInBounds_toArray, List.set_cons_zero, List.set_cons_succ])
                refine wpAnyH_take (i := 29) (oi := { dst := some 114, op := Op.pick (Operand.tmp 98) (Operand.const (Value.bool true)) (Operand.tmp 113), type := 4, pos := "ref.go:473", after := #[{ on := 13, ground := Ground.data }, { on := 28, ground := Ground.data }], guard := none }) (v := ?_) rfl (by kernel_rfl) (by kernel_rfl) (by kernel_rfl) (fun _ _ _ h => h) (Or.inl ⟨by rfl, ?_⟩) (by assumption) ?_
                rotate_left 1
                · ((intro w hSw; (try dsimp only at hSw); go_simp) <;> with_reducible rfl)
                (try simp only [Act.put, List.setIfInBounds_toArray, List.set_cons_zero, List.set_cons_succ])
                refine wpAnyH_done (by kernel_rfl) ?_ _
                refine NoPanic.normal ?_
                skip
                go_wp2_with fail
                go_roundw
                case rel => exact ⟨q + 1, by go_num, by omega, HSt2, HBd⟩
                case measure => simp [intOf]; omega
          · have hd2 : decide ((q : Int) < (m1 : Int)) = false := by simp; omega
            have HE2 : Hid (eqL myEq ys1 ys2 = true) := Lib.hid (by
              have h := HF.out
              rw [List.drop_of_length_le (by rw [HLy1.out]; omega), List.drop_of_length_le (by rw [HLy2.out]; omega)] at h
              exact h.symm)
            clear HF
            go_wp2_with fail
            exact HPost.out true _ (by rw [HE.out]; exact HE2.out.symm) (HB.out.trans (HBr.out.mono hsw))
end Go.Proofs.Ytmcmapgllaopmaa.Cd
end
