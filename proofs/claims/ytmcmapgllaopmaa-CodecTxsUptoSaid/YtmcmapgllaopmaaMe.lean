/- Texts of one's own, merged: CdRTxS, CdTxC, CdRTxP, CdAsk, CdTxNum. -/
import Derived.Test.YtmcmapgllaopmaaMd

section
namespace Go.Proofs.Ytmcmapgllaopmaa.Cd
open Go.RowKit
set_option linter.unusedVariables false
/-- what (*Cur).seq hands back -/
def RqRet (w0 : World) (R O X : Nat) (hh : Bool) (hd : ByteArray) (mv : Value) (hs : Bool) (mm : Value) (A : Option Addr) (L C : Nat) (l : List Int) (p : Pl) (vM : Value) (nM : Nat) (xM : List Value) (e : Ending) (w' : World) : Prop :=
  (sBad l L p ∧ e = .returned (.bool true) ∧ ∃ D p', Wq w0 R O X D A L C l p' w') ∨
  (¬ sBad l L p ∧ e = .returned (.bool false) ∧ ∃ Ai Ci, Wq w0 R O X (txV hh hd mv hs ((sqP l L p).cells (.slice Ai (sqP l L p).ts.length Ci)) mm) A L C l (sqE l L p) w' ∧
    w'.ownsRow (X + 1) 84 33 (.slice Ai (sqP l L p).ts.length Ci) (sqP l L p).ts.length (tdsV (sqP l L p).ts) ∧ w'.ownsRow (X + 1) 126 66 vM nM xM)
set_option maxRecDepth 100000 in
set_option maxHeartbeats 8000000 in
theorem rseq_r (R O X : Nat) (A : Option Addr) (L C : Nat) (l : List Int) (p : Pl) (hh : Bool) (hd : ByteArray) (mv : Value) (hs : Bool) (mm : Value) (vM : Value) (nM : Nat) (xM : List Value) (w0 w : World) (h : Wq w0 R O X (txV hh hd mv hs sq0 mm) A L C l p w) (hM : w.ownsRow (X + 1) 126 66 vM nM xM) :
    Calls Try.prog 75 #[.pointer (some ⟨R, 0, none⟩), .pointer (some ⟨X, 4, none⟩)] w (RqRet w0 R O X hh hd mv hs mm A L C l p vM nM xM) := by
  have HB1 := Lib.hid h.rd.rd.byte
  have HLl := Lib.hid h.rd.rd.len
  have HW := Lib.hid h
  have HM := Lib.hid hM
  clear h hM
  obtain ⟨k, hk⟩ : ∃ k, k = geN l L p 1 := ⟨_, rfl⟩
  obtain ⟨p1, hp1⟩ : ∃ p1, p1 = atN l L p 1 := ⟨_, rfl⟩
  go_enter Try.func75, Try.ntmps75
  have H_k := Lib.hid hk
  have H_p1 := Lib.hid hp1
  have HC := Lib.hid (cnum_q R A L C l p 1 w HW.out.rd (by decide))
  rw [show ((1 : Nat) : Int) = 1 from rfl, ← hk, ← hp1] at HC
  clear hk hp1
  go_wp2_with fail
  refine HC.out.mono ?_
  rintro e w1 ⟨rfl, hR, hg⟩
  have eW := Lib.hid (HW.out.call hR hg)
  have eHM := Lib.hid (HW.out.own_call HM.out (Nat.lt_succ_self X) hg)
  clear hR hg HC HW HM
  have HW := eW
  have HM := eHM
  clear eW eHM
  have hc : w1.cell? ⟨X, 4, none⟩ = some _ := HW.out.cell 4 (by decide)
  have hf : w1.frozen? ⟨X, 4, none⟩ = false := HW.out.rx.frozen _
  have eW : Hid (Wq w0 R O X (txV hh hd mv hs (sqV (k : Int) ByteArray.empty (List.replicate 32 0) (List.replicate 32 0) (.slice none 0 0) 0 0 false) mm) A L C l p1 (w1.setCell ⟨X, 4, none⟩ (.int .i64 (k : Int)))) := Lib.hid (by
    have h := HW.out.set 4 (.int .i64 (k : Int))
    rw [show (4 : Nat) = 4 + 0 from rfl, txV_sqset sq0_len 0 (by decide)] at h
    change Wq _ _ _ _ (txV hh hd mv hs (sqV (k : Int) ByteArray.empty (List.replicate 32 0) (List.replicate 32 0) (.slice none 0 0) 0 0 false) mm) _ _ _ _ _ _ at h
    exact h)
  have eHM := Lib.hid (Ws.own_set HM.out (Nat.lt_succ_self X) 4 (.int .i64 (k : Int)))
  clear HW HM
  go_upto_region 2 with (fail)
  change Code.wp _ _ _ _ (w1.setCell ⟨X, 4, none⟩ (.int .i64 (k : Int)))
  clear hc hf
  generalize w1.setCell ⟨X, 4, none⟩ (.int .i64 (k : Int)) = w2 at *
  have HW := eW
  have HM := eHM
  clear eW eHM
  have hc4 : w2.cell? ⟨X, 4, none⟩ = some (.int .i64 (k : Int)) := HW.out.cell 4 (by decide)
  by_cases hk0 : k = 0
  · have hd0 : ((k : Int) == 0) = true := by simp [hk0]
    have HK0 := Lib.hid hk0
    clear hk0
    go_wp2_with fail
    go_ret
    have e0 : sK l L p = 0 := H_k.out.symm.trans HK0.out
    have e1 : sqE l L p = p1 := by unfold sqE; rw [if_pos e0]; exact H_p1.out.symm
    have e2 : sqP l L p = Sq.nil 0 := by unfold sqP; rw [if_pos e0]
    unfold RqRet
    rw [e1, e2]
    refine .inr ⟨fun h => h.1 e0, rfl, none, 0, ?_, ⟨by simp [Sq.nil, tdsV], .inl ⟨rfl, rfl⟩⟩, HM.out⟩
    have h := HW.out
    rw [HK0.out] at h
    exact h
  · have hd0 : ((k : Int) == 0) = false := by simp; omega
    have HKn := Lib.hid hk0
    clear hk0
    obtain ⟨br, hbr⟩ : ∃ br, br = geT l L p1 1 255 := ⟨_, rfl⟩
    obtain ⟨p2, hp2⟩ : ∃ p2, p2 = atT l L p1 1 255 := ⟨_, rfl⟩
    have H_br := Lib.hid hbr
    have H_p2 := Lib.hid hp2
    have HC := Lib.hid (ctext_q R A L C l p1 1 255 w2 HW.out.rd (by decide) (by decide))
    rw [show ((1 : Nat) : Int) = 1 from rfl, ← hbr, ← hp2] at HC
    clear hbr hp2
    go_wp2_with fail
    clear hc4
    refine HC.out.mono ?_
    rintro e w3 ⟨rfl, hR, hg⟩
    have eW := Lib.hid (HW.out.call hR hg)
    have eHM := Lib.hid (HW.out.own_call HM.out (Nat.lt_succ_self X) hg)
    clear hR hg HC HW HM
    have HW := eW
    have HM := eHM
    clear eW eHM
    have hc : w3.cell? ⟨X, 5, none⟩ = some _ := HW.out.cell 5 (by decide)
    have hf : w3.frozen? ⟨X, 5, none⟩ = false := HW.out.rx.frozen _
    have eW : Hid (Wq w0 R O X (txV hh hd mv hs (sqV (k : Int) br (List.replicate 32 0) (List.replicate 32 0) (.slice none 0 0) 0 0 false) mm) A L C l p2 (w3.setCell ⟨X, 5, none⟩ (.string br))) := Lib.hid (by
      have h := HW.out.set 5 (.string br)
      rw [show (5 : Nat) = 4 + 1 from rfl, txV_sqset (sqV_len (by simp) (by simp)) 1 (by decide)] at h
      rw [(sqV_set (by simp) (by simp)).1] at h
      exact h)
    have eHM := Lib.hid (Ws.own_set HM.out (Nat.lt_succ_self X) 5 (.string br))
    clear HW HM
    go_upto_region 5 with (fail)
    change Code.wp _ _ _ _ (w3.setCell ⟨X, 5, none⟩ (.string br))
    clear hc hf
    generalize w3.setCell ⟨X, 5, none⟩ (.string br) = w4 at *
    have HW := eW
    have HM := eHM
    clear eW eHM
    obtain ⟨og, hog⟩ : ∃ og, og = geI l L p2 := ⟨_, rfl⟩
    obtain ⟨p3, hp3⟩ : ∃ p3, p3 = atN l L p2 32 := ⟨_, rfl⟩
    have hol : og.length = 32 := by rw [hog]; exact geI_len l L p2
    have H_og := Lib.hid hog
    have H_p3 := Lib.hid hp3
    have HC := Lib.hid (cid_q R A L C l p2 w4 HW.out.rd)
    rw [← hog, ← hp3] at HC
    clear hog hp3
    go_wp2_with fail
    refine HC.out.mono ?_
    rintro e w5 ⟨rfl, hR, hg⟩
    have eW := Lib.hid (HW.out.call hR hg)
    have eHM := Lib.hid (HW.out.own_call HM.out (Nat.lt_succ_self X) hg)
    clear hR hg HC HW HM
    have HW := eW
    have HM := eHM
    clear eW eHM
    have hbx : (bv og).length = 32 := by rw [bv_len, hol]
    have HT1 := Lib.hid (HW.out.there 6 (bv og) (by omega))
    have HS1 : Hid ((Try.prog.info? 37).map (·.size) = some (bv og).toArray.size) := Lib.hid (by rw [List.size_toArray, hbx]; exact infoId)
    have HO1 := Lib.hid (all_oneCell_toArray (bv_one og))
    have eW : Hid (Wq w0 R O X (txV hh hd mv hs (sqV (k : Int) br og (List.replicate 32 0) (.slice none 0 0) 0 0 false) mm) A L C l p3 (w5.setCells X 6 (bv og))) := Lib.hid (by
      have h := HW.out.lay 6 (bv og) (by omega)
      rw [show (6 : Nat) = 4 + 2 from rfl, txV_sqlay (sqV_len (by simp) (by simp)) 2 (bv og) (by omega), (sqV_lay (by simp) (by simp) hol).1] at h
      exact h)
    have eHM := Lib.hid (Ws.own_lay HM.out (Nat.lt_succ_self X) 6 (bv og))
    clear HW HM hbx
    generalize hDX : bv og = DX at *
    have HDX := Lib.hid hDX
    clear hDX
    go_upto_region 6 with (refine wpList_store_mid rfl _ _ _ rfl X 6 DX.toArray rfl rfl HT1.out HS1.out HO1.out ?_)
    change Code.wp _ _ _ _ (w5.setCells X 6 DX)
    generalize w5.setCells X 6 DX = w6 at *
    have HW := eW
    have HM := eHM
    clear eW eHM HT1 HS1 HO1 HDX
    obtain ⟨cu, hcu⟩ : ∃ cu, cu = geI l L p3 := ⟨_, rfl⟩
    obtain ⟨p4, hp4⟩ : ∃ p4, p4 = atN l L p3 32 := ⟨_, rfl⟩
    have hcl : cu.length = 32 := by rw [hcu]; exact geI_len l L p3
    have H_cu := Lib.hid hcu
    have H_p4 := Lib.hid hp4
    have HC := Lib.hid (cid_q R A L C l p3 w6 HW.out.rd)
    rw [← hcu, ← hp4] at HC
    clear hcu hp4
    go_wp2_with fail
    refine HC.out.mono ?_
    rintro e w7 ⟨rfl, hR, hg⟩
    have eW := Lib.hid (HW.out.call hR hg)
    have eHM := Lib.hid (HW.out.own_call HM.out (Nat.lt_succ_self X) hg)
    clear hR hg HC HW HM
    have HW := eW
    have HM := eHM
    clear eW eHM
    have hbx : (bv cu).length = 32 := by rw [bv_len, hcl]
    have HT1 := Lib.hid (HW.out.there 38 (bv cu) (by omega))
    have HS1 : Hid ((Try.prog.info? 37).map (·.size) = some (bv cu).toArray.size) := Lib.hid (by rw [List.size_toArray, hbx]; exact infoId)
    have HO1 := Lib.hid (all_oneCell_toArray (bv_one cu))
    have eW : Hid (Wq w0 R O X (txV hh hd mv hs (sqV (k : Int) br og cu (.slice none 0 0) 0 0 false) mm) A L C l p4 (w7.setCells X 38 (bv cu))) := Lib.hid (by
      have h := HW.out.lay 38 (bv cu) (by omega)
      rw [show (38 : Nat) = 4 + 34 from rfl, txV_sqlay (sqV_len hol (by simp)) 34 (bv cu) (by omega), (sqV_lay hol (by simp) hcl).2] at h
      exact h)
    have eHM := Lib.hid (Ws.own_lay HM.out (Nat.lt_succ_self X) 38 (bv cu))
    clear HW HM hbx
    generalize hDX : bv cu = DX at *
    have HDX := Lib.hid hDX
    clear hDX
    go_upto_region 7 with (refine wpList_store_mid rfl _ _ _ rfl X 38 DX.toArray rfl rfl HT1.out HS1.out HO1.out ?_)
    change Code.wp _ _ _ _ (w7.setCells X 38 DX)
    generalize w7.setCells X 38 DX = w8 at *
    have HW := eW
    have HM := eHM
    clear eW eHM HT1 HS1 HO1 HDX
    obtain ⟨m, hm⟩ : ∃ m, m = geN l L p4 2 := ⟨_, rfl⟩
    have hml : m < 65536 := by rw [hm]; exact geN_lt (by decide) HLl.out HB1.out
    obtain ⟨p5, hp5⟩ : ∃ p5, p5 = atN l L p4 2 := ⟨_, rfl⟩
    have H_m := Lib.hid hm
    have H_p5 := Lib.hid hp5
    have HC := Lib.hid (cnum_q R A L C l p4 2 w8 HW.out.rd (by decide))
    rw [show ((2 : Nat) : Int) = 2 from rfl, ← hm, ← hp5] at HC
    clear hm hp5
    go_wp2_with fail
    refine HC.out.mono ?_
    rintro e w9 ⟨rfl, hR, hg⟩
    have eW := Lib.hid (HW.out.call hR hg)
    have eHM := Lib.hid (HW.out.own_call HM.out (Nat.lt_succ_self X) hg)
    clear hR hg HC HW HM
    have HW := eW
    have HM := eHM
    clear eW eHM
    obtain ⟨q5, ts5, hQ⟩ : ∃ q5 ts5, (q5, ts5) = tdL l L m p5 [] := ⟨_, _, rfl⟩
    have HQ := Lib.hid hQ
    clear hQ
    go_upto_block 0 with (fail)
    go_cut [] (fun wx => ∃ (Ai : Option Addr) (Ci : Nat), ts5.length ≤ 65536 ∧ Hid (Wq w0 R O X (txV hh hd mv hs (sqV (k : Int) br og cu (.slice Ai ts5.length Ci) 0 0 false) mm) A L C l q5 wx) ∧ Hid (wx.ownsRow (X + 1) 84 33 (.slice Ai ts5.length Ci) ts5.length (tdsV ts5)) ∧ Hid (wx.ownsRow (X + 1) 126 66 vM nM xM))
    case first =>
      go_wp2_with fail
      go_loopw [6, 7] (fun s6 s7 wr => ∃ (i j : Nat) (q : Pl) (ts : List Td) (Ai : Option Addr) (Ci : Nat), s6 = .int .i64 i ∧ i + j = m ∧ ts.length + j ≤ m ∧ Hid (tdL l L j q ts = (q5, ts5)) ∧ Hid (Wq w0 R O X (txV hh hd mv hs (sqV (k : Int) br og cu (.slice Ai ts.length Ci) 0 0 false) mm) A L C l q wr) ∧ Hid (wr.ownsRow (X + 1) 84 33 (.slice Ai ts.length Ci) ts.length (tdsV ts)) ∧ Hid (wr.ownsRow (X + 1) 126 66 vM nM xM)) (fun s6 _ _ => m - (intOf s6).toNat)
      case atStart => exact ⟨0, m, p5, [], none, 0, rfl, Nat.zero_add m, by simp, Lib.hid HQ.out.symm, HW, Lib.hid ⟨by simp [tdsV], .inl ⟨rfl, rfl⟩⟩, HM⟩
      case round =>
        clear HW HM
        obtain ⟨i, j, q, ts, Ai, Ci, rfl, hj, hts, HTd, HWr, HOr, HMr⟩ := hrel
        have hcut := HWr.out.rd.cut
        by_cases hgo : 0 < j ∧ q.1 = 0
        · obtain ⟨hj0, hq0⟩ := hgo
          have hd : (i : Int) < (m : Int) := by omega
          have hd2 : decide ((i : Int) < (m : Int)) = true := by simp; omega
          have hdq : (q.1 != 0) = false := by simp [hq0]
          rw [hdq] at hcut
          obtain ⟨j', hj'⟩ : ∃ j', j = j' + 1 := ⟨j - 1, by omega⟩
          have htd := HTd.out
          rw [hj', tdL, if_pos hq0] at htd
          obtain ⟨dd, hdd⟩ : ∃ dd, dd = geN l L q 1 := ⟨_, rfl⟩
          obtain ⟨q1, hq1⟩ : ∃ q1, q1 = atN l L q 1 := ⟨_, rfl⟩
          rw [← hdd, ← hq1] at htd
          obtain ⟨di, hdi⟩ : ∃ di, di = geI l L q1 := ⟨_, rfl⟩
          obtain ⟨q2, hq2⟩ : ∃ q2, q2 = atN l L q1 32 := ⟨_, rfl⟩
          rw [← hdi, ← hq2] at htd
          have HTd2 := Lib.hid htd
          have hil : di.length = 32 := by rw [hdi]; exact geI_len l L q1
          have HDi := Lib.hid hdi
          have HQ2 := Lib.hid hq2
          have HJ' := Lib.hid hj'
          have HN8 := Lib.hid (cnum_q R A L C l q 1 wr HWr.out.rd (by decide))
          rw [show ((1 : Nat) : Int) = 1 from rfl, ← hdd, ← hq1] at HN8
          have hzt := zeroTdZ
          have HZt := Lib.hid tdZ_size
          generalize tdZ.toArray = ZT at *
          clear htd hdd hq1 hdi hq2 hj' hdq hq0 HTd hj0
          go_wp2_with fail
          refine HN8.out.mono ?_
          rintro e w9 ⟨rfl, hR9, hg9⟩
          clear hcut
          have HW9 := HWr.out.call hR9 hg9
          have HO9 := HWr.out.own_call HOr.out (Nat.lt_succ_self X) hg9
          have HM9 := HWr.out.own_call HMr.out (Nat.lt_succ_self X) hg9
          have HBt := Lib.hid (built_td dd)
          have HY0 := Lib.hid (Wz.new HW9 HO9 (Z := ZT) (tY := 84) HZt.out (tdN_len dd))
          have HM10 := Lib.hid (own_keep HM9 (below_cells (Nat.le_refl w9.heap.size) (tdN dd) 0 _ ((Below.refl w9.heap.size w9).alloc (Nat.le_refl _) (.cells ZT 84))))
          obtain ⟨hf, hrn⟩ := lay_new w9 84 33 ZT (tdN dd) infoTd HZt.out (tdN_len dd) (Td.one _)
          have HFy := Lib.hid hf
          clear hR9 hg9 HN8 HW9 HO9 HM9 hf hrn HWr HOr HMr HZt
          generalize hDT : tdN dd = DT at *
          have HDT := Lib.hid hDT
          clear hDT
          go_upto_region 12 with (first
            | (refine wpList_buildT rfl 84 0 _ rfl _ rfl DT.toArray HBt.out ?_)
            | (refine wpList_store_mid rfl _ _ _ rfl w9.heap.size 0 DT.toArray rfl rfl HFy.out.there HFy.out.size HFy.out.one ?_))
          change Code.wp _ _ _ _ ((w9.alloc (.cells ZT 84)).setCells w9.heap.size 0 DT)
          clear HBt HFy
          generalize (w9.alloc (.cells ZT 84)).setCells w9.heap.size 0 DT = w10 at *
          generalize w9.heap.size = Y at *
          have HIj := Lib.hid (cid_q R A L C l q1 w10 HY0.out.ws.rd)
          rw [← HDi.out, ← HQ2.out] at HIj
          go_wp2_with fail
          refine HIj.out.mono ?_
          rintro e w11 ⟨rfl, hR11, hg11⟩
          have HY1 := HY0.out.call hR11 hg11
          have HM11 := HY0.out.ws.own_call HM10.out (Nat.lt_succ_self X) hg11
          have hbi : (bv di).length = 32 := by rw [bv_len, hil]
          have HT1 := Lib.hid (HY1.there 1 (bv di) (by omega))
          have hy2 := HY1.lay 1 (bv di) (by omega)
          rw [← HDT.out, tdN_lay dd di hil] at hy2
          have HY2 := Lib.hid hy2
          have HM12 := Lib.hid (own_grown HM11 (grown_cells w11 Y (bv di) 1) (own_ne_rowT HM11 HY1.ry (by decide)))
          have HS1 : Hid ((Try.prog.info? 37).map (·.size) = some (bv di).toArray.size) := Lib.hid (by rw [List.size_toArray, hbi]; exact infoId)
          have HO1 := Lib.hid (all_oneCell_toArray (bv_one di))
          clear hR11 hg11 hy2 HY0 HY1 HIj hbi HDi HQ2 HM10 HM11
          generalize hDN : bv di = DN at *
          have HDN := Lib.hid hDN
          clear hDN
          go_upto_region 13 with (refine wpList_store_mid rfl _ _ _ rfl Y 1 DN.toArray rfl rfl HT1.out HS1.out HO1.out ?_)
          change Code.wp _ _ _ _ (w11.setCells Y 1 DN)
          clear HT1 HS1 HO1 HDN
          generalize w11.setCells Y 1 DN = w12 at *
          have dY := Lib.hid (HY2.out.drew 1)
          have dM : Hid (w12.drew.ownsRow (X + 1) 126 66 vM nM xM) := Lib.hid (World.ownsRow.drew HM12.out)
          clear HY2 HM12
          have dX := Lib.hid dY.out.range
          have hXY := dY.out.hY
          have hYs : Y < w12.drew.heap.size := dY.out.ry.lt
          have hc70 : w12.drew.cell? ⟨X, 70, none⟩ = some (.slice Ai ts.length Ci) := by
            have h := dY.out.ws.cell 70 (by decide)
            rw [show (70 : Nat) = 4 + 66 from rfl, txV_sqget (sqV_len hol hcl) 66 (by decide), sqV_td hol hcl] at h
            exact h
          have hTl : (Td.cells ⟨(dd : Int), di⟩).length = 33 := Td.len hil
          have HTl := Lib.hid hTl
          have HES : Hid ((Try.prog.info? 84).map (·.size) = some (Td.cells ⟨(dd : Int), di⟩).length) := Lib.hid (by rw [hTl]; exact infoTd)
          have HTo := Lib.hid (Td.one ⟨(dd : Int), di⟩)
          have HNw := Lib.hid (new_cellsZ w12.drew (Td.cells ⟨(dd : Int), di⟩) 84)
          have HbA := Lib.hid ((Below.refl w12.drew.heap.size w12.drew).alloc (Nat.le_refl _) (.cells (Td.cells ⟨(dd : Int), di⟩).toArray 84))
          clear hTl
          generalize hDY : Td.cells ⟨(dd : Int), di⟩ = DY at *
          have HDY := Lib.hid hDY
          clear hDY
          refine wp_region_noPanic ?_
          refine wp_region_held_drew (S := (fun wS => wS.rangeAt Y 0 DY)) (by kernel_rfl) ?_ (fun hHeld => ?_)
          · ((try dsimp only); exact dX.out)
          refine wpAnyH_take (i := 0) (oi := { dst := some 54, op := Op.move (Operand.tmp 1), type := 139, pos := "ref.go:434", after := #[], guard := none }) (v := ?_) rfl (by kernel_rfl) (by kernel_rfl) (by kernel_rfl) (fun _ _ _ h => h) (Or.inl ⟨by rfl, ?_⟩) (by assumption) ?_
          rotate_left 1
          · ((intro w hSw; (try dsimp only at hSw); go_simp) <;> with_reducible rfl)
          (try simp only [Act.put, List.setIfInBounds_toArray, List.set_cons_zero, List.set_cons_succ])
          refine wpAnyH_take (i := 1) (oi := { dst := some 55, op := Op.move (Operand.tmp 1), type := 139, pos := "ref.go:434", after := #[], guard := none }) (v := ?_) rfl (by kernel_rfl) (by kernel_rfl) (by kernel_rfl) (fun _ _ _ h => h) (Or.inl ⟨by rfl, ?_⟩) (by assumption) ?_
          rotate_left 1
          · ((intro w hSw; (try dsimp only at hSw); go_simp) <;> with_reducible rfl)
          (try simp only [Act.put, List.setIfInBounds_toArray, List.set_cons_zero, List.set_cons_succ])
          refine wpAnyH_take (i := 2) (oi := { dst := some 56, op := Op.nilCheck (Operand.tmp 55), type := 0, pos := "ref.go:434", after := #[{ on := 1, ground := Ground.data }], guard := none }) (v := ?_) rfl (by kernel_rfl) (by kernel_rfl) (by kernel_rfl) (fun _ _ _ h => h) (Or.inl ⟨by rfl, ?_⟩) (by assumption) ?_
          rotate_left 1
          · ((intro w hSw; (try dsimp only at hSw); go_simp) <;> with_reducible rfl)
          (try simp only [Act.put, List.setIfInBounds_toArray, List.set_cons_zero, List.set_cons_succ])
          refine wpAnyH_take (i := 3) (oi := { dst := some 57, op := Op.fieldAddr 65 (Operand.tmp 56) 4, type := 0, pos := "ref.go:434", after := #[{ on := 2, ground := Ground.data }], guard := none }) (v := ?_) rfl (by kernel_rfl) (by kernel_rfl) (by kernel_rfl) (fun _ _ _ h => h) (Or.inl ⟨by rfl, ?_⟩) (by assumption) ?_
          rotate_left 1
          · ((intro w hSw; (try dsimp only at hSw); go_simp) <;> with_reducible rfl)
          (try simp only [Act.put, List.setIfInBounds_toArray, List.set_cons_zero, List.set_cons_succ])
          refine' wpAnyH_take (i := 5) (oi := { dst := some 59, op := Op.load 84 (Operand.tmp 7), type := 84, pos := "ref.go:434", after := #[], guard := none }) (v := _) rfl (by kernel_rfl) (by kernel_rfl) (by kernel_rfl) (fun _ _ _ h => h) (yieldsIf_load_mid (by rfl) _ _ rfl _ _ rfl DY _ (fun w hSw => hSw) Try.underlying84 rfl HES.out) (by assumption) ?_
          (try simp only [Act.put, List.setIfInBounds_toArray, List.set_cons_zero, List.set_cons_succ])
          refine wpAnyH_ready (rs := [4, 6]) (by kernel_rfl) (by simp) ?_
          refine AllReadyH.cons (o := { dst := some 58, op := Op.load 63 (Operand.tmp 57), type := 63, pos := "ref.go:434", after := #[{ on := 3, ground := Ground.data }], guard := none }) rfl (fun K hK => ?_) ?_
          · go_simp
            skip
            (try go_wp2_with fail)
            refine hK.out _ _ ?_ (fun hNew => ?_)
            · ((try dsimp only); first | assumption | exact dX.out | exact eXs.out _)
            clear hK K hHeld
            have hHeld := hNew
            clear hNew
            (try simp only [Act.put, List.setIfInBounds_toArray, List.set_cons_zero, List.set_cons_succ])
            refine wpAnyH_ready (rs := [6]) (by kernel_rfl) (by simp) ?_
            refine AllReadyH.cons (o := { dst := some 60, op := Op.buildSlice 63 1 #[(0, Operand.tmp 59)], type := 63, pos := "ref.go:434", after := #[{ on := 5, ground := Ground.data }], guard := none }) rfl (fun K hK => ?_) ?_
            · refine step_build_z rowTd _ rfl (.tmp 59) rfl DY rfl HTl.out ?_
              have aXs0 := al_lt w12.drew (.cells DY.toArray 84)
              have hA := HbA.out
              have aN0 := HNw.out
              obtain ⟨wA, hwA⟩ : ∃ wA, wA = w12.drew.alloc (.cells DY.toArray 84) := ⟨_, rfl⟩
              rw [← hwA] at hA aXs0 aN0
              change K _ (w12.drew.alloc _)
              rw [← hwA]
              clear hwA
              have aX : wA.rangeAt Y 0 DY := range_below hA dX.out hYs
              have hcA : wA.cell? ⟨X, 70, none⟩ = some (.slice Ai ts.length Ci) := (hA.cell (p := ⟨X, 70, none⟩) (Nat.lt_trans hXY hYs)).trans hc70
              have aY := Lib.hid (dY.out.belowW hA)
              have aM := Lib.hid (own_keep dM.out hA)
              have aN := Lib.hid aN0
              have aXs : Y < wA.heap.size := Nat.lt_trans hYs aXs0
              have aBs : Hid (X + 1 ≤ wA.heap.size) := Lib.hid (by omega)
              clear hA aXs0 aN0
              generalize w12.drew.heap.size = YA at *
              (try go_wp2_with fail)
              refine hK.out _ _ ?_ (fun hNew => ?_)
              · ((try dsimp only); first | assumption | exact dX.out | exact eXs.out _)
              clear hK K hHeld
              have hHeld := hNew
              clear hNew
              (try simp only [Act.put, List.setIfInBounds_toArray, List.set_cons_zero, List.set_cons_succ])
              refine wpAnyH_ready (rs := [7]) (by kernel_rfl) (by simp) ?_
              refine AllReadyH.cons (o := { dst := some 61, op := Op.call { callee := Callee.builtin Builtin.append, args := #[Operand.tmp 58, Operand.tmp 60], argTypes := #[63, 63] }, type := 63, pos := "ref.go:434", after := #[{ on := 4, ground := Ground.data }, { on := 6, ground := Ground.data }], guard := none }) rfl (fun K hK => ?_) ?_
              · refine step_append_z rowTd _ rfl (.tmp 58) (.tmp 60) rfl (X + 1) (.slice Ai ts.length Ci) ts.length (tdsV ts) rfl aY.out.own _ DY rfl aN.out HTl.out HTo.out (by omega) aBs.out ?_
                intro A9 C9 wE hoE hgE
                have eX : wE.rangeAt Y 0 DY := range_grownO aX hgE aXs aY.out.ne
                have eM0 := own_kept aM.out hgE (fun j hj e => own_ne_own aM.out aY.out.own (by decide) e hj)
                obtain ⟨hWz, hOz⟩ := aY.out.app (Below.refl wA.heap.size wA) hoE hgE 70
                have hWp := aY.out.ws.app aY.out.own (Nat.lt_succ_self X) hgE
                have hcE : wE.cell? ⟨X, 70, none⟩ = some _ := hWp.cell 70 (by decide)
                have hfE : wE.frozen? ⟨X, 70, none⟩ = false := hWp.rx.frozen _
                rw [show (70 : Nat) = 4 + 66 from rfl, txV_sqset (sqV_len hol hcl) 66 (by decide), (sqV_set hol hcl).2.1] at hWz
                have HWz := Lib.hid hWz
                have HOz := Lib.hid hOz
                have HMz := Lib.hid (Ws.own_set eM0 (Nat.lt_succ_self X) 70 (.slice A9 (ts.length + 1) C9))
                have eXs : Hid (∀ v, (wE.setCell ⟨X, 70, none⟩ v).rangeAt Y 0 DY) := Lib.hid (fun v => range_grown eX (grown_set wE X 70 v) (Nat.lt_of_lt_of_le aXs hgE.size) (by omega))
                clear hcA aX hoE hgE hWz hOz hWp eM0
                (try go_wp2_with fail)
                refine hK.out _ _ ?_ (fun hNew => ?_)
                · ((try dsimp only); first | assumption | exact dX.out | exact eXs.out _)
                clear hK K hHeld
                have hHeld := hNew
                clear hNew
                (try simp only [Act.put, List.setIfInBounds_toArray, List.set_cons_zero, List.set_cons_succ])
                refine wpAnyH_take (i := 8) (oi := { dst := some 62, op := Op.nilCheck (Operand.tmp 54), type := 0, pos := "ref.go:434", after := #[{ on := 0, ground := Ground.data }, { on := 0, ground := Ground.phase }, { on := 1, ground := Ground.phase }, { on := 2, ground := Ground.phase }, { on := 3, ground := Ground.phase }, { on := 4, ground := Ground.phase }, { on := 5, ground := Ground.phase }, { on := 6, ground := Ground.phase }, { on := 7, ground := Ground.phase }], guard := none }) (v := ?_) rfl (by kernel_rfl) (by kernel_rfl) (by kernel_rfl) (fun _ _ _ h => h) (Or.inl ⟨by rfl, ?_⟩) (by assumption) ?_
                rotate_left 1
                · ((intro w hSw; (try dsimp only at hSw); go_simp) <;> with_reducible rfl)
                (try simp only [Act.put, List.setIfInBounds_toArray, List.set_cons_zero, List.set_cons_succ])
                refine wpAnyH_take (i := 9) (oi := { dst := some 63, op := Op.fieldAddr 65 (Operand.tmp 62) 4, type := 0, pos := "ref.go:434", after := #[{ on := 8, ground := Ground.data }, { on := 0, ground := Ground.phase }, { on := 1, ground := Ground.phase }, { on := 2, ground := Ground.phase }, { on := 3, ground := Ground.phase }, { on := 4, ground := Ground.phase }, { on := 5, ground := Ground.phase }, { on := 6, ground := Ground.phase }, { on := 7, ground := Ground.phase }], guard := none }) (v := ?_) rfl (by kernel_rfl) (by kernel_rfl) (by kernel_rfl) (fun _ _ _ h => h) (Or.inl ⟨by rfl, ?_⟩) (by assumption) ?_
                rotate_left 1
                · ((intro w hSw; (try dsimp only at hSw); go_simp) <;> with_reducible rfl)
                (try simp only [Act.put, List.setIfInBounds_toArray, List.set_cons_zero, List.set_cons_succ])
                refine wpAnyH_ready (rs := [10]) (by kernel_rfl) (by simp) ?_
                refine AllReadyH.cons (o := { dst := none, op := Op.store 63 (Operand.tmp 63) (Operand.tmp 61), type := 0, pos := "ref.go:434", after := #[{ on := 9, ground := Ground.data }, { on := 7, ground := Ground.data }, { on := 7, ground := Ground.chain }, { on := 0, ground := Ground.phase }, { on := 1, ground := Ground.phase }, { on := 2, ground := Ground.phase }, { on := 3, ground := Ground.phase }, { on := 4, ground := Ground.phase }, { on := 5, ground := Ground.phase }, { on := 6, ground := Ground.phase }, { on := 7, ground := Ground.phase }], guard := none }) rfl (fun K hK => ?_) ?_
                · go_simp
                  refine hK.out _ _ ?_ (fun hNew => ?_)
                  · ((try dsimp only); first | assumption | exact dX.out | exact eXs.out _)
                  clear hK K hHeld
                  have hHeld := hNew
                  clear hNew
                  (try simp only [Act.put, List.setIfInBounds_toArray, List.set_cons_zero, List.set_cons_succ])
                  refine wpAnyH_done (by kernel_rfl) ?_ _
                  refine NoPanic.normal ?_
                  clear hHeld
                  go_wp2_with fail
                  have hj2 := HJ'.out
                  go_roundw
                  case rel => exact ⟨i + 1, j', q2, ts ++ [⟨(dd : Int), di⟩], A9, C9, by go_num, by omega, by simp; omega, HTd2, Lib.hid (by rw [show (ts ++ [(⟨(dd : Int), di⟩ : Td)]).length = ts.length + 1 by simp]; exact HWz.out), Lib.hid (by rw [show (ts ++ [(⟨(dd : Int), di⟩ : Td)]).length = ts.length + 1 by simp, tdsV_snoc, HDY.out]; exact HOz.out), HMz⟩
                  case measure => simp [intOf]; omega
                exact AllReadyH.nil
              exact AllReadyH.nil
            exact AllReadyH.nil
          refine AllReadyH.cons (o := { dst := some 60, op := Op.buildSlice 63 1 #[(0, Operand.tmp 59)], type := 63, pos := "ref.go:434", after := #[{ on := 5, ground := Ground.data }], guard := none }) rfl (fun K hK => ?_) ?_
          · refine step_build_z rowTd _ rfl (.tmp 59) rfl DY rfl HTl.out ?_
            have aXs0 := al_lt w12.drew (.cells DY.toArray 84)
            have hA := HbA.out
            have aN0 := HNw.out
            obtain ⟨wA, hwA⟩ : ∃ wA, wA = w12.drew.alloc (.cells DY.toArray 84) := ⟨_, rfl⟩
            rw [← hwA] at hA aXs0 aN0
            change K _ (w12.drew.alloc _)
            rw [← hwA]
            clear hwA
            have aX : wA.rangeAt Y 0 DY := range_below hA dX.out hYs
            have hcA : wA.cell? ⟨X, 70, none⟩ = some (.slice Ai ts.length Ci) := (hA.cell (p := ⟨X, 70, none⟩) (Nat.lt_trans hXY hYs)).trans hc70
            have aY := Lib.hid (dY.out.belowW hA)
            have aM := Lib.hid (own_keep dM.out hA)
            have aN := Lib.hid aN0
            have aXs : Y < wA.heap.size := Nat.lt_trans hYs aXs0
            have aBs : Hid (X + 1 ≤ wA.heap.size) := Lib.hid (by omega)
            clear hA aXs0 aN0
            generalize w12.drew.heap.size = YA at *
            (try go_wp2_with fail)
            refine hK.out _ _ ?_ (fun hNew => ?_)
            · ((try dsimp only); first | assumption | exact dX.out | exact eXs.out _)
            clear hK K hHeld
            have hHeld := hNew
            clear hNew
            (try simp only [Act.put, List.setIfInBounds_toArray, List.set_cons_zero, List.set_cons_succ])
            refine wpAnyH_ready (rs := [4]) (by kernel_rfl) (by simp) ?_
            refine AllReadyH.cons (o := { dst := some 58, op := Op.load 63 (Operand.tmp 57), type := 63, pos := "ref.go:434", after := #[{ on := 3, ground := Ground.data }], guard := none }) rfl (fun K hK => ?_) ?_
            · go_simp
              skip
              (try go_wp2_with fail)
              refine hK.out _ _ ?_ (fun hNew => ?_)
              · ((try dsimp only); first | assumption | exact dX.out | exact eXs.out _)
              clear hK K hHeld
              have hHeld := hNew
              clear hNew
              (try simp only [Act.put, List.setIfInBounds_toArray, List.set_cons_zero, List.set_cons_succ])
              refine wpAnyH_ready (rs := [7]) (by kernel_rfl) (by simp) ?_
              refine AllReadyH.cons (o := { dst := some 61, op := Op.call { callee := Callee.builtin Builtin.append, args := #[Operand.tmp 58, Operand.tmp 60], argTypes := #[63, 63] }, type := 63, pos := "ref.go:434", after := #[{ on := 4, ground := Ground.data }, { on := 6, ground := Ground.data }], guard := none }) rfl (fun K hK => ?_) ?_
              · refine step_append_z rowTd _ rfl (.tmp 58) (.tmp 60) rfl (X + 1) (.slice Ai ts.length Ci) ts.length (tdsV ts) rfl aY.out.own _ DY rfl aN.out HTl.out HTo.out (by omega) aBs.out ?_
                intro A9 C9 wE hoE hgE
                have eX : wE.rangeAt Y 0 DY := range_grownO aX hgE aXs aY.out.ne
                have eM0 := own_kept aM.out hgE (fun j hj e => own_ne_own aM.out aY.out.own (by decide) e hj)
                obtain ⟨hWz, hOz⟩ := aY.out.app (Below.refl wA.heap.size wA) hoE hgE 70
                have hWp := aY.out.ws.app aY.out.own (Nat.lt_succ_self X) hgE
                have hcE : wE.cell? ⟨X, 70, none⟩ = some _ := hWp.cell 70 (by decide)
                have hfE : wE.frozen? ⟨X, 70, none⟩ = false := hWp.rx.frozen _
                rw [show (70 : Nat) = 4 + 66 from rfl, txV_sqset (sqV_len hol hcl) 66 (by decide), (sqV_set hol hcl).2.1] at hWz
                have HWz := Lib.hid hWz
                have HOz := Lib.hid hOz
                have HMz := Lib.hid (Ws.own_set eM0 (Nat.lt_succ_self X) 70 (.slice A9 (ts.length + 1) C9))
                have eXs : Hid (∀ v, (wE.setCell ⟨X, 70, none⟩ v).rangeAt Y 0 DY) := Lib.hid (fun v => range_grown eX (grown_set wE X 70 v) (Nat.lt_of_lt_of_le aXs hgE.size) (by omega))
                clear hcA aX hoE hgE hWz hOz hWp eM0
                (try go_wp2_with fail)
                refine hK.out _ _ ?_ (fun hNew => ?_)
                · ((try dsimp only); first | assumption | exact dX.out | exact eXs.out _)
                clear hK K hHeld
                have hHeld := hNew
                clear hNew
                (try simp only [Act.put, List.setIfInBounds_toArray, List.set_cons_zero, List.set_cons_succ])
                refine wpAnyH_take (i := 8) (oi := { dst := some 62, op := Op.nilCheck (Operand.tmp 54), type := 0, pos := "ref.go:434", after := #[{ on := 0, ground := Ground.data }, { on := 0, ground := Ground.phase }, { on := 1, ground := Ground.phase }, { on := 2, ground := Ground.phase }, { on := 3, ground := Ground.phase }, { on := 4, ground := Ground.phase }, { on := 5, ground := Ground.phase }, { on := 6, ground := Ground.phase }, { on := 7, ground := Ground.phase }], guard := none }) (v := ?_) rfl (by kernel_rfl) (by kernel_rfl) (by kernel_rfl) (fun _ _ _ h => h) (Or.inl ⟨by rfl, ?_⟩) (by assumption) ?_
                rotate_left 1
                · ((intro w hSw; (try dsimp only at hSw); go_simp) <;> with_reducible rfl)
                (try simp only [Act.put, List.setIfInBounds_toArray, List.set_cons_zero, List.set_cons_succ])
                refine wpAnyH_take (i := 9) (oi := { dst := some 63, op := Op.fieldAddr 65 (Operand.tmp 62) 4, type := 0, pos := "ref.go:434", after := #[{ on := 8, ground := Ground.data }, { on := 0, ground := Ground.phase }, { on := 1, ground := Ground.phase }, { on := 2, ground := Ground.phase }, { on := 3, ground := Ground.phase }, { on := 4, ground := Ground.phase }, { on := 5, ground := Ground.phase }, { on := 6, ground := Ground.phase }, { on := 7, ground := Ground.phase }], guard := none }) (v := ?_) rfl (by kernel_rfl) (by kernel_rfl) (by kernel_rfl) (fun _ _ _ h => h) (Or.inl ⟨by rfl, ?_⟩) (by assumption) ?_
                rotate_left 1
                · ((intro w hSw; (try dsimp only at hSw); go_simp) <;> with_reducible rfl)
                (try simp only [Act.put, List.setIfInBounds_toArray, List.set_cons_zero, List.set_cons_succ])
                refine wpAnyH_ready (rs := [10]) (by kernel_rfl) (by simp) ?_
                refine AllReadyH.cons (o := { dst := none, op := Op.store 63 (Operand.tmp 63) (Operand.tmp 61), type := 0, pos := "ref.go:434", after := #[{ on := 9, ground := Ground.data }, { on := 7, ground := Ground.data }, { on := 7, ground := Ground.chain }, { on := 0, ground := Ground.phase }, { on := 1, ground := Ground.phase }, { on := 2, ground := Ground.phase }, { on := 3, ground := Ground.phase }, { on := 4, ground := Ground.phase }, { on := 5, ground := Ground.phase }, { on := 6, ground := Ground.phase }, { on := 7, ground := Ground.phase }], guard := none }) rfl (fun K hK => ?_) ?_
                · go_simp
                  refine hK.out _ _ ?_ (fun hNew => ?_)
                  · ((try dsimp only); first | assumption | exact dX.out | exact eXs.out _)
                  clear hK K hHeld
                  have hHeld := hNew
                  clear hNew
                  (try simp only [Act.put, List.setIfInBounds_toArray, List.set_cons_zero, List.set_cons_succ])
                  refine wpAnyH_done (by kernel_rfl) ?_ _
                  refine NoPanic.normal ?_
                  clear hHeld
                  go_wp2_with fail
                  have hj2 := HJ'.out
                  go_roundw
                  case rel => exact ⟨i + 1, j', q2, ts ++ [⟨(dd : Int), di⟩], A9, C9, by go_num, by omega, by simp; omega, HTd2, Lib.hid (by rw [show (ts ++ [(⟨(dd : Int), di⟩ : Td)]).length = ts.length + 1 by simp]; exact HWz.out), Lib.hid (by rw [show (ts ++ [(⟨(dd : Int), di⟩ : Td)]).length = ts.length + 1 by simp, tdsV_snoc, HDY.out]; exact HOz.out), HMz⟩
                  case measure => simp [intOf]; omega
                exact AllReadyH.nil
              exact AllReadyH.nil
            exact AllReadyH.nil
          exact AllReadyH.nil
        · -- EXITS
          have HRel : Hid (ts.length ≤ 65536) := Lib.hid (by omega)
          by_cases hj0 : j = 0
          · have hd : ¬ (i : Int) < (m : Int) := by omega
            have hd2 : decide ((i : Int) < (m : Int)) = false := by simp; omega
            have he : (q, ts) = (q5, ts5) := by rw [← HTd.out, hj0]; rfl
            obtain ⟨rfl, rfl⟩ := Prod.mk.inj he
            clear hgo hj0 he HTd hcut
            go_wp2_with fail
            go_meet
            exact ⟨Ai, Ci, HRel.out, HWr, HOr, HMr⟩
          · have hq0 : ¬ q.1 = 0 := fun e => hgo ⟨by omega, e⟩
            have hd : (i : Int) < (m : Int) := by omega
            have hd2 : decide ((i : Int) < (m : Int)) = true := by simp; omega
            have hdq : (q.1 != 0) = true := by simp [hq0]
            rw [hdq] at hcut
            have he : (q, ts) = (q5, ts5) := by
              obtain ⟨j', hj'⟩ : ∃ j', j = j' + 1 := ⟨j - 1, by omega⟩
              rw [← HTd.out, hj', tdL, if_neg hq0]
            obtain ⟨rfl, rfl⟩ := Prod.mk.inj he
            clear hgo hj0 hq0 hdq he HTd
            go_wp2_with fail
            go_meet
            exact ⟨Ai, Ci, HRel.out, HWr, HOr, HMr⟩
    case rest =>
      obtain ⟨Ai, Ci, hl5, HWc, HT, HMc⟩ := hcut
      clear HW HM
      have HW := HWc
      have HM := HMc
      clear HWc HMc
      obtain ⟨dn, hdn⟩ : ∃ dn, dn = geN l L q5 2 := ⟨_, rfl⟩
      obtain ⟨p6, hp6⟩ : ∃ p6, p6 = atN l L q5 2 := ⟨_, rfl⟩
      have H_dn := Lib.hid hdn
      have H_p6 := Lib.hid hp6
      have HC := Lib.hid (cnum_q R A L C l q5 2 wc HW.out.rd (by decide))
      rw [show ((2 : Nat) : Int) = 2 from rfl, ← hdn, ← hp6] at HC
      clear hdn hp6
      go_wp2_with fail
      refine HC.out.mono ?_
      rintro e w10 ⟨rfl, hR, hg⟩
      have eW := Lib.hid (HW.out.call hR hg)
      have eHM := Lib.hid (HW.out.own_call HM.out (Nat.lt_succ_self X) hg)
      have eHT := Lib.hid (HW.out.own_call HT.out (Nat.lt_succ_self X) hg)
      clear hR hg HC HW HM HT
      have HW := eW
      have HM := eHM
      have HT := eHT
      clear eW eHM eHT
      have hc : w10.cell? ⟨X, 71, none⟩ = some _ := HW.out.cell 71 (by decide)
      have hf : w10.frozen? ⟨X, 71, none⟩ = false := HW.out.rx.frozen _
      have eW : Hid (Wq w0 R O X (txV hh hd mv hs (sqV (k : Int) br og cu (.slice Ai ts5.length Ci) (dn : Int) 0 false) mm) A L C l p6 (w10.setCell ⟨X, 71, none⟩ (.int .i64 (dn : Int)))) := Lib.hid (by
        have h := HW.out.set 71 (.int .i64 (dn : Int))
        rw [show (71 : Nat) = 4 + 67 from rfl, txV_sqset (sqV_len hol hcl) 67 (by decide)] at h
        rw [(sqV_set hol hcl).2.2.1] at h
        exact h)
      have eHM := Lib.hid (Ws.own_set HM.out (Nat.lt_succ_self X) 71 (.int .i64 (dn : Int)))
      have eHT := Lib.hid (Ws.own_set HT.out (Nat.lt_succ_self X) 71 (.int .i64 (dn : Int)))
      clear HW HM HT
      go_upto_region 15 with (fail)
      change Code.wp _ _ _ _ (w10.setCell ⟨X, 71, none⟩ (.int .i64 (dn : Int)))
      clear hc hf
      generalize w10.setCell ⟨X, 71, none⟩ (.int .i64 (dn : Int)) = w11 at *
      have HW := eW
      have HM := eHM
      have HT := eHT
      clear eW eHM eHT
      obtain ⟨md, hmd⟩ : ∃ md, md = geN l L p6 2 := ⟨_, rfl⟩
      obtain ⟨p7, hp7⟩ : ∃ p7, p7 = atN l L p6 2 := ⟨_, rfl⟩
      have H_md := Lib.hid hmd
      have H_p7 := Lib.hid hp7
      have HC := Lib.hid (cnum_q R A L C l p6 2 w11 HW.out.rd (by decide))
      rw [show ((2 : Nat) : Int) = 2 from rfl, ← hmd, ← hp7] at HC
      clear hmd hp7
      go_wp2_with fail
      refine HC.out.mono ?_
      rintro e w12 ⟨rfl, hR, hg⟩
      have eW := Lib.hid (HW.out.call hR hg)
      have eHM := Lib.hid (HW.out.own_call HM.out (Nat.lt_succ_self X) hg)
      have eHT := Lib.hid (HW.out.own_call HT.out (Nat.lt_succ_self X) hg)
      clear hR hg HC HW HM HT
      have HW := eW
      have HM := eHM
      have HT := eHT
      clear eW eHM eHT
      have hc : w12.cell? ⟨X, 72, none⟩ = some _ := HW.out.cell 72 (by decide)
      have hf : w12.frozen? ⟨X, 72, none⟩ = false := HW.out.rx.frozen _
      have eW : Hid (Wq w0 R O X (txV hh hd mv hs (sqV (k : Int) br og cu (.slice Ai ts5.length Ci) (dn : Int) (md : Int) false) mm) A L C l p7 (w12.setCell ⟨X, 72, none⟩ (.int .i64 (md : Int)))) := Lib.hid (by
        have h := HW.out.set 72 (.int .i64 (md : Int))
        rw [show (72 : Nat) = 4 + 68 from rfl, txV_sqset (sqV_len hol hcl) 68 (by decide)] at h
        rw [(sqV_set hol hcl).2.2.2.1] at h
        exact h)
      have eHM := Lib.hid (Ws.own_set HM.out (Nat.lt_succ_self X) 72 (.int .i64 (md : Int)))
      have eHT := Lib.hid (Ws.own_set HT.out (Nat.lt_succ_self X) 72 (.int .i64 (md : Int)))
      clear HW HM HT
      go_upto_region 16 with (fail)
      change Code.wp _ _ _ _ (w12.setCell ⟨X, 72, none⟩ (.int .i64 (md : Int)))
      clear hc hf
      generalize w12.setCell ⟨X, 72, none⟩ (.int .i64 (md : Int)) = w13 at *
      have HW := eW
      have HM := eHM
      have HT := eHT
      clear eW eHM eHT
      obtain ⟨st, hst⟩ : ∃ st, st = geN l L p7 1 := ⟨_, rfl⟩
      obtain ⟨p8, hp8⟩ : ∃ p8, p8 = atN l L p7 1 := ⟨_, rfl⟩
      have H_st := Lib.hid hst
      have H_p8 := Lib.hid hp8
      have HC := Lib.hid (cnum_q R A L C l p7 1 w13 HW.out.rd (by decide))
      rw [show ((1 : Nat) : Int) = 1 from rfl, ← hst, ← hp8] at HC
      clear hst hp8
      go_wp2_with fail
      refine HC.out.mono ?_
      rintro e w14 ⟨rfl, hR, hg⟩
      have eW := Lib.hid (HW.out.call hR hg)
      have eHM := Lib.hid (HW.out.own_call HM.out (Nat.lt_succ_self X) hg)
      have eHT := Lib.hid (HW.out.own_call HT.out (Nat.lt_succ_self X) hg)
      clear hR hg HC HW HM HT
      have HW := eW
      have HM := eHM
      have HT := eHT
      clear eW eHM eHT
      obtain ⟨sb1, hsb⟩ : ∃ sb1 : Bool, ((st : Int) == 1) = sb1 := ⟨_, rfl⟩
      have HSb : Hid (sb1 = (st == 1)) := Lib.hid (by rw [← hsb, Bool.eq_iff_iff]; simp; omega)
      have hc : w14.cell? ⟨X, 73, none⟩ = some _ := HW.out.cell 73 (by decide)
      have hf : w14.frozen? ⟨X, 73, none⟩ = false := HW.out.rx.frozen _
      have eW : Hid (Wq w0 R O X (txV hh hd mv hs (sqV (k : Int) br og cu (.slice Ai ts5.length Ci) (dn : Int) (md : Int) sb1) mm) A L C l p8 (w14.setCell ⟨X, 73, none⟩ (.bool sb1))) := Lib.hid (by
        have h := HW.out.set 73 (.bool sb1)
        rw [show (73 : Nat) = 4 + 69 from rfl, txV_sqset (sqV_len hol hcl) 69 (by decide)] at h
        rw [(sqV_set hol hcl).2.2.2.2] at h
        exact h)
      have eHM := Lib.hid (Ws.own_set HM.out (Nat.lt_succ_self X) 73 (.bool sb1))
      have eHT := Lib.hid (Ws.own_set HT.out (Nat.lt_succ_self X) 73 (.bool sb1))
      clear HW HM HT
      go_upto_region 18 with (fail)
      change Code.wp _ _ _ _ (w14.setCell ⟨X, 73, none⟩ (.bool sb1))
      clear hc hf
      generalize w14.setCell ⟨X, 73, none⟩ (.bool sb1) = w15 at *
      have HW := eW
      have HM := eHM
      have HT := eHT
      clear eW eHM eHT
      clear hsb
      have eK : sK l L p = k := H_k.out.symm
      have e1 : sP1 l L p = p1 := H_p1.out.symm
      have eB : sBr l L p = br := by unfold sBr; rw [e1]; exact H_br.out.symm
      have e2 : sP2 l L p = p2 := by unfold sP2; rw [e1]; exact H_p2.out.symm
      have eO : sOg l L p = og := by unfold sOg; rw [e2]; exact H_og.out.symm
      have e3 : sP3 l L p = p3 := by unfold sP3; rw [e2]; exact H_p3.out.symm
      have eC : sCu l L p = cu := by unfold sCu; rw [e3]; exact H_cu.out.symm
      have e4 : sP4 l L p = p4 := by unfold sP4; rw [e3]; exact H_p4.out.symm
      have eM : sM l L p = m := by unfold sM; rw [e4]; exact H_m.out.symm
      have e5 : sP5 l L p = p5 := by unfold sP5; rw [e4]; exact H_p5.out.symm
      have eQ : sQ l L p = (q5, ts5) := by unfold sQ; rw [eM, e5]; exact HQ.out.symm
      have eD : sDn l L p = dn := by unfold sDn; rw [eQ]; exact H_dn.out.symm
      have e6 : sP6 l L p = p6 := by unfold sP6; rw [eQ]; exact H_p6.out.symm
      have eMd : sMd l L p = md := by unfold sMd; rw [e6]; exact H_md.out.symm
      have e7 : sP7 l L p = p7 := by unfold sP7; rw [e6]; exact H_p7.out.symm
      have eS : sSt l L p = st := by unfold sSt; rw [e7]; exact H_st.out.symm
      have e8 : sP8 l L p = p8 := by unfold sP8; rw [e7]; exact H_p8.out.symm
      have eKn : sK l L p ≠ 0 := by rw [eK]; exact HKn.out
      have eqP : sqP l L p = ⟨(k : Nat), br, og, cu, ts5, (dn : Nat), (md : Nat), st == 1⟩ := by unfold sqP; rw [if_neg eKn, eK, eB, eO, eC, eQ, eD, eMd, eS]
      have HP := Lib.hid eqP
      have HKp := Lib.hid eKn
      have HSt := Lib.hid eS
      have H8 := Lib.hid e8
      clear eK e1 eB e2 eO e3 eC e4 eM e5 eQ eD e6 eMd e7 eS e8 eKn eqP
      by_cases h1 : 1 < st
      · have hd1 : (1 : Int) < (st : Int) := by omega
        have hd2 : decide ((1 : Int) < (st : Int)) = true := by simp; omega
        have H1 := Lib.hid h1
        clear h1
        go_wp2_with fail
        go_ret
        exact .inl ⟨⟨HKp.out, by rw [HSt.out]; exact H1.out⟩, rfl, _, _, HW.out⟩
      · have hd1 : ¬ (1 : Int) < (st : Int) := by omega
        have hd2 : decide ((1 : Int) < (st : Int)) = false := by simp; omega
        have H1 := Lib.hid h1
        clear h1
        go_wp2_with fail
        go_ret
        have eE : sqE l L p = p8 := by unfold sqE; rw [if_neg HKp.out]; unfold sP9; rw [HSt.out, if_neg H1.out]; exact H8.out
        refine .inr ⟨fun h => H1.out (by rw [← HSt.out]; exact h.2), rfl, Ai, Ci, ?_⟩
        rw [HP.out, eE]
        exact ⟨by have h := HW.out; rw [HSb.out] at h; exact h, HT.out, HM.out⟩
end Go.Proofs.Ytmcmapgllaopmaa.Cd
end

section
namespace Go.Proofs.Ytmcmapgllaopmaa.Cd
open Go.RowKit
set_option linter.unusedVariables false
theorem bytesWorld_below (w : World) (s : ByteArray) : Below w.heap.size w (Lib.bytesWorld w 5 s) := by
  refine ⟨?_, ?_, ?_, ?_, fun k hk => Lib.bytesWorld_at_old w _ s k hk⟩
  · unfold Lib.bytesWorld World.freeze
    split <;> rfl
  · unfold Lib.bytesWorld World.freeze
    split <;> rfl
  · unfold Lib.bytesWorld World.freeze
    split <;> rfl
  · rw [Lib.bytesWorld_size]; omega
theorem sb_getD (d : List Int) (hb : ∀ i, i < d.length → 0 ≤ d.getD i 0 ∧ d.getD i 0 ≤ 255) (j : Nat) (hj : j < d.length) : (((sb d).data.toList.getD j 0).toNat : Int) = d.getD j 0 := by
  have h := hb j hj
  rw [sb_data]
  simp only [List.getD, List.getElem?_map, List.getElem?_eq_getElem hj, Option.map_some, Option.getD_some] at h ⊢
  rw [UInt8.toNat_ofNat_of_lt' (by show _ < 256; omega)]
  omega
/-- a text's bytes, a row of their own -/
theorem conv_sb (d : List Int) (hb : ∀ i, i < d.length → 0 ≤ d.getD i 0 ∧ d.getD i 0 ≤ 255) (hn : d.length ≤ 4294967296) (w : World) :
    ∃ (cp : Nat) (w' : World), (convert 9 23 (.string (sb d))).run Try.prog w = .ok (.slice (some ⟨w.heap.size, 0, none⟩) d.length cp) w' ∧ Below w.heap.size w w' ∧ DatOk w.heap.size w' (some ⟨w.heap.size, 0, none⟩) d.length cp d := by
  have hs : (sb d).size = d.length := sb_size d
  refine ⟨grownCap w (sb d).size 0 5, Lib.bytesWorld w 5 (sb d), ?_, bytesWorld_below w (sb d), ?_⟩
  · rw [Lib.run_convert_string_bytes w 9 23 5 (sb d) Try.underlying9 Try.underlying23 Try.underlying5, hs]
  · have h1 := grownCap_ge w (sb d).size 0 5
    have h2 := grownCap_le_maxLen w (sb d).size 0 5 (by rw [hs]; unfold maxLen; omega)
    unfold maxLen at h2
    refine ⟨⟨rfl, by omega, by omega, by omega, fun e => (by cases e), hb, fun x hx => ?_⟩, fun x hx => ?_⟩
    · cases hx
      refine ⟨fun _ => by rw [Lib.bytesWorld_size]; exact Nat.lt_succ_self _, fun i hi => ?_⟩
      rw [show Addr.add ⟨w.heap.size, 0, none⟩ i = (⟨w.heap.size, i, none⟩ : Addr) from add_at _ _ _ _ (by omega), Lib.bytesWorld_cell w _ (sb d) i (by rw [hs]; exact hi), sb_getD d hb i hi]
    · cases hx
      exact ⟨Nat.le_refl _, _, _, Lib.bytesWorld_at_new w _ _⟩
end Go.Proofs.Ytmcmapgllaopmaa.Cd
end

section
namespace Go.Proofs.Ytmcmapgllaopmaa.Cd
open Go.RowKit
set_option linter.unusedVariables false
set_option maxRecDepth 100000 in
theorem and64 (k : Nat) (h : k < 4) : bits .and .i64 (k : Int) 1 = ((k % 2 : Nat) : Int) ∧ bits .and .i64 (k : Int) 2 = ((k / 2 % 2 * 2 : Nat) : Int) := by
  have h2 : ∀ n : _root_.Fin 4, bits .and .i64 (n.val : Int) 1 = ((n.val % 2 : Nat) : Int) ∧ bits .and .i64 (n.val : Int) 2 = ((n.val / 2 % 2 * 2 : Nat) : Int) := by decide
  exact h2 ⟨k, h⟩
set_option maxRecDepth 100000 in
set_option maxHeartbeats 8000000 in
theorem rparseTx_any (A : Option Addr) (L C : Nat) (l : List Int) (w : World) (h : RdB w A L C l) :
    Calls Try.prog 32 #[.slice A L C] w (TpRet l L w) := by
  have hz := zeroTx
  have hZl : tx0.toArray.size = 75 := by rw [List.size_toArray, tx0_len]
  generalize hZC : tx0.toArray = ZC at *
  have HZC := Lib.hid hZC
  have HZl := Lib.hid hZl
  have HLl := Lib.hid h.len
  have HB1 := Lib.hid h.byte
  have HRd := Lib.hid h
  have HB0 := Lib.hid (Below.refl w.heap.size w)
  clear hZl h hZC
  go_enter Try.func32, Try.ntmps32
  go_upto_region 1 with (fail)
  have hro := row_new w ZC 68
  rw [HZl.out] at hro
  have HO1 := Lib.hid hro
  have hX1 : (w.alloc (.cells ZC 68)).heap.size = w.heap.size + 1 := by show (w.heap.push _).size = _; simp
  have HBa := Lib.hid (HB0.out.alloc (Nat.le_refl _) (.cells ZC 68))
  have HRd1 := Lib.hid (HRd.out.below HBa.out)
  have HLt : Hid (∀ x, A = some x → 0 < L → x.block < w.heap.size) := Lib.hid (fun x hx h0 => (HRd.out.cell x hx).1 h0)
  clear hro HB0 HRd
  generalize w.alloc (.cells ZC 68) = w1 at *
  go_upto_region 2 with (fail)
  have HB2 := Lib.hid (HBa.out.alloc (show w.heap.size ≤ w1.heap.size by omega) (.cells #[.slice A L C, .int .i64 0, .bool false] 99))
  have HO2 := Lib.hid (World.rowIs.alloc HO1.out (.cells #[.slice A L C, .int .i64 0, .bool false] 99))
  have hr2 := row_new w1 #[.slice A L C, .int .i64 0, .bool false] 99
  have HU2 : Hid (Cu (w1.alloc (.cells #[.slice A L C, .int .i64 0, .bool false] 99)) w1.heap.size A L C l 0 false) := Lib.hid ⟨hr2.congr (fun j hj => by
      match j, hj with
      | 0, _ => rfl
      | 1, _ => rfl
      | 2, _ => rfl), HRd1.out.below ((Below.refl w1.heap.size w1).alloc (Nat.le_refl _) _), fun x hx h0 => by have := HLt.out x hx h0; omega, Nat.zero_le _⟩
  clear hr2 HO1 HBa HRd1
  obtain ⟨R, hR⟩ : ∃ R, R = w.heap.size + 1 := ⟨_, rfl⟩
  obtain ⟨O, hO⟩ : ∃ O, O = w.heap.size := ⟨_, rfl⟩
  rw [hX1, ← hR] at HU2
  rw [← hR]
  rw [← hO] at HO2 HLt HB2 ⊢
  have hRO : O < R := by omega
  clear hX1
  generalize w1.alloc (.cells #[.slice A L C, .int .i64 0, .bool false] 99) = w2 at *
  have HOw := Lib.hid hO
  have hR2 : R < w2.heap.size := HU2.out.row.lt
  clear hR hO
  go_upto_region 3 with (fail)
  have hb23 := (Below.refl w2.heap.size w2).alloc (Nat.le_refl _) (.cells ZC 68)
  have hW : Wq w R O w2.heap.size tx0 A L C l (0, 0) (w2.alloc (.cells ZC 68)) :=
    ⟨⟨false, rfl, HU2.out.below hb23⟩, tx0_len, by rw [← HZC.out]; exact row_newL w2 tx0 _ 75 tx0_len, ⟨_, HO2.out.of_block (hb23.block O HO2.out.lt)⟩, HB2.out.trans (hb23.mono (by omega)), hRO, hR2, HLt.out⟩
  obtain ⟨Z0, hZ0⟩ : ∃ Z0, Z0 = sq0 := ⟨_, rfl⟩
  have hqz : Z0.length = 70 := by rw [hZ0]; exact sq0_len
  rw [show tx0 = txV false ByteArray.empty (.slice none 0 0) false Z0 (.slice none 0 0) by rw [hZ0]; rfl] at hW
  have HZs : Hid (Z0 = sq0) := Lib.hid hZ0
  have HQz := Lib.hid hqz
  have HW := Lib.hid hW
  clear hZ0 hqz hW hb23 HU2 HO2 HB2
  generalize w2.alloc (.cells ZC 68) = w3 at *
  generalize w2.heap.size = X at *
  obtain ⟨k, hk⟩ : ∃ k, k = geN l L (0, 0) 1 := ⟨_, rfl⟩
  obtain ⟨p1, hp1⟩ : ∃ p1, p1 = atN l L (0, 0) 1 := ⟨_, rfl⟩
  have HK := Lib.hid hk
  have HP1 := Lib.hid hp1
  have HBy := Lib.hid (cnum_q R A L C l (0, 0) 1 w3 HW.out.rd (by decide))
  rw [show ((1 : Nat) : Int) = 1 from rfl, ← hk, ← hp1] at HBy
  clear hk hp1
  go_wp2_with fail
  refine HBy.out.mono ?_
  rintro e w4 ⟨rfl, hR, hg⟩
  have HW4 := Lib.hid (HW.out.call hR hg)
  clear hR hg HW HBy
  by_cases h3 : 3 < k
  · have hd : (3 : Int) < (k : Int) := by omega
    have hd2 : decide ((3 : Int) < (k : Int)) = true := by simp; omega
    have HErr : Hid (xF l L = 16) := Lib.hid (xF_big (by show 3 < geN l L (0, 0) 1; rw [← HK.out]; exact h3))
    clear h3
    have HFz := Lib.hid (HW4.out.fin tx0 tx0_len tx0_one)
    have HRg := Lib.hid HW4.out.range
    rw [show txV false ByteArray.empty (.slice none 0 0) false Z0 (.slice none 0 0) = tx0 by rw [HZs.out]; rfl] at HRg
    have HSz : Hid ((Try.prog.info? 68).map (·.size) = some tx0.length) := Lib.hid (by rw [tx0_len]; exact infoTx)
    clear HW4
    go_wp2_with (first
      | (refine wpList_load_mid rfl _ _ rfl X 0 rfl tx0 _ HRg.out Try.underlying68 rfl HSz.out ?_)
      | (refine wpList_store_mid rfl _ _ _ rfl O 0 tx0.toArray rfl rfl HFz.out.there HFz.out.size HFz.out.one ?_))
    refine bodyPost_ret (results_cell2 rfl _ _ O _ _ _ _ rfl HFz.out.stored Try.underlying68 rfl HFz.out.size (.int .i64 16) rfl) rfl ?_
    exact ⟨by rw [← HOw.out]; exact HFz.out.bel, .inl ⟨by rw [HErr.out]; decide, by rw [HErr.out]⟩⟩
  · have hd : ¬ (3 : Int) < (k : Int) := by omega
    have hd2 : decide ((3 : Int) < (k : Int)) = false := by simp; omega
    have hk4 : k < 4 := by omega
    have H2 : Hid (xP2 l L (0, 0) = p1) := Lib.hid (by unfold xP2; rw [if_neg (by show ¬ 3 < geN l L (0, 0) 1; rw [← HK.out]; exact h3)]; exact HP1.out.symm)
    clear h3
    obtain ⟨hh, hhh⟩ : ∃ hh : Bool, hh = (k % 2 == 1) := ⟨_, rfl⟩
    obtain ⟨hs, hhs⟩ : ∃ hs : Bool, hs = (k / 2 % 2 == 1) := ⟨_, rfl⟩
    have HHh := Lib.hid hhh
    have HHs := Lib.hid hhs
    have ea : bits .and .i64 (k : Int) 1 = ((if hh = true then 1 else 0 : Nat) : Int) := by
      rw [(and64 k hk4).1, hhh]
      by_cases h1 : k % 2 = 1
      · simp [h1]
      · have h0 : k % 2 = 0 := by omega
        simp [h0]
    have eb : bits .and .i64 (k : Int) 2 = ((if hs = true then 2 else 0 : Nat) : Int) := by
      rw [(and64 k hk4).2, hhs]
      by_cases h1 : k / 2 % 2 = 1
      · simp [h1]
      · have h0 : k / 2 % 2 = 0 := by omega
        simp [h0]
    have HEb := Lib.hid eb
    clear hhh hhs eb
    have hc : w4.cell? ⟨X, 0, none⟩ = some _ := HW4.out.cell 0 (by decide)
    have hf : w4.frozen? ⟨X, 0, none⟩ = false := HW4.out.rx.frozen _
    have hW5 := HW4.out.set 0 (.bool hh)
    rw [(txV_set HQz.out).1] at hW5
    have HW5 := Lib.hid hW5
    clear hW5
    go_upto_region 7 with (fail)
    clear hd hd2
    go_cut [] (fun wx => Hid (Wq w R O X (txV hh ByteArray.empty (.slice none 0 0) false Z0 (.slice none 0 0)) A L C l p1 wx))
    case first =>
      cases hh
      · have hea : bits .and .i64 (k : Int) 1 = 0 := ea
        clear ea
        go_wp2_with fail
        go_meet
        exact HW5
      · have hea : bits .and .i64 (k : Int) 1 = 1 := ea
        clear ea
        go_wp2_with fail
        go_meet
        exact HW5
    case rest =>
      clear hc hf ea HW4 HW5
      have HW5 := hcut
      clear hcut
      have hc : wc.cell? ⟨X, 3, none⟩ = some _ := HW5.out.cell 3 (by decide)
      have hf : wc.frozen? ⟨X, 3, none⟩ = false := HW5.out.rx.frozen _
      have hW6 := HW5.out.set 3 (.bool hs)
      rw [(txV_set HQz.out).2.2.2.1] at hW6
      have HW6 := Lib.hid hW6
      clear hW6
      have eb := HEb.out
      go_upto_region 8 with (fail)
      go_cut [] (fun wx => Hid (Wq w R O X (txV hh ByteArray.empty (.slice none 0 0) hs Z0 (.slice none 0 0)) A L C l p1 wx))
      case first =>
        cases hs
        · have hea : bits .and .i64 (k : Int) 2 = 0 := eb
          clear eb
          go_wp2_with fail
          go_meet
          exact HW6
        · have hea : bits .and .i64 (k : Int) 2 = 2 := eb
          clear eb
          go_wp2_with fail
          go_meet
          exact HW6
      case rest =>
        clear hc hf eb HW5 HW6 HEb
        have HW5 := hcut
        clear hcut
        obtain ⟨hd0, hhd⟩ : ∃ hd0 : ByteArray, hd0 = if hh = true then geT l L p1 1 255 else ByteArray.empty := ⟨_, rfl⟩
        obtain ⟨p3, hp3⟩ : ∃ p3 : Pl, p3 = if hh = true then atT l L p1 1 255 else p1 := ⟨_, rfl⟩
        have HHd := Lib.hid hhd
        have HP3 := Lib.hid hp3
        clear hhd hp3
        have hc : wc.cell? ⟨X, 0, none⟩ = some (.bool hh) := HW5.out.cell 0 (by decide)
        go_upto_if 31 with (fail)
        clear hc
        go_cut [] (fun wx => Hid (Wq w R O X (txV hh hd0 (.slice none 0 0) hs Z0 (.slice none 0 0)) A L C l p3 wx))
        case first =>
          cases hh
          · have HW6 : Hid (Wq w R O X (txV false hd0 (.slice none 0 0) hs Z0 (.slice none 0 0)) A L C l p3 wc) := Lib.hid (by rw [HHd.out, HP3.out]; exact HW5.out)
            clear HW5
            go_wp2_with fail
            go_meet
            exact HW6
          · have HTx := Lib.hid (ctext_q R A L C l p1 1 255 wc HW5.out.rd (by decide) (by decide))
            rw [show ((1 : Nat) : Int) = 1 from rfl, show geT l L p1 1 255 = hd0 from HHd.out.symm, show atT l L p1 1 255 = p3 from HP3.out.symm] at HTx
            go_wp2_with fail
            refine HTx.out.mono ?_
            rintro e w6 ⟨rfl, hR, hg⟩
            have HW6 := HW5.out.call hR hg
            have hc1 : w6.cell? ⟨X, 1, none⟩ = some _ := HW6.cell 1 (by decide)
            have hf1 : w6.frozen? ⟨X, 1, none⟩ = false := HW6.rx.frozen _
            have hW7 := HW6.set 1 (.string hd0)
            rw [(txV_set HQz.out).2.1] at hW7
            have HW7 := Lib.hid hW7
            clear hR hg HTx HW6 HW5 hW7
            go_wp2_with fail
            go_meet
            exact HW7
        case rest =>
          have HW6 := hcut
          clear hcut HW5
          have HN := Lib.hid (cnum_q R A L C l p3 2 wc HW6.out.rd (by decide))
          rw [show ((2 : Nat) : Int) = 2 from rfl] at HN
          obtain ⟨m, hm⟩ : ∃ m, m = geN l L p3 2 := ⟨_, rfl⟩
          have hml : m < 65536 := by rw [hm]; exact geN_lt (by decide) HLl.out HB1.out
          obtain ⟨p4, hp4⟩ : ∃ p4, p4 = atN l L p3 2 := ⟨_, rfl⟩
          rw [← hm, ← hp4] at HN
          have HM := Lib.hid hm
          have HP4 := Lib.hid hp4
          clear hm hp4
          go_wp2_with fail
          refine HN.out.mono ?_
          rintro e w7 ⟨rfl, hR, hg⟩
          have HW7 := Lib.hid (HW6.out.call hR hg)
          clear hR hg HN HW6
          obtain ⟨q5, ms5, hQ⟩ : ∃ q5 ms5, (q5, ms5) = mvL l L m p4 [] := ⟨_, _, rfl⟩
          have HQ := Lib.hid hQ
          clear hQ
          go_upto_block 0 with (fail)
          go_cut [] (fun wx => ∃ (Ai : Option Addr) (Ci : Nat), ms5.length ≤ 65536 ∧ Hid (Wq w R O X (txV hh hd0 (.slice Ai ms5.length Ci) hs Z0 (.slice none 0 0)) A L C l q5 wx) ∧ Hid (wx.ownsRow (X + 1) 126 66 (.slice Ai ms5.length Ci) ms5.length (mvsV ms5)))
          case first =>
            go_wp2_with fail
            go_loopw [9, 10] (fun s9 s10 wr => ∃ (i j : Nat) (q : Pl) (ms : List Mv) (Ai : Option Addr) (Ci : Nat), s9 = .int .i64 i ∧ i + j = m ∧ ms.length + j ≤ m ∧ Hid (mvL l L j q ms = (q5, ms5)) ∧ Hid (Wq w R O X (txV hh hd0 (.slice Ai ms.length Ci) hs Z0 (.slice none 0 0)) A L C l q wr) ∧ Hid (wr.ownsRow (X + 1) 126 66 (.slice Ai ms.length Ci) ms.length (mvsV ms))) (fun s9 _ _ => m - (intOf s9).toNat)
            case atStart => exact ⟨0, m, p4, [], none, 0, rfl, Nat.zero_add m, by simp, Lib.hid HQ.out.symm, HW7, Lib.hid ⟨by simp [mvsV], .inl ⟨rfl, rfl⟩⟩⟩
            case round =>
              clear HW7
              obtain ⟨i, j, q, ms, Ai, Ci, rfl, hj, hts, HTd, HWr, HOr⟩ := hrel
              have hcut := HWr.out.rd.cut
              by_cases hgo : 0 < j ∧ q.1 = 0
              · obtain ⟨hj0, hq0⟩ := hgo
                have hd : (i : Int) < (m : Int) := by omega
                have hd2 : decide ((i : Int) < (m : Int)) = true := by simp; omega
                have hdq : (q.1 != 0) = false := by simp [hq0]
                rw [hdq] at hcut
                obtain ⟨j', hj'⟩ : ∃ j', j = j' + 1 := ⟨j - 1, by omega⟩
                have htd := HTd.out
                rw [hj', mvL, if_pos hq0] at htd
                unfold mvP vP4 vWy vP3 vNw vP2 vOd vP1 vNm at htd
                have HJ' := Lib.hid hj'
                obtain ⟨nm, hnm⟩ : ∃ nm, nm = geT l L q 1 255 := ⟨_, rfl⟩
                obtain ⟨q1, hq1⟩ : ∃ q1, q1 = atT l L q 1 255 := ⟨_, rfl⟩
                rw [← hnm, ← hq1] at htd
                obtain ⟨od, hod⟩ : ∃ od, od = geI l L q1 := ⟨_, rfl⟩
                obtain ⟨q2, hq2⟩ : ∃ q2, q2 = atN l L q1 32 := ⟨_, rfl⟩
                rw [← hod, ← hq2] at htd
                obtain ⟨nw, hnw⟩ : ∃ nw, nw = geI l L q2 := ⟨_, rfl⟩
                obtain ⟨q3, hq3⟩ : ∃ q3, q3 = atN l L q2 32 := ⟨_, rfl⟩
                rw [← hnw, ← hq3] at htd
                obtain ⟨wy, hwy⟩ : ∃ wy, wy = geT l L q3 2 65535 := ⟨_, rfl⟩
                obtain ⟨q4, hq4⟩ : ∃ q4, q4 = atT l L q3 2 65535 := ⟨_, rfl⟩
                rw [← hwy, ← hq4] at htd
                have HTd2 := Lib.hid htd
                have hol : od.length = 32 := by rw [hod]; exact geI_len l L _
                have hnl : nw.length = 32 := by rw [hnw]; exact geI_len l L _
                have HOd := Lib.hid hod
                have HNw0 := Lib.hid hnw
                have HQ2 := Lib.hid hq2
                have HQ3 := Lib.hid hq3
                have HWy := Lib.hid hwy
                have HQ4 := Lib.hid hq4
                have HTx := Lib.hid (ctext_q R A L C l q 1 255 wr HWr.out.rd (by decide) (by decide))
                rw [show ((1 : Nat) : Int) = 1 from rfl, ← hnm, ← hq1] at HTx
                have hzt := zeroMvZ
                have HZt := Lib.hid mvZ_size
                generalize mvZ.toArray = ZT at *
                clear htd hnm hq1 hod hq2 hnw hq3 hwy hq4 hj' hdq hq0 HTd hj0
                go_wp2_with fail
                refine HTx.out.mono ?_
                rintro e w9 ⟨rfl, hR9, hg9⟩
                clear hcut
                have HW9 := HWr.out.call hR9 hg9
                have HO9 := HWr.out.own_call HOr.out (Nat.lt_succ_self X) hg9
                have HBt := Lib.hid (built_mv nm)
                have HY0 := Lib.hid (Wz.new HW9 HO9 (Z := ZT) (tY := 126) HZt.out (mvN_len nm))
                obtain ⟨hf, hrn⟩ := lay_new w9 126 66 ZT (mvN nm) infoMv HZt.out (mvN_len nm) (Mv.one _)
                have HFy := Lib.hid hf
                clear hR9 hg9 HTx HW9 HO9 hf hrn HWr HOr HZt
                generalize hDT : mvN nm = DT at *
                have HDT := Lib.hid hDT
                clear hDT
                go_upto_region 16 with (first
                  | (refine wpList_buildT rfl 126 0 _ rfl _ rfl DT.toArray HBt.out ?_)
                  | (refine wpList_store_mid rfl _ _ _ rfl w9.heap.size 0 DT.toArray rfl rfl HFy.out.there HFy.out.size HFy.out.one ?_))
                change Code.wp _ _ _ _ ((w9.alloc (.cells ZT 126)).setCells w9.heap.size 0 DT)
                clear HBt HFy
                generalize (w9.alloc (.cells ZT 126)).setCells w9.heap.size 0 DT = w10 at *
                generalize w9.heap.size = Y at *
                have HIj := Lib.hid (cid_q R A L C l q1 w10 HY0.out.ws.rd)
                rw [← HOd.out, ← HQ2.out] at HIj
                go_wp2_with fail
                refine HIj.out.mono ?_
                rintro e w11 ⟨rfl, hR11, hg11⟩
                have HY1 := HY0.out.call hR11 hg11
                have hbi : (bv od).length = 32 := by rw [bv_len, hol]
                have HT1 := Lib.hid (HY1.there 1 (bv od) (by omega))
                have hy2 := HY1.lay 1 (bv od) (by omega)
                rw [← HDT.out, mvN, (Mv.lay (by simp) (by simp) hol).1] at hy2
                have HYa := Lib.hid hy2
                have HS1 : Hid ((Try.prog.info? 37).map (·.size) = some (bv od).toArray.size) := Lib.hid (by rw [List.size_toArray, hbi]; exact infoId)
                have HO1 := Lib.hid (all_oneCell_toArray (bv_one od))
                clear hR11 hg11 hy2 HY0 HY1 HIj hbi HOd HQ2
                generalize hDN : bv od = DN at *
                have HDN := Lib.hid hDN
                clear hDN
                go_upto_region 17 with (refine wpList_store_mid rfl _ _ _ rfl Y 1 DN.toArray rfl rfl HT1.out HS1.out HO1.out ?_)
                change Code.wp _ _ _ _ (w11.setCells Y 1 DN)
                clear HT1 HS1 HO1 HDN
                generalize w11.setCells Y 1 DN = w12 at *
                have HIj := Lib.hid (cid_q R A L C l q2 w12 HYa.out.ws.rd)
                rw [← HNw0.out, ← HQ3.out] at HIj
                go_wp2_with fail
                refine HIj.out.mono ?_
                rintro e w13 ⟨rfl, hR11, hg11⟩
                have HY1 := HYa.out.call hR11 hg11
                have hbi : (bv nw).length = 32 := by rw [bv_len, hnl]
                have HT1 := Lib.hid (HY1.there 33 (bv nw) (by omega))
                have hy2 := HY1.lay 33 (bv nw) (by omega)
                rw [(Mv.lay hol (by simp) hnl).2] at hy2
                have HYb := Lib.hid hy2
                have HS1 : Hid ((Try.prog.info? 37).map (·.size) = some (bv nw).toArray.size) := Lib.hid (by rw [List.size_toArray, hbi]; exact infoId)
                have HO1 := Lib.hid (all_oneCell_toArray (bv_one nw))
                clear hR11 hg11 hy2 HYa HY1 HIj hbi HNw0 HQ3
                generalize hDN : bv nw = DN at *
                have HDN := Lib.hid hDN
                clear hDN
                go_upto_region 18 with (refine wpList_store_mid rfl _ _ _ rfl Y 33 DN.toArray rfl rfl HT1.out HS1.out HO1.out ?_)
                change Code.wp _ _ _ _ (w13.setCells Y 33 DN)
                clear HT1 HS1 HO1 HDN
                generalize w13.setCells Y 33 DN = w14 at *
                have HTw := Lib.hid (ctext_q R A L C l q3 2 65535 w14 HYb.out.ws.rd (by decide) (by decide))
                rw [show ((2 : Nat) : Int) = 2 from rfl, ← HWy.out, ← HQ4.out] at HTw
                go_wp2_with fail
                refine HTw.out.mono ?_
                rintro e w15 ⟨rfl, hR, hg⟩
                have HY7 := HYb.out.call hR hg
                have hc65 : w15.cell? ⟨Y, 65, none⟩ = some _ := HY7.ry.cell (show 65 < 66 by decide)
                have hf65 : w15.frozen? ⟨Y, 65, none⟩ = false := HY7.ry.frozen _
                have hY8 := HY7.set 65 (.string wy)
                rw [Mv.set65 hol hnl] at hY8
                have HY8 := Lib.hid hY8
                clear hR hg HTw HYb HY7 hY8 HWy HQ4
                go_upto_region 19 with (fail)
                change Code.wp _ _ _ _ (w15.setCell ⟨Y, 65, none⟩ (.string wy))
                clear hc65 hf65
                generalize w15.setCell ⟨Y, 65, none⟩ (.string wy) = w16 at *
                have hc2 : w16.cell? ⟨X, 2, none⟩ = some (.slice Ai ms.length Ci) := HY8.out.ws.cell 2 (by decide)
                have HRy := Lib.hid HY8.out.range
                have hTl : (Mv.cells ⟨nm, od, nw, wy⟩).length = 66 := Mv.len hol hnl
                have HTl := Lib.hid hTl
                have HSy : Hid ((Try.prog.info? 126).map (·.size) = some (Mv.cells ⟨nm, od, nw, wy⟩).length) := Lib.hid (by rw [hTl]; exact infoMv)
                have HTo := Lib.hid (Mv.one ⟨nm, od, nw, wy⟩)
                have HNw := Lib.hid (new_cellsZ w16 (Mv.cells ⟨nm, od, nw, wy⟩) 126)
                have HbA := Lib.hid ((Below.refl w16.heap.size w16).alloc (Nat.le_refl _) (.cells (Mv.cells ⟨nm, od, nw, wy⟩).toArray 126))
                have HoA := Lib.hid (own_keep HY8.out.own HbA.out)
                have HXl : Hid (X + 1 ≤ (w16.alloc (.cells (Mv.cells ⟨nm, od, nw, wy⟩).toArray 126)).heap.size) := Lib.hid (by have h1 := HY8.out.ws.hXs; have h2 := HbA.out.size; omega)
                clear hTl
                generalize hDY : Mv.cells ⟨nm, od, nw, wy⟩ = DY at *
                have HDY := Lib.hid hDY
                clear hDY
                go_wp2_with (first
                  | (refine wpList_load_mid rfl _ _ rfl Y 0 rfl DY _ HRy.out Try.underlying126 rfl HSy.out ?_)
                  | (refine wpList_build_z rowMv _ rfl _ rfl DY rfl HTl.out ?_)
                  | (at_builtin; refine wpList_append_z rowMv _ rfl _ _ rfl (X + 1) _ ms.length (mvsV ms) rfl HoA.out w16.heap.size DY rfl HNw.out HTl.out HTo.out (by omega) HXl.out ?_))
                intro A9 C9 w17 hoE hgE
                have hws := HY8.out.ws.hXs
                obtain ⟨hWz, hOz⟩ := HY8.out.app HbA.out hoE hgE 2
                have hWp := (HY8.out.ws.belowB (HbA.out.mono (by omega))).app HoA.out (Nat.lt_succ_self X) hgE
                have hc : w17.cell? ⟨X, 2, none⟩ = some _ := hWp.cell 2 (by decide)
                have hf : w17.frozen? ⟨X, 2, none⟩ = false := hWp.rx.frozen _
                rw [(txV_set HQz.out).2.2.1] at hWz
                have HWz := Lib.hid hWz
                have HOz := Lib.hid hOz
                clear hWz hOz hWp hoE hgE HY8 HRy HTl HSy HTo HNw HbA HoA HXl hc2 hws
                go_wp2_with fail
                have hj2 := HJ'.out
                go_roundw
                case rel => exact ⟨i + 1, j', q4, ms ++ [⟨nm, od, nw, wy⟩], A9, C9, by go_num, by omega, by simp; omega, HTd2, Lib.hid (by rw [show (ms ++ [(⟨nm, od, nw, wy⟩ : Mv)]).length = ms.length + 1 by simp]; exact HWz.out), Lib.hid (by rw [show (ms ++ [(⟨nm, od, nw, wy⟩ : Mv)]).length = ms.length + 1 by simp, mvsV_snoc, HDY.out]; exact HOz.out)⟩
                case measure => simp [intOf]; omega
              · -- EXITS
                have HRel : Hid (ms.length ≤ 65536) := Lib.hid (by omega)
                by_cases hj0 : j = 0
                · have hd : ¬ (i : Int) < (m : Int) := by omega
                  have hd2 : decide ((i : Int) < (m : Int)) = false := by simp; omega
                  have he : (q, ms) = (q5, ms5) := by rw [← HTd.out, hj0]; rfl
                  obtain ⟨rfl, rfl⟩ := Prod.mk.inj he
                  clear hgo hj0 he HTd hcut
                  go_wp2_with fail
                  go_meet
                  exact ⟨Ai, Ci, HRel.out, HWr, HOr⟩
                · have hq0 : ¬ q.1 = 0 := fun e => hgo ⟨by omega, e⟩
                  have hd : (i : Int) < (m : Int) := by omega
                  have hd2 : decide ((i : Int) < (m : Int)) = true := by simp; omega
                  have hdq : (q.1 != 0) = true := by simp [hq0]
                  rw [hdq] at hcut
                  have he : (q, ms) = (q5, ms5) := by
                    obtain ⟨j', hj'⟩ : ∃ j', j = j' + 1 := ⟨j - 1, by omega⟩
                    rw [← HTd.out, hj', mvL, if_neg hq0]
                  obtain ⟨rfl, rfl⟩ := Prod.mk.inj he
                  clear hgo hj0 hq0 hdq he HTd
                  go_wp2_with fail
                  go_meet
                  exact ⟨Ai, Ci, HRel.out, HWr, HOr⟩
          case rest =>
            obtain ⟨Am, Cm, hm5, HW8, HO8⟩ := hcut
            clear HW7
            have eQ : Hid (xQ l L (0, 0) = (q5, ms5) ∧ xHh l L (0, 0) = hh ∧ xHs l L (0, 0) = hs ∧ xHd l L (0, 0) = hd0) := Lib.hid (by
              have eH : xH l L (0, 0) = k := HK.out.symm
              have eHh : xHh l L (0, 0) = hh := by unfold xHh; rw [eH]; exact HHh.out.symm
              have eHs : xHs l L (0, 0) = hs := by unfold xHs; rw [eH]; exact HHs.out.symm
              have eHd : xHd l L (0, 0) = hd0 := by unfold xHd; rw [eHh, H2.out]; exact HHd.out.symm
              have e3 : xP3 l L (0, 0) = p3 := by unfold xP3; rw [eHh, H2.out]; exact HP3.out.symm
              have eM : xM l L (0, 0) = m := by unfold xM; rw [e3]; exact HM.out.symm
              have e4 : xP4 l L (0, 0) = p4 := by unfold xP4; rw [e3]; exact HP4.out.symm
              exact ⟨by unfold xQ; rw [eM, e4]; exact HQ.out.symm, eHh, eHs, eHd⟩)
            clear HK HHh HHs HHd HP3 HM HP4 HQ H2 HP1
            have hc : wc.cell? ⟨X, 3, none⟩ = some (.bool hs) := HW8.out.cell 3 (by decide)
            by_cases hbad : hs = true ∧ sBad l L q5
            · obtain ⟨h1, h2⟩ := hbad
              have HErr : Hid (xF l L = 16) := Lib.hid (xF_bad (by rw [eQ.out.2.2.1]; exact h1) (by rw [eQ.out.1]; exact h2))
              have hW8 := HW8.out
              rw [HZs.out] at hW8
              have HSc := Lib.hid (rseq_r R O X A L C l q5 hh hd0 (.slice Am ms5.length Cm) hs (.slice none 0 0) _ _ _ w wc hW8 HO8.out)
              have HBd := Lib.hid h2
              rw [h1] at hc
              clear h1 h2 hW8
              go_wp2_with fail
              refine HSc.out.mono ?_
              rintro e w6 (⟨-, rfl, D', p', hW'⟩ | ⟨hn, -⟩)
              rotate_left
              · exact absurd HBd.out hn
              have HWe := Lib.hid hW'
              clear hW' HW8 HO8 HSc hc
              have HFz := Lib.hid (HWe.out.fin tx0 tx0_len tx0_one)
              clear HWe
              go_wp2_with (refine wpList_store_mid rfl _ _ _ rfl O 0 tx0.toArray rfl (show _ = _ from congrArg Value.agg HZC.out.symm) HFz.out.there HFz.out.size HFz.out.one ?_)
              refine bodyPost_ret (results_cell2 rfl _ _ O _ _ _ _ rfl HFz.out.stored Try.underlying68 rfl HFz.out.size (.int .i64 16) rfl) rfl ?_
              exact ⟨by rw [← HOw.out]; exact HFz.out.bel, .inl ⟨by rw [HErr.out]; decide, by rw [HErr.out]⟩⟩
            · have HNb := Lib.hid hbad
              clear hbad
              obtain ⟨sq, hsq⟩ : ∃ sq : Sq, sq = if hs = true then sqP l L q5 else Sq.nil 0 := ⟨_, rfl⟩
              obtain ⟨p5, hp5⟩ : ∃ p5 : Pl, p5 = if hs = true then sqE l L q5 else q5 := ⟨_, rfl⟩
              have hcl : ∀ v, (sq.cells v).length = 70 := by
                intro v
                rw [hsq]
                split
                · exact sqV_len (sqP_len l L q5).1 (sqP_len l L q5).2
                · exact sqV_len (by simp [Sq.nil]) (by simp [Sq.nil])
              have HCl := Lib.hid hcl
              have HSq := Lib.hid hsq
              have HP5 := Lib.hid hp5
              clear hsq hp5 hcl
              go_upto_if 68 with (fail)
              clear hc
              go_cut [] (fun wx => ∃ (At : Option Addr) (Ct : Nat), Hid (Wq w R O X (txV hh hd0 (.slice Am ms5.length Cm) hs (sq.cells (.slice At sq.ts.length Ct)) (.slice none 0 0)) A L C l p5 wx) ∧ Hid (wx.ownsRow (X + 1) 126 66 (.slice Am ms5.length Cm) ms5.length (mvsV ms5)) ∧ Hid (wx.ownsRow (X + 1) 84 33 (.slice At sq.ts.length Ct) sq.ts.length (tdsV sq.ts)))
              case first =>
                cases hs
                · have e1 : Hid (sq = Sq.nil 0) := Lib.hid (by rw [HSq.out]; rfl)
                  have e2 : Hid (p5 = q5) := Lib.hid (by rw [HP5.out]; rfl)
                  have HW6 : Hid (Wq w R O X (txV hh hd0 (.slice Am ms5.length Cm) false (sq.cells (.slice none sq.ts.length 0)) (.slice none 0 0)) A L C l p5 wc) := Lib.hid (by rw [e2.out, e1.out]; have h := HW8.out; rw [HZs.out] at h; exact h)
                  have HT6 : Hid (wc.ownsRow (X + 1) 84 33 (.slice none sq.ts.length 0) sq.ts.length (tdsV sq.ts)) := Lib.hid (by rw [e1.out]; exact ⟨by simp [tdsV, Sq.nil], .inl ⟨rfl, rfl⟩⟩)
                  clear HW8 e1 e2
                  go_wp2_with fail
                  go_meet
                  exact ⟨none, 0, HW6, HO8, HT6⟩
                · have hW8 := HW8.out
                  rw [HZs.out] at hW8
                  have HSc := Lib.hid (rseq_r R O X A L C l q5 hh hd0 (.slice Am ms5.length Cm) true (.slice none 0 0) _ _ _ w wc hW8 HO8.out)
                  unfold RqRet at HSc
                  rw [show sqP l L q5 = sq from HSq.out.symm, show sqE l L q5 = p5 from HP5.out.symm] at HSc
                  clear hW8
                  go_wp2_with fail
                  refine HSc.out.mono ?_
                  rintro e w6 (⟨hb, -⟩ | ⟨-, rfl, Ai, Ci, hW6, hT6, hM6⟩)
                  · exact absurd hb (fun h => HNb.out (by simpa using h))
                  have HW6 := Lib.hid hW6
                  have HT6 := Lib.hid hT6
                  have HM6 := Lib.hid hM6
                  clear hW6 hT6 hM6 HW8 HO8 HSc
                  go_wp2_with fail
                  go_meet
                  exact ⟨Ai, Ci, HW6, HM6, HT6⟩
              case rest =>
                obtain ⟨At, Ct, HWa, HOa, HTa⟩ := hcut
                clear HW8 HO8 HNb
                generalize hDS : sq.cells (.slice At sq.ts.length Ct) = DS at *
                have hql : DS.length = 70 := by rw [← hDS]; exact HCl.out _
                have HDS := Lib.hid hDS
                have HQs := Lib.hid hql
                clear hDS hql
                have HN := Lib.hid (cnum_q R A L C l p5 2 wc HWa.out.rd (by decide))
                rw [show ((2 : Nat) : Int) = 2 from rfl] at HN
                obtain ⟨m2, hm2⟩ : ∃ m2, m2 = geN l L p5 2 := ⟨_, rfl⟩
                have hml2 : m2 < 65536 := by rw [hm2]; exact geN_lt (by decide) HLl.out HB1.out
                obtain ⟨p6, hp6⟩ : ∃ p6, p6 = atN l L p5 2 := ⟨_, rfl⟩
                rw [← hm2, ← hp6] at HN
                have HM2 := Lib.hid hm2
                have HP6 := Lib.hid hp6
                clear hm2 hp6
                go_wp2_with fail
                refine HN.out.mono ?_
                rintro e wb ⟨rfl, hR, hg⟩
                have HWb := Lib.hid (HWa.out.call hR hg)
                have HOb : Hid (Ows X (.slice Am ms5.length Cm) ms5 (.slice At sq.ts.length Ct) sq.ts [] wb) := Lib.hid ⟨HWa.out.own_call HOa.out (Nat.lt_succ_self X) hg, HWa.out.own_call HTa.out (Nat.lt_succ_self X) hg, fun y hy => absurd hy (by simp)⟩
                clear hR hg HN HWa HOa HTa
                obtain ⟨q7, ys7, hQ⟩ : ∃ q7 ys7, (q7, ys7) = ymL l L m2 p6 [] := ⟨_, _, rfl⟩
                have HQ7 := Lib.hid hQ
                clear hQ
                go_upto_block 2 with (fail)
                go_cut [] (fun wx => ∃ (Ay : Option Addr) (Cy : Nat) (ys : List My), ys.length ≤ 65536 ∧ Hid (ys.map My.pl = ys7) ∧ Hid (Wq w R O X (txV hh hd0 (.slice Am ms5.length Cm) hs DS (.slice Ay ys.length Cy)) A L C l q7 wx) ∧ Hid (Ows X (.slice Am ms5.length Cm) ms5 (.slice At sq.ts.length Ct) sq.ts ys wx) ∧ Hid (wx.ownsRow (X + 1) 128 33 (.slice Ay ys.length Cy) ys.length (mysV ys)))
                case first =>
                  go_wp2_with fail
                  go_loopw [11, 12] (fun s11 s12 wr => ∃ (i j : Nat) (q : Pl) (ys : List My) (Ay : Option Addr) (Cy : Nat), s11 = .int .i64 i ∧ i + j = m2 ∧ ys.length + j ≤ m2 ∧ Hid (ymL l L j q (ys.map My.pl) = (q7, ys7)) ∧ Hid (Wq w R O X (txV hh hd0 (.slice Am ms5.length Cm) hs DS (.slice Ay ys.length Cy)) A L C l q wr) ∧ Hid (Ows X (.slice Am ms5.length Cm) ms5 (.slice At sq.ts.length Ct) sq.ts ys wr) ∧ Hid (wr.ownsRow (X + 1) 128 33 (.slice Ay ys.length Cy) ys.length (mysV ys))) (fun s11 _ _ => m2 - (intOf s11).toNat)
                  case atStart => exact ⟨0, m2, p6, [], none, 0, rfl, Nat.zero_add m2, by simp, Lib.hid HQ7.out.symm, HWb, HOb, Lib.hid ⟨by simp [mysV], .inl ⟨rfl, rfl⟩⟩⟩
                  case round =>
                    clear HWb HOb
                    obtain ⟨i, j, q, ys, Ay, Cy, rfl, hj, hts, HTd, HWr, HOw, HOr⟩ := hrel
                    have hcut := HWr.out.rd.cut
                    by_cases hgo : 0 < j ∧ q.1 = 0
                    · obtain ⟨hj0, hq0⟩ := hgo
                      have hd : (i : Int) < (m2 : Int) := by omega
                      have hd2 : decide ((i : Int) < (m2 : Int)) = true := by simp; omega
                      have hdq : (q.1 != 0) = false := by simp [hq0]
                      rw [hdq] at hcut
                      obtain ⟨j', hj'⟩ : ∃ j', j = j' + 1 := ⟨j - 1, by omega⟩
                      have htd := HTd.out
                      rw [hj', ymL, if_pos hq0] at htd
                      unfold ymP yP3 yD yP2 yM yP1 yK at htd
                      have HJ' := Lib.hid hj'
                      obtain ⟨key, hkey⟩ : ∃ key, key = geI l L q := ⟨_, rfl⟩
                      obtain ⟨q1, hq1⟩ : ∃ q1, q1 = atN l L q 32 := ⟨_, rfl⟩
                      rw [← hkey, ← hq1] at htd
                      obtain ⟨d, hdd⟩ : ∃ d, d = geL l L (atN l L q1 4) (geN l L q1 4) := ⟨_, rfl⟩
                      obtain ⟨q3, hq3⟩ : ∃ q3, q3 = atN l L (atN l L q1 4) (geN l L q1 4) := ⟨_, rfl⟩
                      rw [← hdd, ← hq3] at htd
                      have HTd2 := Lib.hid htd
                      have hkl : key.length = 32 := by rw [hkey]; exact geI_len l L _
                      have hn4l : geN l L q1 4 < 4294967296 := geN_lt (by decide) HLl.out HB1.out
                      have hdl0 : d.length ≤ geN l L q1 4 := by rw [hdd]; exact geL_len l L _ _
                      have hdl : d.length ≤ 4294967296 := by omega
                      have HDb : Hid (∀ i, i < d.length → 0 ≤ d.getD i 0 ∧ d.getD i 0 ≤ 255) := Lib.hid (by rw [hdd]; exact geL_byte HLl.out HB1.out _ _)
                      have HDd := Lib.hid hdd
                      have HQ3 := Lib.hid hq3
                      have HIa := Lib.hid (cid_q R A L C l q wr HWr.out.rd)
                      rw [← hkey, ← hq1] at HIa
                      have hzt := zeroMyZ
                      have HZt := Lib.hid myZ_size
                      generalize myZ.toArray = ZT at *
                      have HBt := Lib.hid (built_my key hkl)
                      generalize hDKe : bv key = DK at *
                      have HDK := Lib.hid hDKe
                      clear htd hkey hq1 hn4l hdl0 hdd hq3 hj' hdq hq0 HTd hj0 hDKe
                      go_wp2_with fail
                      refine HIa.out.mono ?_
                      rintro e w9 ⟨rfl, hR9, hg9⟩
                      clear hcut
                      have HRX : Hid (R ≤ X) := Lib.hid (Nat.le_of_lt HWr.out.hRX)
                      have HW9 := HWr.out.call hR9 hg9
                      have HO9 := HWr.out.own_call HOr.out (Nat.lt_succ_self X) hg9
                      have HOw9 := HOw.out.low hg9 HRX.out
                      have hb9 := (Below.refl w9.heap.size w9).alloc (Nat.le_refl _) (.cells ZT 128)
                      have HY0 := Lib.hid (Wz.new HW9 HO9 (Z := ZT) (tY := 128) (DY := myN key) HZt.out (My.len hkl))
                      have HOw0 := Lib.hid (HOw9.belowW (below_cells (Nat.le_refl w9.heap.size) (myN key) 0 _ hb9))
                      obtain ⟨hf, hrn⟩ := lay_new w9 128 33 ZT (myN key) infoMy HZt.out (My.len hkl) (My.one _)
                      have HFy := Lib.hid hf
                      clear hR9 hg9 HIa HW9 HO9 hf hrn HWr HOr HZt HOw HOw9 hb9
                      generalize hDT : myN key = DT at *
                      have HDT := Lib.hid hDT
                      clear hDT
                      go_upto_region 29 with (first
                        | (refine wpList_buildT rfl 128 0 _ rfl _ rfl DT.toArray HBt.out ?_)
                        | (refine wpList_store_mid rfl _ _ _ rfl w9.heap.size 0 DT.toArray rfl rfl HFy.out.there HFy.out.size HFy.out.one ?_))
                      change Code.wp _ _ _ _ ((w9.alloc (.cells ZT 128)).setCells w9.heap.size 0 DT)
                      clear HBt HFy
                      generalize (w9.alloc (.cells ZT 128)).setCells w9.heap.size 0 DT = w10 at *
                      generalize w9.heap.size = Y at *
                      have HTk := Lib.hid (ctext4_r R A L C l q1 4 w10 HY0.out.ws.rd (by decide))
                      rw [show ((4 : Nat) : Int) = 4 from rfl, ← HDd.out, ← HQ3.out] at HTk
                      go_wp2_with fail
                      refine HTk.out.mono ?_
                      rintro e wC ⟨rfl, hR, hg⟩
                      have dY := HY0.out.call hR hg
                      have dO := HOw0.out.low hg HRX.out
                      obtain ⟨cp, wD, hcv, hb8, hda⟩ := conv_sb d HDb.out hdl wC
                      have eY := dY.belowW hb8
                      have eO := dO.belowW hb8
                      have hXs := dY.ws.hXs
                      have hMy : MyOk (X + 1) wD ⟨key, some ⟨wC.heap.size, 0, none⟩, d.length, cp, d⟩ := ⟨hkl, hdl, hda.base (by omega)⟩
                      have hc32 : wD.cell? ⟨Y, 32, none⟩ = some _ := eY.ry.cell (show 32 < 33 by decide)
                      have hf32 : wD.frozen? ⟨Y, 32, none⟩ = false := eY.ry.frozen _
                      have hY9 := eY.set 32 (.slice (some ⟨wC.heap.size, 0, none⟩) d.length cp)
                      rw [← HDT.out, My.set32 hkl _ d.length cp d] at hY9
                      have HY9 := Lib.hid hY9
                      have HOw9 := Lib.hid ((eO.snoc hMy).mem eY.ry (grown_set wD Y 32 (.slice (some ⟨wC.heap.size, 0, none⟩) d.length cp)))
                      clear hb8 hda hMy eY eO hXs dY dO hY9 hR hg HTk HY0 HOw0
                      go_upto_region 30 with (fail)
                      change Code.wp _ _ _ _ (wD.setCell ⟨Y, 32, none⟩ (.slice (some ⟨wC.heap.size, 0, none⟩) d.length cp))
                      clear hc32 hf32 hcv
                      generalize wD.setCell ⟨Y, 32, none⟩ (.slice (some ⟨wC.heap.size, 0, none⟩) d.length cp) = w13 at *
                      generalize wC.heap.size = G8 at *
                      have hc74 : w13.cell? ⟨X, 74, none⟩ = some _ := HY9.out.ws.cell 74 (by decide)
                      rw [txV_get HQs.out] at hc74
                      have HRy := Lib.hid HY9.out.range
                      have hTl : (My.cells ⟨key, some ⟨G8, 0, none⟩, d.length, cp, d⟩).length = 33 := My.len hkl
                      have HTl := Lib.hid hTl
                      have HSy : Hid ((Try.prog.info? 128).map (·.size) = some (My.cells ⟨key, some ⟨G8, 0, none⟩, d.length, cp, d⟩).length) := Lib.hid (by rw [hTl]; exact infoMy)
                      have HTo := Lib.hid (My.one ⟨key, some ⟨G8, 0, none⟩, d.length, cp, d⟩)
                      have HNw := Lib.hid (new_cellsZ w13 (My.cells ⟨key, some ⟨G8, 0, none⟩, d.length, cp, d⟩) 128)
                      have HbA := Lib.hid ((Below.refl w13.heap.size w13).alloc (Nat.le_refl _) (.cells (My.cells ⟨key, some ⟨G8, 0, none⟩, d.length, cp, d⟩).toArray 128))
                      have HoA := Lib.hid (own_keep HY9.out.own HbA.out)
                      have HXl : Hid (X + 1 ≤ (w13.alloc (.cells (My.cells ⟨key, some ⟨G8, 0, none⟩, d.length, cp, d⟩).toArray 128)).heap.size) := Lib.hid (by have h1 := HY9.out.ws.hXs; have h2 := HbA.out.size; omega)
                      clear hTl
                      generalize hDY : My.cells ⟨key, some ⟨G8, 0, none⟩, d.length, cp, d⟩ = DY at *
                      have HDY := Lib.hid hDY
                      clear hDY
                      go_wp2_with (first
                        | (refine wpList_load_mid rfl _ _ rfl Y 0 rfl DY _ HRy.out Try.underlying128 rfl HSy.out ?_)
                        | (refine wpList_build_z rowMy _ rfl _ rfl DY rfl HTl.out ?_)
                        | (at_builtin; refine wpList_append_z rowMy _ rfl _ _ rfl (X + 1) _ ys.length (mysV ys) rfl HoA.out w13.heap.size DY rfl HNw.out HTl.out HTo.out (by omega) HXl.out ?_))
                      intro A9 C9 w14 hoE hgE
                      have hws := HY9.out.ws.hXs
                      obtain ⟨hWz, hOz⟩ := HY9.out.app HbA.out hoE hgE 74
                      have hWp := (HY9.out.ws.belowB (HbA.out.mono (by omega))).app HoA.out (Nat.lt_succ_self X) hgE
                      have hQp := ((HOw9.out.belowW HbA.out).app HoA.out hgE).low (grown_set w14 X 74 (.slice A9 (ys.length + 1) C9)) (Nat.le_refl X)
                      have hc : w14.cell? ⟨X, 74, none⟩ = some _ := hWp.cell 74 (by decide)
                      have hf : w14.frozen? ⟨X, 74, none⟩ = false := hWp.rx.frozen _
                      rw [(txV_set HQs.out).2.2.2.2] at hWz
                      have HWz := Lib.hid hWz
                      have HOz := Lib.hid hOz
                      have HQp := Lib.hid hQp
                      clear hWz hOz hWp hoE hgE HY9 HRy HTl HSy HTo HNw HbA HoA HXl hc74 hws hQp HOw9
                      go_wp2_with fail
                      have hj2 := HJ'.out
                      go_roundw
                      case rel => exact ⟨i + 1, j', q3, ys ++ [⟨key, some ⟨G8, 0, none⟩, d.length, cp, d⟩], A9, C9, by go_num, by omega, by simp; omega, Lib.hid (by rw [List.map_append]; exact HTd2.out), Lib.hid (by rw [show (ys ++ [(⟨key, some ⟨G8, 0, none⟩, d.length, cp, d⟩ : My)]).length = ys.length + 1 by simp]; exact HWz.out), HQp, Lib.hid (by rw [show (ys ++ [(⟨key, some ⟨G8, 0, none⟩, d.length, cp, d⟩ : My)]).length = ys.length + 1 by simp, mysV_snoc, HDY.out]; exact HOz.out)⟩
                      case measure => simp [intOf]; omega
                    · -- EXITS
                      have HRel : Hid (ys.length ≤ 65536) := Lib.hid (by omega)
                      by_cases hj0 : j = 0
                      · have hd : ¬ (i : Int) < (m2 : Int) := by omega
                        have hd2 : decide ((i : Int) < (m2 : Int)) = false := by simp; omega
                        have he : (q, ys.map My.pl) = (q7, ys7) := by rw [← HTd.out, hj0]; rfl
                        obtain ⟨rfl, hys⟩ := Prod.mk.inj he
                        have HYs := Lib.hid hys
                        clear hys
                        clear hgo hj0 he HTd hcut
                        go_wp2_with fail
                        go_meet
                        exact ⟨Ay, Cy, ys, HRel.out, HYs, HWr, HOw, HOr⟩
                      · have hq0 : ¬ q.1 = 0 := fun e => hgo ⟨by omega, e⟩
                        have hd : (i : Int) < (m2 : Int) := by omega
                        have hd2 : decide ((i : Int) < (m2 : Int)) = true := by simp; omega
                        have hdq : (q.1 != 0) = true := by simp [hq0]
                        rw [hdq] at hcut
                        have he : (q, ys.map My.pl) = (q7, ys7) := by
                          obtain ⟨j', hj'⟩ : ∃ j', j = j' + 1 := ⟨j - 1, by omega⟩
                          rw [← HTd.out, hj', ymL, if_neg hq0]
                        obtain ⟨rfl, hys⟩ := Prod.mk.inj he
                        have HYs := Lib.hid hys
                        clear hys
                        clear hgo hj0 hq0 hdq he HTd
                        go_wp2_with fail
                        go_meet
                        exact ⟨Ay, Cy, ys, HRel.out, HYs, HWr, HOw, HOr⟩
                case rest =>
                  obtain ⟨Ay, Cy, ys, hyl, HYs, HWe, HOe, HRe⟩ := hcut
                  clear HWb HOb
                  have eR : Hid (xR l L (0, 0) = (q7, ys7) ∧ xSq l L (0, 0) = sq) := Lib.hid (by
                    have e5 : xP5 l L (0, 0) = p5 := by unfold xP5; rw [eQ.out.2.2.1, eQ.out.1]; exact HP5.out.symm
                    have eN : xN l L (0, 0) = m2 := by unfold xN; rw [e5]; exact HM2.out.symm
                    have e6 : xP6 l L (0, 0) = p6 := by unfold xP6; rw [e5]; exact HP6.out.symm
                    exact ⟨by unfold xR; rw [eN, e6]; exact HQ7.out.symm, by unfold xSq; rw [eQ.out.2.2.1, eQ.out.1]; exact HSq.out.symm⟩)
                  have eF : Hid (xF l L = enF q7.1 q7.2 L) := Lib.hid (by unfold xF xE; rw [eR.out.1])
                  have hcut := HWe.out.rd.cut
                  have hat := HWe.out.rd.at
                  have hle := HWe.out.rd.le
                  have hll := HLl.out
                  have hLi : L ≤ 140737488355328 := HWe.out.rd.rd.big
                  by_cases hq0 : q7.1 = 0
                  · have hdq : (q7.1 != 0) = false := by simp [hq0]
                    rw [hdq] at hcut
                    by_cases hlt : q7.2 < L
                    · have hd : (q7.2 : Int) < (L : Int) := by omega
                      have hd2 : decide ((q7.2 : Int) < (L : Int)) = true := by simp; omega
                      have HErr : Hid (xF l L = 15) := Lib.hid (by rw [eF.out]; unfold enF fl; rw [if_neg (by omega), if_pos hq0])
                      clear hdq hq0 hlt hll
                      have HFz := Lib.hid (HWe.out.fin tx0 tx0_len tx0_one)
                      clear HWe
                      go_wp2_with (refine wpList_store_mid rfl _ _ _ rfl O 0 tx0.toArray rfl (show _ = _ from congrArg Value.agg HZC.out.symm) HFz.out.there HFz.out.size HFz.out.one ?_)
                      refine bodyPost_ret (results_cell2 rfl _ _ O _ _ _ _ rfl HFz.out.stored Try.underlying68 rfl HFz.out.size (.int .i64 15) rfl) rfl ?_
                      exact ⟨by rw [← HOw.out]; exact HFz.out.bel, .inl ⟨by rw [HErr.out]; decide, by rw [HErr.out]⟩⟩
                    · have hd : ¬ (q7.2 : Int) < (L : Int) := by omega
                      have hd2 : decide ((q7.2 : Int) < (L : Int)) = false := by simp; omega
                      have HErr : Hid (xF l L = 0) := Lib.hid (by rw [eF.out]; unfold enF; rw [if_pos (by omega)]; exact hq0)
                      clear hdq hq0 hlt hll
                      have hl := HWe.out.dl
                      have HRg := Lib.hid HWe.out.range
                      obtain ⟨DF, hDF⟩ : ∃ DF, DF = txV hh hd0 (.slice Am ms5.length Cm) hs DS (.slice Ay ys.length Cy) := ⟨_, rfl⟩
                      have hon : ∀ v ∈ DF, v.oneCell' = true := by
                        rw [hDF]
                        exact txV_one rfl (by rw [← HDS.out]; exact sqV_one rfl) rfl
                      rw [← hDF] at hl HRg HWe
                      have HDF := Lib.hid hDF
                      have HFz := Lib.hid (HWe.out.fin DF hl hon)
                      have HLs : Hid ((Try.prog.info? 68).map (·.size) = some DF.length) := Lib.hid (by rw [hl]; exact infoTx)
                      have hOX : O ≤ X := by have h1 := HWe.out.hOR; have h2 := HWe.out.hRX; omega
                      have HTo : Hid (TxOwn (X + 1) wc Am Cm ms5 At Ct sq.ts Ay Cy ys) := Lib.hid ⟨HOe.out.m, HOe.out.t, HRe.out, HOe.out.y⟩
                      have HTf := Lib.hid (HTo.out.laid (k := O) 0 DF (.inl (by omega)))
                      have HwX : Hid (w.heap.size ≤ X + 1) := Lib.hid (by have := HOw.out; omega)
                      clear hl hDF hon hOX HWe HOe HRe HTo
                      go_wp2_with (first
                        | (refine wpList_load_mid rfl _ _ rfl X 0 rfl DF _ HRg.out Try.underlying68 rfl HLs.out ?_)
                        | (refine wpList_store_mid rfl _ _ _ rfl O 0 DF.toArray rfl rfl HFz.out.there HFz.out.size HFz.out.one ?_))
                      refine bodyPost_ret (results_cell2 rfl _ _ O _ _ _ _ rfl HFz.out.stored Try.underlying68 rfl HFz.out.size (.int .i64 0) rfl) rfl ?_
                      refine ⟨by rw [← HOw.out]; exact HFz.out.bel, .inr ⟨HErr.out, ?_⟩⟩
                      rw [eQ.out.1, eQ.out.2.1, eQ.out.2.2.1, eQ.out.2.2.2, eR.out.1, eR.out.2]
                      exact ⟨Am, Cm, At, Ct, Ay, Cy, ys, by rw [HDF.out, HDS.out], HTf.out.mono HwX.out (Below.refl _ _), HYs.out⟩
                  · have hdq : (q7.1 != 0) = true := by simp [hq0]
                    rw [hdq] at hcut
                    have HErr : Hid (xF l L = 14) := Lib.hid (by rw [eF.out, enF_st hq0]; exact HWe.out.rd.f.resolve_left hq0)
                    clear hdq hq0 hll
                    have HFz := Lib.hid (HWe.out.fin tx0 tx0_len tx0_one)
                    clear HWe
                    go_wp2_with (refine wpList_store_mid rfl _ _ _ rfl O 0 tx0.toArray rfl (show _ = _ from congrArg Value.agg HZC.out.symm) HFz.out.there HFz.out.size HFz.out.one ?_)
                    refine bodyPost_ret (results_cell2 rfl _ _ O _ _ _ _ rfl HFz.out.stored Try.underlying68 rfl HFz.out.size (.int .i64 14) rfl) rfl ?_
                    exact ⟨by rw [← HOw.out]; exact HFz.out.bel, .inl ⟨by rw [HErr.out]; decide, by rw [HErr.out]⟩⟩
end Go.Proofs.Ytmcmapgllaopmaa.Cd
end

section
namespace Go.Proofs.Ytmcmapgllaopmaa.Cd
open Go.RowKit
set_option linter.unusedVariables false
/-- a transaction without what is not asked of it -/
def akH (hh : Bool) (hd : ByteArray) : ByteArray := if hh = true then hd else ByteArray.empty
def akS (hs : Bool) (k : Int) (sq : List Value) : List Value := if hs = true ∧ k ≠ 0 then sq else sq0
theorem tx_setH {w : World} {X : Nat} {hh : Bool} {hd : ByteArray} {mv : Value} {hs : Bool} {sq : List Value} {mm : Value} (h : w.rowIs X 68 75 (fun i => (txV hh hd mv hs sq mm).getD i undef)) (s : ByteArray) : (w.setCell ⟨X, 1, none⟩ (.string s)).rowIs X 68 75 (fun i => (txV hh s mv hs sq mm).getD i undef) :=
  (h.set 1 _).congr (fun j _ => by
    match j with
    | 0 => rfl
    | 1 => rfl
    | j + 2 => rfl)
theorem tx_layS {w : World} {X : Nat} {hh : Bool} {hd : ByteArray} {mv : Value} {hs : Bool} {sq sq' : List Value} {mm : Value} (hq : sq.length = 70) (hq' : sq'.length = 70) (h : w.rowIs X 68 75 (fun i => (txV hh hd mv hs sq mm).getD i undef)) : (w.setCells X 4 sq').rowIs X 68 75 (fun i => (txV hh hd mv hs sq' mm).getD i undef) :=
  (row_lay h 4 sq').congr (fun j hj => by
    rw [layF, hq']
    by_cases h4 : j < 4
    · rw [if_neg (by omega)]
      match j, h4 with
      | 0, _ => rfl
      | 1, _ => rfl
      | 2, _ => rfl
      | 3, _ => rfl
    · obtain ⟨i, rfl⟩ : ∃ i, j = i + 4 := ⟨j - 4, by omega⟩
      have e1 : (txV hh hd mv hs sq mm).getD (i + 4) undef = (sq ++ [mm]).getD i undef := rfl
      have e2 : (txV hh hd mv hs sq' mm).getD (i + 4) undef = (sq' ++ [mm]).getD i undef := rfl
      rw [e1, e2]
      by_cases hi : i < 70
      · rw [if_pos (by omega), Nat.add_sub_cancel]
        simp [List.getD, List.getElem?_append_left (show i < sq'.length by omega)]
      · obtain rfl : i = 70 := by omega
        rw [if_neg (by omega)]
        simp [List.getD, hq, hq'])
theorem tx_there {w : World} {X o m : Nat} {f : Nat → Value} (h : w.rowIs X 68 75 f) (hm : o + m ≤ 75) : w.there X o m := fun j hj => ⟨by rw [h.cell (show o + j < 75 by omega)]; rfl, h.frozen _⟩
set_option maxRecDepth 100000 in
set_option maxHeartbeats 2000000 in
theorem asked_any (hh : Bool) (hd : ByteArray) (mv : Value) (hs : Bool) (k : Int) (br : ByteArray) (og cu : List Int) (td : Value) (dn md : Int) (st : Bool) (mm : Value) (w : World) (ho : og.length = 32) (hc : cu.length = 32) (hm1 : mv.oneCell' = true) (ht1 : td.oneCell' = true) (hy1 : mm.oneCell' = true) :
    Calls Try.prog 67 #[.agg (txV hh hd mv hs (sqV k br og cu td dn md st) mm).toArray] w fun e w' => e = .returned (.agg (txV hh (akH hh hd) mv hs (akS hs k (sqV k br og cu td dn md st)) mm).toArray) ∧ Below w.heap.size w w' := by
  have hql := sqV_len (k := k) (br := br) (td := td) (dn := dn) (md := md) (st := st) ho hc
  have hq1 := sqV_one (k := k) (br := br) (og := og) (cu := cu) (dn := dn) (md := md) (st := st) ht1
  have HSq : Hid (∀ w' : World, w'.rangeAt w.heap.size 4 (sqV k br og cu td dn md st) → w'.cell? ⟨w.heap.size, 4, none⟩ = some (.int .i64 k)) := Lib.hid (fun w' h => (sq_at ho hc h).c0)
  obtain ⟨sq, hsq⟩ : ∃ sq, sq = sqV k br og cu td dn md st := ⟨_, rfl⟩
  rw [← hsq] at hql hq1 HSq ⊢
  clear hsq ho hc
  have hb1 := (Below.refl w.heap.size w).alloc (Nat.le_refl _) (.cells (txV hh hd mv hs sq mm).toArray 68)
  have hr1 := row_newL w (txV hh hd mv hs sq mm) 68 75 (txV_len hql)
  have hb2 := hb1.alloc (al_le w _) (.cells tx0.toArray 68)
  have hr2 := World.rowIs.alloc hr1 (.cells tx0.toArray 68)
  have ho2 := row_newL (w.alloc (.cells (txV hh hd mv hs sq mm).toArray 68)) tx0 68 75 tx0_len
  have hX1 : (w.alloc (.cells (txV hh hd mv hs sq mm).toArray 68)).heap.size = w.heap.size + 1 := by show (w.heap.push _).size = _; simp
  rw [hX1] at ho2
  have HQl := Lib.hid hql
  have HQ1 := Lib.hid hq1
  have HB2 := Lib.hid hb2
  have HX2 := Lib.hid hr2
  have HO2 := Lib.hid ho2
  have hz1 := zeroTx
  have hz2 := zeroSq
  have HT0l := Lib.hid tx0_len
  have HS0l := Lib.hid sq0_len
  have HS01 : Hid (∀ v ∈ sq0, v.oneCell' = true) := Lib.hid (sqV_one rfl)
  have HSz : Hid ((Try.prog.info? 65).map (·.size) = some sq0.toArray.size) := Lib.hid (by rw [List.size_toArray, sq0_len]; exact infoSq)
  clear hb1 hr1 hb2 hr2 ho2 hX1 hql hq1
  have HTA : Hid (∀ (h : ByteArray) (q : List Value), q.length = 70 → ∀ w' : World, w'.rowIs w.heap.size 68 75 (fun i => (txV hh h mv hs q mm).getD i undef) → TxAt w' w.heap.size hh h mv hs q mm) := Lib.hid (fun h q hq w' hr => tx_at hq (row_range hr (txV_len hq)))
  have HTl : Hid (∀ (h : ByteArray) (q : List Value), q.length = 70 → (txV hh h mv hs q mm).length = 75) := Lib.hid (fun h q hq => txV_len hq)
  have HT1 : Hid (∀ (h : ByteArray) (q : List Value), (∀ v ∈ q, v.oneCell' = true) → ∀ v ∈ txV hh h mv hs q mm, v.oneCell' = true) := Lib.hid (fun h q hq => txV_one hm1 hq hy1)
  have HSH : Hid (∀ (h : ByteArray) (q : List Value) (w' : World), w'.rowIs w.heap.size 68 75 (fun i => (txV hh h mv hs q mm).getD i undef) → (w'.setCell ⟨w.heap.size, 1, none⟩ (.string ByteArray.empty)).rowIs w.heap.size 68 75 (fun i => (txV hh ByteArray.empty mv hs q mm).getD i undef)) := Lib.hid (fun h q w' hr => tx_setH hr _)
  have HLS : Hid (∀ (h : ByteArray) (w' : World), w'.rowIs w.heap.size 68 75 (fun i => (txV hh h mv hs sq mm).getD i undef) → (w'.setCells w.heap.size 4 sq0).rowIs w.heap.size 68 75 (fun i => (txV hh h mv hs sq0 mm).getD i undef)) := Lib.hid (fun h w' hr => tx_layS HQl.out sq0_len hr)
  have HPost : Hid (∀ (h : ByteArray) (q : List Value) (w' : World), h = akH hh hd → q = akS hs k sq → Below w.heap.size w w' → ((fun e w' => e = Ending.returned (.agg (txV hh (akH hh hd) mv hs (akS hs k sq) mm).toArray) ∧ Below w.heap.size w w') (Ending.returned (.agg (txV hh h mv hs q mm).toArray)) w')) := Lib.hid (fun h q w' e1 e2 hb => by
    subst e1 e2; exact ⟨rfl, hb⟩)
  generalize hPD : (fun e w' => e = Ending.returned (.agg (txV hh (akH hh hd) mv hs (akS hs k sq) mm).toArray) ∧ Below w.heap.size w w') = PO at *
  clear hPD
  generalize hCM : txV hh hd mv hs sq mm = CM at *
  generalize hTX : txV hh = TX at *
  clear hTX hm1 ht1 hy1
  go_enter Try.func67, Try.ntmps67
  go_upto_region 1 with (fail)
  generalize tx0.toArray = T0 at *
  generalize (w.alloc (.cells CM.toArray 68)).alloc (.cells T0 68) = w2 at *
  subst hCM
  have HA := Lib.hid (HTA.out hd sq HQl.out w2 HX2.out)
  have hc0 : w2.cell? ⟨w.heap.size, 0, none⟩ = some (.bool hh) := HA.out.c0
  clear HA
  cases hh
  · have hc1 : w2.cell? ⟨w.heap.size, 1, none⟩ = some (.string hd) := (HTA.out hd sq HQl.out w2 HX2.out).c1
    have hf1 := HX2.out.frozen 1
    have HX := Lib.hid (HSH.out hd sq w2 HX2.out)
    have HOx : Hid ((w2.setCell ⟨w.heap.size, 1, none⟩ (.string ByteArray.empty)).rowIs (w.heap.size + 1) 68 75 (fun i => tx0.getD i undef)) := Lib.hid (HO2.out.setOther (a := ⟨w.heap.size, 1, none⟩) (by show w.heap.size + 1 ≠ w.heap.size; omega) _)
    have HBx : Hid (Below w.heap.size w (w2.setCell ⟨w.heap.size, 1, none⟩ (.string ByteArray.empty))) := Lib.hid (HB2.out.setCell (p := ⟨w.heap.size, 1, none⟩) (Nat.le_refl _) _)
    clear HX2 HO2 HB2
    go_upto_region 3 with (fail)
    change Code.wp _ _ _ _ (w2.setCell ⟨w.heap.size, 1, none⟩ (.string ByteArray.empty))
    clear hc1 hf1 hc0
    generalize w2.setCell ⟨w.heap.size, 1, none⟩ (.string ByteArray.empty) = wx at *
    have HA := Lib.hid (HTA.out ByteArray.empty sq HQl.out wx HX.out)
    have hc3 : wx.cell? ⟨w.heap.size, 3, none⟩ = some (.bool hs) := HA.out.c3
    have hc4 : wx.cell? ⟨w.heap.size, 4, none⟩ = some (.int .i64 k) := HSq.out wx HA.out.sq
    clear HA
    cases hs
    · have HTh : Hid (wx.there w.heap.size 4 sq0.toArray.size) := Lib.hid (by show wx.there w.heap.size 4 sq0.length; rw [HS0l.out]; exact tx_there HX.out (by omega))
      have HSo := Lib.hid (all_oneCell_toArray HS01.out)
      have hx2 := HLS.out ByteArray.empty wx HX.out
      have ho2 := row_apart (b := w.heap.size + 1) (E := w.heap.size) (by omega) sq0 4 wx HOx.out
      have hb2 := below_cells (B := w.heap.size) (Nat.le_refl _) sq0 4 wx HBx.out
      clear HX HOx HBx
      have HX := Lib.hid hx2
      have HOx := Lib.hid ho2
      have HBx := Lib.hid hb2
      clear hx2 ho2 hb2
      go_upto_region 5 with (refine wpList_store_mid rfl _ _ _ rfl w.heap.size 4 sq0.toArray rfl rfl HTh.out HSz.out HSo.out ?_)
      change Code.wp _ _ _ _ (wx.setCells w.heap.size 4 sq0)
      generalize wx.setCells w.heap.size 4 sq0 = wy at *
      have HXe := Lib.hid (row_range HX.out (HTl.out ByteArray.empty sq0 HS0l.out))
      have HEl := Lib.hid (HTl.out ByteArray.empty sq0 HS0l.out)
      have HFz := Lib.hid (Fin.mkN infoTx (D := TX ByteArray.empty mv false sq0 mm) HEl.out (HT1.out ByteArray.empty sq0 HS01.out) HOx.out HBx.out (show w.heap.size ≤ w.heap.size + 1 by omega))
      have HSz2 : Hid ((Try.prog.info? 68).map (·.size) = some (TX ByteArray.empty mv false sq0 mm).length) := Lib.hid (by rw [HEl.out]; exact infoTx)
      have HP := Lib.hid (HPost.out ByteArray.empty sq0 _ (by unfold akH; rw [if_neg (by simp)]) (by unfold akS; rw [if_neg (by simp)]) HFz.out.bel)
      clear HPost
      generalize TX ByteArray.empty mv false sq0 mm = DE at *
      go_wp2_with (first
        | (refine wpList_load_mid rfl _ _ rfl w.heap.size 0 rfl DE _ HXe.out Try.underlying68 rfl HSz2.out ?_)
        | (refine wpList_store_mid rfl _ _ _ rfl (w.heap.size + 1) 0 DE.toArray rfl rfl HFz.out.there HFz.out.size HFz.out.one ?_))
      refine bodyPost_ret (results_cell_row rfl _ _ (w.heap.size + 1) _ _ _ _ rfl HFz.out.stored Try.underlying68 rfl HFz.out.size) rfl ?_
      exact HP.out
    · by_cases hk : k = 0
      · have hk0 : (k == 0) = true := by simp [hk]
        have HK := Lib.hid hk
        clear hk
        have HTh : Hid (wx.there w.heap.size 4 sq0.toArray.size) := Lib.hid (by show wx.there w.heap.size 4 sq0.length; rw [HS0l.out]; exact tx_there HX.out (by omega))
        have HSo := Lib.hid (all_oneCell_toArray HS01.out)
        have hx2 := HLS.out ByteArray.empty wx HX.out
        have ho2 := row_apart (b := w.heap.size + 1) (E := w.heap.size) (by omega) sq0 4 wx HOx.out
        have hb2 := below_cells (B := w.heap.size) (Nat.le_refl _) sq0 4 wx HBx.out
        clear HX HOx HBx
        have HX := Lib.hid hx2
        have HOx := Lib.hid ho2
        have HBx := Lib.hid hb2
        clear hx2 ho2 hb2
        go_upto_region 5 with (refine wpList_store_mid rfl _ _ _ rfl w.heap.size 4 sq0.toArray rfl rfl HTh.out HSz.out HSo.out ?_)
        change Code.wp _ _ _ _ (wx.setCells w.heap.size 4 sq0)
        generalize wx.setCells w.heap.size 4 sq0 = wy at *
        have HXe := Lib.hid (row_range HX.out (HTl.out ByteArray.empty sq0 HS0l.out))
        have HEl := Lib.hid (HTl.out ByteArray.empty sq0 HS0l.out)
        have HFz := Lib.hid (Fin.mkN infoTx (D := TX ByteArray.empty mv true sq0 mm) HEl.out (HT1.out ByteArray.empty sq0 HS01.out) HOx.out HBx.out (show w.heap.size ≤ w.heap.size + 1 by omega))
        have HSz2 : Hid ((Try.prog.info? 68).map (·.size) = some (TX ByteArray.empty mv true sq0 mm).length) := Lib.hid (by rw [HEl.out]; exact infoTx)
        have HP := Lib.hid (HPost.out ByteArray.empty sq0 _ (by unfold akH; rw [if_neg (by simp)]) (by unfold akS; rw [if_neg (by rintro ⟨-, h⟩; exact h HK.out)]) HFz.out.bel)
        clear HPost
        generalize TX ByteArray.empty mv true sq0 mm = DE at *
        go_wp2_with (first
          | (refine wpList_load_mid rfl _ _ rfl w.heap.size 0 rfl DE _ HXe.out Try.underlying68 rfl HSz2.out ?_)
          | (refine wpList_store_mid rfl _ _ _ rfl (w.heap.size + 1) 0 DE.toArray rfl rfl HFz.out.there HFz.out.size HFz.out.one ?_))
        refine bodyPost_ret (results_cell_row rfl _ _ (w.heap.size + 1) _ _ _ _ rfl HFz.out.stored Try.underlying68 rfl HFz.out.size) rfl ?_
        exact HP.out
      · have hk0 : (k == 0) = false := by simp [hk]
        have HK := Lib.hid hk
        clear hk
        go_upto_region 5 with (fail)
        have HXe := Lib.hid (row_range HX.out (HTl.out ByteArray.empty sq HQl.out))
        have HEl := Lib.hid (HTl.out ByteArray.empty sq HQl.out)
        have HFz := Lib.hid (Fin.mkN infoTx (D := TX ByteArray.empty mv true sq mm) HEl.out (HT1.out ByteArray.empty sq HQ1.out) HOx.out HBx.out (show w.heap.size ≤ w.heap.size + 1 by omega))
        have HSz2 : Hid ((Try.prog.info? 68).map (·.size) = some (TX ByteArray.empty mv true sq mm).length) := Lib.hid (by rw [HEl.out]; exact infoTx)
        have HP := Lib.hid (HPost.out ByteArray.empty sq _ (by unfold akH; rw [if_neg (by simp)]) (by unfold akS; rw [if_pos ⟨rfl, HK.out⟩]) HFz.out.bel)
        clear HPost
        generalize TX ByteArray.empty mv true sq mm = DE at *
        go_wp2_with (first
          | (refine wpList_load_mid rfl _ _ rfl w.heap.size 0 rfl DE _ HXe.out Try.underlying68 rfl HSz2.out ?_)
          | (refine wpList_store_mid rfl _ _ _ rfl (w.heap.size + 1) 0 DE.toArray rfl rfl HFz.out.there HFz.out.size HFz.out.one ?_))
        refine bodyPost_ret (results_cell_row rfl _ _ (w.heap.size + 1) _ _ _ _ rfl HFz.out.stored Try.underlying68 rfl HFz.out.size) rfl ?_
        exact HP.out
  · have HX := HX2
    have HOx := HO2
    have HBx := HB2
    clear HX2 HO2 HB2
    go_upto_region 3 with (fail)
    clear hc0
    generalize w2 = wx at *
    have HA := Lib.hid (HTA.out hd sq HQl.out wx HX.out)
    have hc3 : wx.cell? ⟨w.heap.size, 3, none⟩ = some (.bool hs) := HA.out.c3
    have hc4 : wx.cell? ⟨w.heap.size, 4, none⟩ = some (.int .i64 k) := HSq.out wx HA.out.sq
    clear HA
    cases hs
    · have HTh : Hid (wx.there w.heap.size 4 sq0.toArray.size) := Lib.hid (by show wx.there w.heap.size 4 sq0.length; rw [HS0l.out]; exact tx_there HX.out (by omega))
      have HSo := Lib.hid (all_oneCell_toArray HS01.out)
      have hx2 := HLS.out hd wx HX.out
      have ho2 := row_apart (b := w.heap.size + 1) (E := w.heap.size) (by omega) sq0 4 wx HOx.out
      have hb2 := below_cells (B := w.heap.size) (Nat.le_refl _) sq0 4 wx HBx.out
      clear HX HOx HBx
      have HX := Lib.hid hx2
      have HOx := Lib.hid ho2
      have HBx := Lib.hid hb2
      clear hx2 ho2 hb2
      go_upto_region 5 with (refine wpList_store_mid rfl _ _ _ rfl w.heap.size 4 sq0.toArray rfl rfl HTh.out HSz.out HSo.out ?_)
      change Code.wp _ _ _ _ (wx.setCells w.heap.size 4 sq0)
      generalize wx.setCells w.heap.size 4 sq0 = wy at *
      have HXe := Lib.hid (row_range HX.out (HTl.out hd sq0 HS0l.out))
      have HEl := Lib.hid (HTl.out hd sq0 HS0l.out)
      have HFz := Lib.hid (Fin.mkN infoTx (D := TX hd mv false sq0 mm) HEl.out (HT1.out hd sq0 HS01.out) HOx.out HBx.out (show w.heap.size ≤ w.heap.size + 1 by omega))
      have HSz2 : Hid ((Try.prog.info? 68).map (·.size) = some (TX hd mv false sq0 mm).length) := Lib.hid (by rw [HEl.out]; exact infoTx)
      have HP := Lib.hid (HPost.out hd sq0 _ (by unfold akH; rw [if_pos rfl]) (by unfold akS; rw [if_neg (by simp)]) HFz.out.bel)
      clear HPost
      generalize TX hd mv false sq0 mm = DE at *
      go_wp2_with (first
        | (refine wpList_load_mid rfl _ _ rfl w.heap.size 0 rfl DE _ HXe.out Try.underlying68 rfl HSz2.out ?_)
        | (refine wpList_store_mid rfl _ _ _ rfl (w.heap.size + 1) 0 DE.toArray rfl rfl HFz.out.there HFz.out.size HFz.out.one ?_))
      refine bodyPost_ret (results_cell_row rfl _ _ (w.heap.size + 1) _ _ _ _ rfl HFz.out.stored Try.underlying68 rfl HFz.out.size) rfl ?_
      exact HP.out
    · by_cases hk : k = 0
      · have hk0 : (k == 0) = true := by simp [hk]
        have HK := Lib.hid hk
        clear hk
        have HTh : Hid (wx.there w.heap.size 4 sq0.toArray.size) := Lib.hid (by show wx.there w.heap.size 4 sq0.length; rw [HS0l.out]; exact tx_there HX.out (by omega))
        have HSo := Lib.hid (all_oneCell_toArray HS01.out)
        have hx2 := HLS.out hd wx HX.out
        have ho2 := row_apart (b := w.heap.size + 1) (E := w.heap.size) (by omega) sq0 4 wx HOx.out
        have hb2 := below_cells (B := w.heap.size) (Nat.le_refl _) sq0 4 wx HBx.out
        clear HX HOx HBx
        have HX := Lib.hid hx2
        have HOx := Lib.hid ho2
        have HBx := Lib.hid hb2
        clear hx2 ho2 hb2
        go_upto_region 5 with (refine wpList_store_mid rfl _ _ _ rfl w.heap.size 4 sq0.toArray rfl rfl HTh.out HSz.out HSo.out ?_)
        change Code.wp _ _ _ _ (wx.setCells w.heap.size 4 sq0)
        generalize wx.setCells w.heap.size 4 sq0 = wy at *
        have HXe := Lib.hid (row_range HX.out (HTl.out hd sq0 HS0l.out))
        have HEl := Lib.hid (HTl.out hd sq0 HS0l.out)
        have HFz := Lib.hid (Fin.mkN infoTx (D := TX hd mv true sq0 mm) HEl.out (HT1.out hd sq0 HS01.out) HOx.out HBx.out (show w.heap.size ≤ w.heap.size + 1 by omega))
        have HSz2 : Hid ((Try.prog.info? 68).map (·.size) = some (TX hd mv true sq0 mm).length) := Lib.hid (by rw [HEl.out]; exact infoTx)
        have HP := Lib.hid (HPost.out hd sq0 _ (by unfold akH; rw [if_pos rfl]) (by unfold akS; rw [if_neg (by rintro ⟨-, h⟩; exact h HK.out)]) HFz.out.bel)
        clear HPost
        generalize TX hd mv true sq0 mm = DE at *
        go_wp2_with (first
          | (refine wpList_load_mid rfl _ _ rfl w.heap.size 0 rfl DE _ HXe.out Try.underlying68 rfl HSz2.out ?_)
          | (refine wpList_store_mid rfl _ _ _ rfl (w.heap.size + 1) 0 DE.toArray rfl rfl HFz.out.there HFz.out.size HFz.out.one ?_))
        refine bodyPost_ret (results_cell_row rfl _ _ (w.heap.size + 1) _ _ _ _ rfl HFz.out.stored Try.underlying68 rfl HFz.out.size) rfl ?_
        exact HP.out
      · have hk0 : (k == 0) = false := by simp [hk]
        have HK := Lib.hid hk
        clear hk
        go_upto_region 5 with (fail)
        have HXe := Lib.hid (row_range HX.out (HTl.out hd sq HQl.out))
        have HEl := Lib.hid (HTl.out hd sq HQl.out)
        have HFz := Lib.hid (Fin.mkN infoTx (D := TX hd mv true sq mm) HEl.out (HT1.out hd sq HQ1.out) HOx.out HBx.out (show w.heap.size ≤ w.heap.size + 1 by omega))
        have HSz2 : Hid ((Try.prog.info? 68).map (·.size) = some (TX hd mv true sq mm).length) := Lib.hid (by rw [HEl.out]; exact infoTx)
        have HP := Lib.hid (HPost.out hd sq _ (by unfold akH; rw [if_pos rfl]) (by unfold akS; rw [if_pos ⟨rfl, HK.out⟩]) HFz.out.bel)
        clear HPost
        generalize TX hd mv true sq mm = DE at *
        go_wp2_with (first
          | (refine wpList_load_mid rfl _ _ rfl w.heap.size 0 rfl DE _ HXe.out Try.underlying68 rfl HSz2.out ?_)
          | (refine wpList_store_mid rfl _ _ _ rfl (w.heap.size + 1) 0 DE.toArray rfl rfl HFz.out.there HFz.out.size HFz.out.one ?_))
        refine bodyPost_ret (results_cell_row rfl _ _ (w.heap.size + 1) _ _ _ _ rfl HFz.out.stored Try.underlying68 rfl HFz.out.size) rfl ?_
        exact HP.out
end Go.Proofs.Ytmcmapgllaopmaa.Cd
end

section
namespace Go.Proofs.Ytmcmapgllaopmaa.Cd
open Go.RowKit
set_option linter.unusedVariables false
def fitB (x m : Int) : Bool := decide (0 ≤ x ∧ x ≤ m)
theorem fits_any (x m : Int) (w : World) :
    Calls Try.prog 95 #[.int .i64 x, .int .i64 m] w fun e w' => e = .returned (.bool (fitB x m)) ∧ w = w' := by
  by_cases h0 : 0 ≤ x
  · by_cases h1 : x ≤ m
    · have HE : Hid (fitB x m = true) := Lib.hid (by simp [fitB, h0, h1])
      have d0 : decide (0 ≤ x) = true := by simp [h0]
      have d1 : decide (x ≤ m) = true := by simp [h1]
      go_enter Try.func95, Try.ntmps95
      go_wp2
      go_ret
      exact ⟨by rw [HE.out]; rfl, rfl⟩
    · have HE : Hid (fitB x m = false) := Lib.hid (by simp [fitB, h1])
      have d0 : decide (0 ≤ x) = true := by simp [h0]
      have d1 : decide (x ≤ m) = false := by simp; omega
      go_enter Try.func95, Try.ntmps95
      go_wp2
      go_ret
      exact ⟨by rw [HE.out]; rfl, rfl⟩
  · have HE : Hid (fitB x m = false) := Lib.hid (by simp [fitB, h0])
    have d0 : decide (0 ≤ x) = false := by simp; omega
    go_enter Try.func95, Try.ntmps95
    go_wp2
    go_ret
    exact ⟨by rw [HE.out]; rfl, rfl⟩
/-- do the numbers of a sequence fit? -/
def tdB (ts : List Td) : Bool := ts.all (fun t => fitB t.dd 255)
def nfB (ts : List Td) (k dn md : Int) : Bool := tdB ts && (fitB k 255 && (fitB dn 65535 && fitB md 65535))
theorem tdB_take (ts : List Td) (k : Nat) (hk : k < ts.length) : tdB (ts.take (k + 1)) = (tdB (ts.take k) && fitB (ts.getD k default).dd 255) := by
  rw [take_snocI ts k hk]
  simp [tdB]
theorem tdB_no (ts : List Td) (k : Nat) (hk : k < ts.length) (h : fitB (ts.getD k default).dd 255 = false) : tdB ts = false := by
  unfold tdB
  rw [List.all_eq_false]
  exact ⟨_, getD_memI hk, by rw [h]; decide⟩
theorem zeroTd (w : World) : (zeroValue 84).run Try.prog w = .ok (.agg (Td.cells ⟨0, List.replicate 32 0⟩).toArray) w := by kernel_rfl
set_option maxRecDepth 100000 in
set_option maxHeartbeats 2000000 in
theorem numbersFit_any (G : Nat) (k : Int) (br : ByteArray) (og cu : List Int) (A : Option Addr) (n C : Nat) (ts : List Td) (dn md : Int) (st : Bool) (w : World) (ho : og.length = 32) (hc : cu.length = 32) (hT : RdT G w A n C ts) (hG : G ≤ w.heap.size) (hn : n ≤ 1000000000) :
    Calls Try.prog 69 #[.agg (sqV k br og cu (.slice A n C) dn md st).toArray] w fun e w' => e = .returned (.bool (nfB ts k dn md)) ∧ Below w.heap.size w w' := by
  have hb1 := (Below.refl w.heap.size w).alloc (Nat.le_refl _) (.cells (sqV k br og cu (.slice A n C) dn md st).toArray 65)
  have hr1 := row_newL w (sqV k br og cu (.slice A n C) dn md st) 65 70 (sqV_len ho hc)
  have HSa := Lib.hid (sq_at ho hc (row_range hr1 (sqV_len ho hc)))
  have HT := Lib.hid (hT.below hb1 hG)
  have HB1 := Lib.hid hb1
  have hXl := hr1.lt
  have hTl : ts.length = n := by have := hT.rd.len; simpa using this
  have HTl := Lib.hid hTl
  have hcap := hT.rd.cap
  have hmax := hT.rd.max
  have hz := zeroTd
  have HZl : Hid ((Td.cells ⟨0, List.replicate 32 0⟩).toArray.size = 33) := Lib.hid (by simp [Td.cells, bv])
  generalize hZ : (Td.cells ⟨0, List.replicate 32 0⟩).toArray = Z at *
  generalize hCM : sqV k br og cu (.slice A n C) dn md st = CM at *
  have HPost : Hid (∀ (b : Bool) (w' : World), b = nfB ts k dn md → Below w.heap.size w w' → ((fun e w' => e = Ending.returned (.bool (nfB ts k dn md)) ∧ Below w.heap.size w w') (Ending.returned (.bool b)) w')) := Lib.hid (fun b w' e hb => by subst e; exact ⟨rfl, hb⟩)
  generalize hPD : (fun e w' => e = Ending.returned (.bool (nfB ts k dn md)) ∧ Below w.heap.size w w') = PO at *
  clear hPD hZ hT hb1 hr1 hTl ho hc hCM
  go_enter Try.func69, Try.ntmps69
  go_upto_region 1 with (fail)
  generalize w.alloc (.cells CM.toArray 65) = wA at *
  have hGA : G ≤ wA.heap.size := by omega
  have hc70 : wA.cell? ⟨w.heap.size, 4 + 62, none⟩ = some (.slice A n C) := by have := HSa.out.td; simpa using this
  have hc66 : wA.cell? ⟨w.heap.size, 66, none⟩ = some (.slice A n C) := hc70
  clear hc70
  go_wp2_with fail
  clear hc66
  go_loopw [8] (fun i wr => ∃ (j : Nat), i = .int .i64 j ∧ j ≤ n ∧ Hid (tdB (ts.take j) = true) ∧ Hid (Below wA.heap.size wA wr)) (fun i _ => n - (intOf i).toNat)
  case atStart => exact ⟨0, rfl, Nat.zero_le _, Lib.hid rfl, Lib.hid (Below.refl _ _)⟩
  case round =>
    obtain ⟨j, rfl, hj, HF, HB⟩ := hrel
    have HBw := Lib.hid (HB1.out.trans (HB.out.mono (by omega)))
    by_cases hlt : j < n
    · have hTr := HT.out.below HB.out hGA
      obtain ⟨g, o, rfl, hgl, hcc⟩ := hTr.rd.cell (by omega)
      obtain ⟨t, ht⟩ : ∃ t, t = ts.getD j default := ⟨_, rfl⟩
      have hrg := hcc j hlt
      rw [map_getD _ (by rw [HTl.out]; exact hlt), ← ht] at hrg
      have htm : t ∈ ts := by rw [ht]; exact getD_memI (by rw [HTl.out]; exact hlt)
      have htl := Td.len (hTr.ok t htm)
      have HRg := Lib.hid hrg
      have HTs : Hid ((Try.prog.info? 84).map (·.size) = some t.cells.length) := Lib.hid (by rw [htl]; exact infoTd)
      obtain ⟨hf, hrn⟩ := lay_new wr 84 33 Z t.cells infoTd HZl.out htl t.one
      have hc0 := (rg_cons hrn).1
      have HF2 := Lib.hid hf
      have HB4 := Lib.hid (HB.out.trans (hf.bel.mono HB.out.size))
      have hst := tdB_take ts j (by rw [HTl.out]; exact hlt)
      rw [HF.out, ← ht, Bool.true_and] at hst
      have HSt := Lib.hid hst
      have hno := tdB_no ts j (by rw [HTl.out]; exact hlt)
      rw [← ht] at hno
      have HNo := Lib.hid hno
      have hj0 : (0 : Int) ≤ (j : Int) := by omega
      have hj1 : (j : Int) < (n : Int) := by omega
      clear hTr hcc hrg htl hf hrn hst hno ht htm HF HBw
      obtain ⟨dd, hdd⟩ : ∃ dd, dd = t.dd := ⟨_, rfl⟩
      rw [← hdd] at hc0 HSt HNo
      clear hdd
      generalize t.cells = TC at *
      go_upto_region 4 with (first
        | (refine wpList_load_mid rfl _ _ rfl g (o + j * 33) rfl TC _ HRg.out Try.underlying84 rfl HTs.out ?_)
        | (refine wpList_store_mid rfl _ _ _ rfl wr.heap.size 0 TC.toArray rfl rfl HF2.out.there HF2.out.size HF2.out.one ?_))
      change Code.wp _ _ _ _ ((wr.alloc (.cells Z 84)).setCells wr.heap.size 0 TC)
      clear HF2 HRg HTs
      generalize (wr.alloc (.cells Z 84)).setCells wr.heap.size 0 TC = w4 at *
      generalize wr.heap.size = X at *
      have HFi := Lib.hid (fits_any dd 255 w4)
      cases hfb : fitB dd 255
      · rw [hfb] at HFi HSt
        have HNf := Lib.hid (HNo.out hfb)
        clear hfb HNo
        go_wp2_with fail
        refine HFi.out.mono ?_
        rintro e w' ⟨rfl, rfl⟩
        go_wp2_with fail
        exact HPost.out false _ (by unfold nfB; rw [HNf.out]; rfl) (HB1.out.trans (HB4.out.mono (by omega)))
      · rw [hfb] at HFi HSt
        clear hfb HNo
        go_wp2_with fail
        refine HFi.out.mono ?_
        rintro e w' ⟨rfl, rfl⟩
        go_wp2_with fail
        go_roundw
        case rel => exact ⟨j + 1, by go_num, by omega, HSt, HB4⟩
        case measure => simp [intOf]; omega
    · have ej : j = n := by omega
      have HTd : Hid (tdB ts = true) := Lib.hid (by
        have h := HF.out
        rw [ej, List.take_of_length_le (by rw [HTl.out]; exact Nat.le_refl _)] at h
        exact h)
      have hd2 : decide ((j : Int) < (n : Int)) = false := by simp; omega
      have hck : wr.cell? ⟨w.heap.size, 0, none⟩ = some (.int .i64 k) := (HB.out.cell (p := ⟨w.heap.size, 0, none⟩) hXl).trans HSa.out.c0
      have hcd : wr.cell? ⟨w.heap.size, 67, none⟩ = some (.int .i64 dn) := (HB.out.cell (p := ⟨w.heap.size, 67, none⟩) hXl).trans (by have := HSa.out.dn; simpa using this)
      have hcm : wr.cell? ⟨w.heap.size, 68, none⟩ = some (.int .i64 md) := (HB.out.cell (p := ⟨w.heap.size, 68, none⟩) hXl).trans (by have := HSa.out.md; simpa using this)
      have HF1 := Lib.hid (fits_any k 255 wr)
      have HF2 := Lib.hid (fits_any dn 65535 wr)
      have HF3 := Lib.hid (fits_any md 65535 wr)
      clear HF
      cases h1 : fitB k 255
      · have HE : Hid (nfB ts k dn md = false) := Lib.hid (by unfold nfB; rw [h1]; simp)
        rw [h1] at HF1
        clear h1
        go_wp2_with fail
        refine HF1.out.mono ?_
        rintro e w' ⟨rfl, rfl⟩
        go_wp2_with fail
        exact HPost.out false _ HE.out.symm HBw.out
      · rw [h1] at HF1
        cases h2 : fitB dn 65535
        · have HE : Hid (nfB ts k dn md = false) := Lib.hid (by unfold nfB; rw [h2]; simp)
          rw [h2] at HF2
          clear h1 h2
          go_wp2_with fail
          refine HF1.out.mono ?_
          rintro e w' ⟨rfl, rfl⟩
          go_wp2_with fail
          refine HF2.out.mono ?_
          rintro e w' ⟨rfl, rfl⟩
          go_wp2_with fail
          exact HPost.out false _ HE.out.symm HBw.out
        · rw [h2] at HF2
          cases h3 : fitB md 65535
          · have HE : Hid (nfB ts k dn md = false) := Lib.hid (by unfold nfB; rw [h3]; simp)
            rw [h3] at HF3
            clear h1 h2 h3
            go_wp2_with fail
            refine HF1.out.mono ?_
            rintro e w' ⟨rfl, rfl⟩
            go_wp2_with fail
            refine HF2.out.mono ?_
            rintro e w' ⟨rfl, rfl⟩
            go_wp2_with fail
            refine HF3.out.mono ?_
            rintro e w' ⟨rfl, rfl⟩
            go_wp2_with fail
            exact HPost.out false _ HE.out.symm HBw.out
          · have HE : Hid (nfB ts k dn md = true) := Lib.hid (by unfold nfB; rw [h1, h2, h3, HTd.out]; rfl)
            rw [h3] at HF3
            clear h1 h2 h3
            go_wp2_with fail
            refine HF1.out.mono ?_
            rintro e w' ⟨rfl, rfl⟩
            go_wp2_with fail
            refine HF2.out.mono ?_
            rintro e w' ⟨rfl, rfl⟩
            go_wp2_with fail
            refine HF3.out.mono ?_
            rintro e w' ⟨rfl, rfl⟩
            go_wp2_with fail
            exact HPost.out true _ HE.out.symm HBw.out
end Go.Proofs.Ytmcmapgllaopmaa.Cd
end
