/- Texts of one's own, merged: CdTxM, CdPtx, CdAsk, CdTxNum, CdTxLong. -/
import Derived.Test.YtmcmapgllaopmaaMc

section
namespace Go.Proofs.Ytmcmapgllaopmaa.Cd
open Go.RowKit
set_option linter.unusedVariables false
set_option maxRecDepth 100000 in
set_option maxHeartbeats 8000000 in
theorem tx_r (R : Nat) (A : Option Addr) (L C : Nat) (l : List Int) (p : Pl) (E : Nat → Value) (w : World) (h : At w R 3 136 A L C l p E) :
    Calls Try.prog 74 #[.pointer (some ⟨R, 0, none⟩)] w (TxpRet R A L C l p E w) := by
  have hz := zeroTx
  have hZl : tx0.toArray.size = 75 := by rw [List.size_toArray]; exact tx0_len
  have HZ0 : Hid (tx0 = txV false ByteArray.empty (.slice none 0 0) false sq0 (.slice none 0 0)) := Lib.hid rfl
  have HT0 := Lib.hid tx0_len
  have HR0 := Lib.hid h
  have hRl := h.row.lt
  have HAB : Hid (∀ x, A = some x → 0 < L → x.block < w.heap.size) := Lib.hid (fun x hx h0 => (h.rd.cell x hx).1 h0)
  have HB1 := Lib.hid h.rd.byte
  have HLl := Lib.hid h.rd.len
  have HZl := Lib.hid hZl
  generalize hZA : tx0.toArray = ZS at *
  have HZA := Lib.hid hZA
  clear hZl h hZA
  go_enter Try.func74, Try.ntmps74
  go_upto_region 1 with (fail)
  have hb1 := (Below.refl w.heap.size w).alloc (Nat.le_refl _) (.cells ZS 68)
  have hro := row_new w ZS 68
  rw [HZl.out] at hro
  have HR1 : Hid (At (w.alloc (.cells ZS 68)) R 3 136 A L C l p E) := Lib.hid (HR0.out.below hb1)
  have HG1 : Hid (w.grownBy (w.alloc (.cells ZS 68)) (some R)) := Lib.hid ⟨hb1.os, hb1.tape, hb1.output, hb1.size, fun i hi _ => hb1.block i hi⟩
  have HO1 := Lib.hid hro
  clear hro hb1 HR0
  generalize w.alloc (.cells ZS 68) = w1 at *
  have HW2 := Lib.hid (Ws.new (D := tx0) HR1.out HO1.out HG1.out hRl HAB.out (Nat.le_refl _) HT0.out)
  rw [HZA.out, HZ0.out] at HW2
  go_upto_region 2 with (fail)
  change Code.wp _ _ _ _ (w1.alloc (.cells ZS 68))
  generalize w1.alloc (.cells ZS 68) = w2 at *
  generalize w1.heap.size = X at *
  clear HO1 HG1 HR1
  obtain ⟨Z0, hZ0⟩ : ∃ Z0, Z0 = sq0 := ⟨_, rfl⟩
  rw [← hZ0] at HW2
  have HZs : Hid (Z0 = sq0) := Lib.hid hZ0
  have hqz : Z0.length = 70 := by rw [hZ0]; exact sq0_len
  have HQz := Lib.hid hqz
  clear hZ0 hqz
  have HBy := Lib.hid (byte_p R 3 136 A L C l p E w2 HW2.out.rd)
  obtain ⟨k, hk⟩ : ∃ k, k = geN l L p 1 := ⟨_, rfl⟩
  have hk256 : k < 256 := by rw [hk]; exact geN_lt (by decide) HLl.out HB1.out
  obtain ⟨p1, hp1⟩ : ∃ p1, p1 = atN l L p 1 := ⟨_, rfl⟩
  rw [← hk, ← hp1] at HBy
  have HK := Lib.hid hk
  have HP1 := Lib.hid hp1
  clear hk hp1
  go_wp2_with fail
  refine HBy.out.mono ?_
  rintro e w3 ⟨rfl, hR, hg⟩
  have HW3 := Lib.hid (HW2.out.call hR hg)
  clear hR hg HW2 HBy
  obtain ⟨p2, hp2⟩ : ∃ p2 : Pl, p2 = if 3 < k then (fl p1.1 16, p1.2) else p1 := ⟨_, rfl⟩
  have HP2 := Lib.hid hp2
  clear hp2
  go_upto_if 14 with (fail)
  go_cut [] (fun wx => Hid (Ws w R w.heap.size X 68 75 (txV false ByteArray.empty (.slice none 0 0) false Z0 (.slice none 0 0)) A L C l p2 E wx))
  case first =>
    by_cases h3 : 3 < k
    · have hd : (3 : Int) < (k : Int) := by omega
      have hd2 : decide ((3 : Int) < (k : Int)) = true := by simp; omega
      have HF := Lib.hid (fail_p R 3 136 A L C l p1 16 E w3 HW3.out.rd)
      have e2 : Hid (p2 = (fl p1.1 16, p1.2)) := Lib.hid (by rw [HP2.out, if_pos h3])
      clear h3
      go_wp2_with fail
      refine HF.out.mono ?_
      rintro e w4 ⟨rfl, hR, hg⟩
      have HW4 := HW3.out.call hR hg
      rw [← e2.out] at HW4
      have HW5 := Lib.hid HW4
      clear hR hg HW3 HF HW4
      go_wp2_with fail
      go_meet
      exact HW5
    · have hd : ¬ (3 : Int) < (k : Int) := by omega
      have hd2 : decide ((3 : Int) < (k : Int)) = false := by simp; omega
      have HW5 : Hid (Ws w R w.heap.size X 68 75 (txV false ByteArray.empty (.slice none 0 0) false Z0 (.slice none 0 0)) A L C l p2 E w3) := Lib.hid (by rw [HP2.out, if_neg h3]; exact HW3.out)
      clear h3
      go_wp2_with fail
      go_meet
      exact HW5
  case rest =>
    have HW4 := hcut
    clear hcut HW3
    obtain ⟨hh, hhh⟩ : ∃ hh : Bool, hh = (k % 2 == 1) := ⟨_, rfl⟩
    have HHh := Lib.hid hhh
    have ea : bits .and .u8 (k : Int) 1 = ((if hh = true then 1 else 0 : Nat) : Int) := by
      rw [and1 k hk256, hhh]
      by_cases h1 : k % 2 = 1
      · simp [h1]
      · have h0 : k % 2 = 0 := by omega
        simp [h0]
    have hc : wc.cell? ⟨X, 0, none⟩ = some _ := HW4.out.cell 0 (by decide)
    have hf : wc.frozen? ⟨X, 0, none⟩ = false := HW4.out.rx.frozen _
    have hW5 := HW4.out.set 0 (.bool hh)
    rw [(txV_set HQz.out).1] at hW5
    have HW5 := Lib.hid hW5
    clear hhh hW5
    go_upto_region 5 with (fail)
    go_cut [] (fun wx => Hid (Ws w R w.heap.size X 68 75 (txV hh ByteArray.empty (.slice none 0 0) false Z0 (.slice none 0 0)) A L C l p2 E wx))
    case first =>
      cases hh
      · have hea : bits .and .u8 (k : Int) 1 = 0 := ea
        clear ea
        go_wp2_with fail
        go_meet
        exact HW5
      · have hea : bits .and .u8 (k : Int) 1 = 1 := ea
        clear ea
        go_wp2_with fail
        go_meet
        exact HW5
    case rest =>
      clear hc hf ea HW4 HW5
      have HW5 := hcut
      clear hcut
      obtain ⟨hd0, hhd⟩ : ∃ hd0 : ByteArray, hd0 = if hh = true then geT l L p2 1 255 else ByteArray.empty := ⟨_, rfl⟩
      obtain ⟨p3, hp3⟩ : ∃ p3 : Pl, p3 = if hh = true then atT l L p2 1 255 else p2 := ⟨_, rfl⟩
      have HHd := Lib.hid hhd
      have HP3 := Lib.hid hp3
      clear hhd hp3
      have hc : wc.cell? ⟨X, 0, none⟩ = some (.bool hh) := HW5.out.cell 0 (by decide)
      go_upto_if 24 with (fail)
      clear hc
      go_cut [] (fun wx => Hid (Ws w R w.heap.size X 68 75 (txV hh hd0 (.slice none 0 0) false Z0 (.slice none 0 0)) A L C l p3 E wx))
      case first =>
        cases hh
        · have HW6 : Hid (Ws w R w.heap.size X 68 75 (txV false hd0 (.slice none 0 0) false Z0 (.slice none 0 0)) A L C l p3 E wc) := Lib.hid (by rw [HHd.out, HP3.out]; exact HW5.out)
          clear HW5
          go_wp2_with fail
          go_meet
          exact HW6
        · have HTx := Lib.hid (text_p R 3 136 A L C l p2 E 1 255 wc HW5.out.rd (by decide))
          rw [show ((1 : Nat) : Int) = 1 from rfl, show ((255 : Nat) : Int) = 255 from rfl, show geT l L p2 1 255 = hd0 from HHd.out.symm, show atT l L p2 1 255 = p3 from HP3.out.symm] at HTx
          go_wp2_with fail
          refine HTx.out.mono ?_
          rintro e w6 ⟨rfl, hR, hg⟩
          have HW6 := HW5.out.call hR hg
          have hc1 : w6.cell? ⟨X, 1, none⟩ = some _ := HW6.cell 1 (by decide)
          have hf1 : w6.frozen? ⟨X, 1, none⟩ = false := HW6.rx.frozen _
          have hW7 := HW6.set 1 (.string hd0)
          rw [(txV_set HQz.out).2.1] at hW7
          have HW7 := Lib.hid hW7
          clear hR hg HTx HW6 HW5 hW7
          go_wp2_with fail
          go_meet
          exact HW7
      case rest =>
        have HW6 := hcut
        clear hcut HW5
        have HN := Lib.hid (number_p R 3 136 A L C l p3 E 2 wc HW6.out.rd (by decide))
        rw [show ((2 : Nat) : Int) = 2 from rfl] at HN
        obtain ⟨m, hm⟩ : ∃ m, m = geN l L p3 2 := ⟨_, rfl⟩
        have hml : m < 65536 := by rw [hm]; exact geN_lt (by decide) HLl.out HB1.out
        obtain ⟨p4, hp4⟩ : ∃ p4, p4 = atN l L p3 2 := ⟨_, rfl⟩
        rw [← hm, ← hp4] at HN
        have HM := Lib.hid hm
        have HP4 := Lib.hid hp4
        clear hm hp4
        go_upto_region 8 with (fail)
        go_wp2_with fail
        refine HN.out.mono ?_
        rintro e w7 ⟨rfl, hR, hg⟩
        have HW7 := Lib.hid (HW6.out.call hR hg)
        clear hR hg HN HW6
        obtain ⟨q5, ms5, hQ⟩ : ∃ q5 ms5, (q5, ms5) = mvL l L m p4 [] := ⟨_, _, rfl⟩
        have HQ := Lib.hid hQ
        clear hQ
        go_upto_block 0 with (fail)
        go_cut [] (fun wx => ∃ (Ai : Option Addr) (Ci : Nat), ms5.length ≤ 65536 ∧ Hid (∀ t ∈ ms5, t.od.length = 32 ∧ t.nw.length = 32) ∧ Hid (Ws w R w.heap.size X 68 75 (txV hh hd0 (.slice Ai ms5.length Ci) false Z0 (.slice none 0 0)) A L C l q5 E wx) ∧ Hid (wx.ownsRow (X + 1) 126 66 (.slice Ai ms5.length Ci) ms5.length (mvsV ms5)))
        case first =>
          go_wp2_with fail
          go_loopw [5, 6] (fun s5 s6 wr => ∃ (j : Nat) (q : Pl) (ms : List Mv) (Ai : Option Addr) (Ci : Nat), s5 = .int .i64 j ∧ j ≤ m ∧ ms.length + j ≤ m ∧ Hid (∀ t ∈ ms, t.od.length = 32 ∧ t.nw.length = 32) ∧ Hid (mvL l L j q ms = (q5, ms5)) ∧ Hid (Ws w R w.heap.size X 68 75 (txV hh hd0 (.slice Ai ms.length Ci) false Z0 (.slice none 0 0)) A L C l q E wr) ∧ Hid (wr.ownsRow (X + 1) 126 66 (.slice Ai ms.length Ci) ms.length (mvsV ms))) (fun s5 _ _ => (intOf s5).toNat)
          case atStart => exact ⟨m, p4, [], none, 0, rfl, Nat.le_refl _, by simp, Lib.hid (by simp), Lib.hid HQ.out.symm, HW7, Lib.hid ⟨by simp [mvsV], .inl ⟨rfl, rfl⟩⟩⟩
          case round =>
            clear HW7
            obtain ⟨j, q, ms, Ai, Ci, rfl, hj, hts, HTs, HTd, HWr, HOr⟩ := hrel
            by_cases hgo : 0 < j ∧ q.1 = 0
            · obtain ⟨hj0, hq0⟩ := hgo
              have hd : (0 : Int) < (j : Int) := by omega
              have hdq : (q.1 == 0) = true := by simp [hq0]
              have HOk := Lib.hid (ok_p R 3 136 A L C l q E wr HWr.out.rd)
              rw [hdq] at HOk
              obtain ⟨j', hj'⟩ : ∃ j', j = j' + 1 := ⟨j - 1, by omega⟩
              have htd := HTd.out
              rw [hj', mvL, if_pos hq0] at htd
              unfold mvP vP4 vWy vP3 vNw vP2 vOd vP1 vNm at htd
              have HJ' := Lib.hid hj'
              obtain ⟨nm, hnm⟩ : ∃ nm, nm = geT l L q 1 255 := ⟨_, rfl⟩
              obtain ⟨q1, hq1⟩ : ∃ q1, q1 = atT l L q 1 255 := ⟨_, rfl⟩
              rw [← hnm, ← hq1] at htd
              obtain ⟨od, hod⟩ : ∃ od, od = geI l L q1 := ⟨_, rfl⟩
              obtain ⟨q2, hq2⟩ : ∃ q2, q2 = atN l L q1 32 := ⟨_, rfl⟩
              rw [← hod, ← hq2] at htd
              obtain ⟨nw, hnw⟩ : ∃ nw, nw = geI l L q2 := ⟨_, rfl⟩
              obtain ⟨q3, hq3⟩ : ∃ q3, q3 = atN l L q2 32 := ⟨_, rfl⟩
              rw [← hnw, ← hq3] at htd
              obtain ⟨wy, hwy⟩ : ∃ wy, wy = geT l L q3 2 65535 := ⟨_, rfl⟩
              obtain ⟨q4, hq4⟩ : ∃ q4, q4 = atT l L q3 2 65535 := ⟨_, rfl⟩
              rw [← hwy, ← hq4] at htd
              have HTd2 := Lib.hid htd
              have hol : od.length = 32 := by rw [hod]; exact geI_len l L _
              have hnl : nw.length = 32 := by rw [hnw]; exact geI_len l L _
              have HOd := Lib.hid hod
              have HNw0 := Lib.hid hnw
              have HQ2 := Lib.hid hq2
              have HQ3 := Lib.hid hq3
              have HWy := Lib.hid hwy
              have HQ4 := Lib.hid hq4
              have HTx := Lib.hid (text_p R 3 136 A L C l q E 1 255 wr HWr.out.rd (by decide))
              rw [show ((1 : Nat) : Int) = 1 from rfl, show ((255 : Nat) : Int) = 255 from rfl, ← hnm, ← hq1] at HTx
              have hzt := zeroMvZ
              have HZt := Lib.hid mvZ_size
              generalize mvZ.toArray = ZT at *
              clear htd hnm hq1 hod hq2 hnw hq3 hwy hq4 hj' hdq hq0 HTd hj0
              go_wp2_with fail
              refine HOk.out.mono ?_
              rintro e w8 ⟨rfl, rfl⟩
              clear HOk
              go_wp2_with fail
              refine HTx.out.mono ?_
              rintro e w9 ⟨rfl, hR9, hg9⟩
              have HW9 := HWr.out.call hR9 hg9
              have HO9 := HWr.out.own_call HOr.out (Nat.lt_succ_self X) hg9
              have HBt := Lib.hid (built_mv nm)
              have HY0 := Lib.hid (Wy.new HW9 HO9 (Z := ZT) (tY := 126) HZt.out (mvN_len nm))
              obtain ⟨hf, hrn⟩ := lay_new w9 126 66 ZT (mvN nm) infoMv HZt.out (mvN_len nm) (Mv.one _)
              have HFy := Lib.hid hf
              clear hR9 hg9 HTx HW9 HO9 hf hrn HWr HOr HZt
              generalize hDT : mvN nm = DT at *
              have HDT := Lib.hid hDT
              clear hDT
              go_upto_region 12 with (first
                | (refine wpList_buildT rfl 126 0 _ rfl _ rfl DT.toArray HBt.out ?_)
                | (refine wpList_store_mid rfl _ _ _ rfl w9.heap.size 0 DT.toArray rfl rfl HFy.out.there HFy.out.size HFy.out.one ?_))
              change Code.wp _ _ _ _ ((w9.alloc (.cells ZT 126)).setCells w9.heap.size 0 DT)
              clear HBt HFy
              generalize (w9.alloc (.cells ZT 126)).setCells w9.heap.size 0 DT = w10 at *
              generalize w9.heap.size = Y at *
              have HIa := Lib.hid (id_p R 3 136 A L C l q1 E w10.drew (HY0.out.drew 1).ws.rd)
              rw [← HOd.out, ← HQ2.out] at HIa
              have dY := Lib.hid (HY0.out.drew 1)
              clear HY0
              refine wp_region_noPanic ?_
              refine wp_region_held_drew (S := (fun _ => True)) (by kernel_rfl) ?_ (fun hHeld => ?_)
              · ((try dsimp only); done)
              refine wpAnyH_take (i := 0) (oi := { dst := some 49, op := Op.move (Operand.tmp 0), type := 135, pos := "tx.go:136", after := #[], guard := none }) (v := ?_) rfl (by kernel_rfl) (by kernel_rfl) (by kernel_rfl) (fun _ _ _ h => h) (Or.inl ⟨by rfl, ?_⟩) (by assumption) ?_
              rotate_left 1
              · ((intro w hSw; (try dsimp only at hSw); go_simp) <;> with_reducible rfl)
              (try simp only [Act.put, List.setIfInBounds_toArray, List.set_cons_zero, List.set_cons_succ])
              refine wpAnyH_take (i := 1) (oi := { dst := some 50, op := Op.nilCheck (Operand.tmp 49), type := 0, pos := "tx.go:136", after := #[{ on := 0, ground := Ground.data }], guard := none }) (v := ?_) rfl (by kernel_rfl) (by kernel_rfl) (by kernel_rfl) (fun _ _ _ h => h) (Or.inl ⟨by rfl, ?_⟩) (by assumption) ?_
              rotate_left 1
              · ((intro w hSw; (try dsimp only at hSw); go_simp) <;> with_reducible rfl)
              (try simp only [Act.put, List.setIfInBounds_toArray, List.set_cons_zero, List.set_cons_succ])
              refine wpAnyH_take (i := 2) (oi := { dst := some 51, op := Op.fieldAddr 136 (Operand.tmp 50) 0, type := 0, pos := "tx.go:136", after := #[{ on := 1, ground := Ground.data }], guard := none }) (v := ?_) rfl (by kernel_rfl) (by kernel_rfl) (by kernel_rfl) (fun _ _ _ h => h) (Or.inl ⟨by rfl, ?_⟩) (by assumption) ?_
              rotate_left 1
              · ((intro w hSw; (try dsimp only at hSw); go_simp) <;> with_reducible rfl)
              (try simp only [Act.put, List.setIfInBounds_toArray, List.set_cons_zero, List.set_cons_succ])
              refine wpAnyH_take (i := 4) (oi := { dst := some 53, op := Op.move (Operand.tmp 0), type := 135, pos := "tx.go:136", after := #[], guard := none }) (v := ?_) rfl (by kernel_rfl) (by kernel_rfl) (by kernel_rfl) (fun _ _ _ h => h) (Or.inl ⟨by rfl, ?_⟩) (by assumption) ?_
              rotate_left 1
              · ((intro w hSw; (try dsimp only at hSw); go_simp) <;> with_reducible rfl)
              (try simp only [Act.put, List.setIfInBounds_toArray, List.set_cons_zero, List.set_cons_succ])
              refine wpAnyH_take (i := 5) (oi := { dst := some 54, op := Op.nilCheck (Operand.tmp 53), type := 0, pos := "tx.go:136", after := #[{ on := 4, ground := Ground.data }], guard := none }) (v := ?_) rfl (by kernel_rfl) (by kernel_rfl) (by kernel_rfl) (fun _ _ _ h => h) (Or.inl ⟨by rfl, ?_⟩) (by assumption) ?_
              rotate_left 1
              · ((intro w hSw; (try dsimp only at hSw); go_simp) <;> with_reducible rfl)
              (try simp only [Act.put, List.setIfInBounds_toArray, List.set_cons_zero, List.set_cons_succ])
              refine wpAnyH_take (i := 6) (oi := { dst := some 55, op := Op.fieldAddr 136 (Operand.tmp 54) 0, type := 0, pos := "tx.go:136", after := #[{ on := 5, ground := Ground.data }], guard := none }) (v := ?_) rfl (by kernel_rfl) (by kernel_rfl) (by kernel_rfl) (fun _ _ _ h => h) (Or.inl ⟨by rfl, ?_⟩) (by assumption) ?_
              rotate_left 1
              · ((intro w hSw; (try dsimp only at hSw); go_simp) <;> with_reducible rfl)
              (try simp only [Act.put, List.setIfInBounds_toArray, List.set_cons_zero, List.set_cons_succ])
              refine wpAnyH_ready (rs := [3]) (by kernel_rfl) (by simp) ?_
              refine AllReadyH.cons (o := { dst := some 52, op := Op.call { callee := Callee.value (Operand.func 84), args := #[Operand.tmp 51], argTypes := #[94] }, type := 37, pos := "tx.go:136", after := #[{ on := 2, ground := Ground.data }], guard := none }) rfl (fun K hK => ?_) ?_
              · go_simp
                refine HIa.out.mono ?_
                rintro e wB ⟨rfl, hR, hg⟩
                have eY := Lib.hid (dY.out.call hR hg)
                clear hR hg HIa dY
                have dY := eY
                clear eY
                have HIb := Lib.hid (id_p R 3 136 A L C l q2 E wB dY.out.ws.rd)
                rw [← HNw0.out, ← HQ3.out] at HIb
                (try go_wp2_with fail)
                refine hK.out _ _ ?_ (fun hNew => ?_)
                · ((try dsimp only); done)
                clear hK K hHeld
                have hHeld := hNew
                clear hNew
                (try simp only [Act.put, List.setIfInBounds_toArray, List.set_cons_zero, List.set_cons_succ])
                refine wpAnyH_take (i := 8) (oi := { dst := some 57, op := Op.fieldAddr 126 (Operand.tmp 6) 1, type := 0, pos := "tx.go:136", after := #[{ on := 0, ground := Ground.phase }, { on := 1, ground := Ground.phase }, { on := 2, ground := Ground.phase }, { on := 3, ground := Ground.phase }, { on := 4, ground := Ground.textOnly Departure.lateStores }, { on := 5, ground := Ground.textOnly Departure.lateStores }, { on := 6, ground := Ground.textOnly Departure.lateStores }, { on := 7, ground := Ground.textOnly Departure.lateStoresUnsure }], guard := none }) (v := ?_) rfl (by kernel_rfl) (by kernel_rfl) (by kernel_rfl) (fun _ _ _ h => h) (Or.inl ⟨by rfl, ?_⟩) (by assumption) ?_
                rotate_left 1
                · ((intro w hSw; (try dsimp only at hSw); go_simp) <;> with_reducible rfl)
                (try simp only [Act.put, List.setIfInBounds_toArray, List.set_cons_zero, List.set_cons_succ])
                refine wpAnyH_ready (rs := [7]) (by kernel_rfl) (by simp) ?_
                refine AllReadyH.cons (o := { dst := some 56, op := Op.call { callee := Callee.value (Operand.func 84), args := #[Operand.tmp 55], argTypes := #[94] }, type := 37, pos := "tx.go:136", after := #[{ on := 6, ground := Ground.data }, { on := 3, ground := Ground.chain }], guard := none }) rfl (fun K hK => ?_) ?_
                · go_simp
                  refine HIb.out.mono ?_
                  rintro e wC ⟨rfl, hR, hg⟩
                  have eY := Lib.hid (dY.out.call hR hg)
                  clear hR hg HIb dY
                  have dY := eY
                  clear eY
                  have hbo : (bv od).length = 32 := by rw [bv_len, hol]
                  have hbn : (bv nw).length = 32 := by rw [bv_len, hnl]
                  have HT1 := Lib.hid (dY.out.there 1 (bv od) (by omega))
                  have eY := dY.out.lay 1 (bv od) (by omega)
                  rw [← HDT.out, mvN, (Mv.lay (by simp) (by simp) hol).1] at eY
                  have HT2 := Lib.hid (eY.there 33 (bv nw) (by omega))
                  have fY := eY.lay 33 (bv nw) (by omega)
                  rw [(Mv.lay hol (by simp) hnl).2] at fY
                  have HY6 := Lib.hid fY
                  have HS1 : Hid ((Try.prog.info? 37).map (·.size) = some (bv od).toArray.size) := Lib.hid (by rw [List.size_toArray, hbo]; exact infoId)
                  have HS2 : Hid ((Try.prog.info? 37).map (·.size) = some (bv nw).toArray.size) := Lib.hid (by rw [List.size_toArray, hbn]; exact infoId)
                  have HO1 := Lib.hid (all_oneCell_toArray (bv_one od))
                  have HO2 := Lib.hid (all_oneCell_toArray (bv_one nw))
                  clear eY fY dY hbo hbn
                  generalize hDO : bv od = DO at *
                  generalize hDC : bv nw = DC at *
                  have HDO := Lib.hid hDO
                  have HDC := Lib.hid hDC
                  clear hDO hDC
                  (try go_wp2_with fail)
                  refine hK.out _ _ ?_ (fun hNew => ?_)
                  · ((try dsimp only); done)
                  clear hK K hHeld
                  have hHeld := hNew
                  clear hNew
                  (try simp only [Act.put, List.setIfInBounds_toArray, List.set_cons_zero, List.set_cons_succ])
                  refine wpAnyH_ready (rs := [9]) (by kernel_rfl) (by simp) ?_
                  refine AllReadyH.cons (o := { dst := none, op := Op.store 37 (Operand.tmp 57) (Operand.tmp 52), type := 0, pos := "tx.go:136", after := #[{ on := 8, ground := Ground.data }, { on := 3, ground := Ground.data }, { on := 7, ground := Ground.chain }, { on := 0, ground := Ground.phase }, { on := 1, ground := Ground.phase }, { on := 2, ground := Ground.phase }, { on := 3, ground := Ground.phase }, { on := 4, ground := Ground.textOnly Departure.lateStores }, { on := 5, ground := Ground.textOnly Departure.lateStores }, { on := 6, ground := Ground.textOnly Departure.lateStores }, { on := 7, ground := Ground.textOnly Departure.lateStoresUnsure }], guard := none }) rfl (fun K hK => ?_) ?_
                  · refine step_store_mid rfl _ _ _ rfl Y 1 DO.toArray rfl rfl HT1.out HS1.out HO1.out ?_
                    (try go_wp2_with fail)
                    refine hK.out _ _ ?_ (fun hNew => ?_)
                    · ((try dsimp only); done)
                    clear hK K hHeld
                    have hHeld := hNew
                    clear hNew
                    (try simp only [Act.put, List.setIfInBounds_toArray, List.set_cons_zero, List.set_cons_succ])
                    refine wpAnyH_take (i := 10) (oi := { dst := some 58, op := Op.fieldAddr 126 (Operand.tmp 6) 2, type := 0, pos := "tx.go:136", after := #[{ on := 0, ground := Ground.phase }, { on := 1, ground := Ground.phase }, { on := 2, ground := Ground.phase }, { on := 3, ground := Ground.phase }, { on := 4, ground := Ground.phase }, { on := 5, ground := Ground.phase }, { on := 6, ground := Ground.phase }, { on := 7, ground := Ground.phase }, { on := 8, ground := Ground.phase }, { on := 9, ground := Ground.phase }], guard := none }) (v := ?_) rfl (by kernel_rfl) (by kernel_rfl) (by kernel_rfl) (fun _ _ _ h => h) (Or.inl ⟨by rfl, ?_⟩) (by assumption) ?_
                    rotate_left 1
                    · ((intro w hSw; (try dsimp only at hSw); go_simp) <;> with_reducible rfl)
                    (try simp only [Act.put, List.setIfInBounds_toArray, List.set_cons_zero, List.set_cons_succ])
                    refine wpAnyH_ready (rs := [11]) (by kernel_rfl) (by simp) ?_
                    refine AllReadyH.cons (o := { dst := none, op := Op.store 37 (Operand.tmp 58) (Operand.tmp 56), type := 0, pos := "tx.go:136", after := #[{ on := 10, ground := Ground.data }, { on := 7, ground := Ground.data }, { on := 9, ground := Ground.chain }, { on := 0, ground := Ground.phase }, { on := 1, ground := Ground.phase }, { on := 2, ground := Ground.phase }, { on := 3, ground := Ground.phase }, { on := 4, ground := Ground.phase }, { on := 5, ground := Ground.phase }, { on := 6, ground := Ground.phase }, { on := 7, ground := Ground.phase }, { on := 8, ground := Ground.phase }, { on := 9, ground := Ground.phase }], guard := none }) rfl (fun K hK => ?_) ?_
                    · refine step_store_mid rfl _ _ _ rfl Y 33 DC.toArray rfl rfl HT2.out HS2.out HO2.out ?_
                      (try go_wp2_with fail)
                      refine hK.out _ _ ?_ (fun hNew => ?_)
                      · ((try dsimp only); done)
                      clear hK K hHeld
                      have hHeld := hNew
                      clear hNew
                      (try simp only [Act.put, List.setIfInBounds_toArray, List.set_cons_zero, List.set_cons_succ])
                      refine wpAnyH_done (by kernel_rfl) ?_ _
                      refine NoPanic.normal ?_
                      clear hHeld
                      generalize (wC.setCells Y 1 DO).setCells Y 33 DC = w11 at *
                      clear HT1 HT2 HS1 HS2 HO1 HO2 HDO HDC HOd HNw0 HQ2 HQ3
                      have HTw := Lib.hid (text_p R 3 136 A L C l q3 E 2 65535 w11 HY6.out.ws.rd (by decide))
                      rw [show ((2 : Nat) : Int) = 2 from rfl, show ((65535 : Nat) : Int) = 65535 from rfl, ← HWy.out, ← HQ4.out] at HTw
                      go_wp2_with fail
                      refine HTw.out.mono ?_
                      rintro e w12 ⟨rfl, hR, hg⟩
                      have HY7 := HY6.out.call hR hg
                      have hc65 : w12.cell? ⟨Y, 65, none⟩ = some _ := HY7.ry.cell (show 65 < 66 by decide)
                      have hf65 : w12.frozen? ⟨Y, 65, none⟩ = false := HY7.ry.frozen _
                      have hY8 := HY7.set 65 (.string wy)
                      rw [Mv.set65 hol hnl] at hY8
                      have HY8 := Lib.hid hY8
                      clear hR hg HTw HY6 HY7 hY8 HWy HQ4
                      go_upto_region 14 with (fail)
                      change Code.wp _ _ _ _ (w12.setCell ⟨Y, 65, none⟩ (.string wy))
                      clear hc65 hf65
                      generalize w12.setCell ⟨Y, 65, none⟩ (.string wy) = w13 at *
                      have hc2 : w13.cell? ⟨X, 2, none⟩ = some (.slice Ai ms.length Ci) := HY8.out.ws.cell 2 (by decide)
                      have HRy := Lib.hid HY8.out.range
                      have hTl : (Mv.cells ⟨nm, od, nw, wy⟩).length = 66 := Mv.len hol hnl
                      have HTl := Lib.hid hTl
                      have HSy : Hid ((Try.prog.info? 126).map (·.size) = some (Mv.cells ⟨nm, od, nw, wy⟩).length) := Lib.hid (by rw [hTl]; exact infoMv)
                      have HTo := Lib.hid (Mv.one ⟨nm, od, nw, wy⟩)
                      have HNw := Lib.hid (new_cellsZ w13 (Mv.cells ⟨nm, od, nw, wy⟩) 126)
                      have HbA := Lib.hid ((Below.refl w13.heap.size w13).alloc (Nat.le_refl _) (.cells (Mv.cells ⟨nm, od, nw, wy⟩).toArray 126))
                      have HoA := Lib.hid (own_keep HY8.out.own HbA.out)
                      have HXl : Hid (X + 1 ≤ (w13.alloc (.cells (Mv.cells ⟨nm, od, nw, wy⟩).toArray 126)).heap.size) := Lib.hid (by have h1 := HY8.out.ws.hXs; have h2 := HbA.out.size; omega)
                      clear hTl
                      generalize hDY : Mv.cells ⟨nm, od, nw, wy⟩ = DY at *
                      have HDY := Lib.hid hDY
                      clear hDY
                      go_wp2_with (first
                        | (refine wpList_load_mid rfl _ _ rfl Y 0 rfl DY _ HRy.out Try.underlying126 rfl HSy.out ?_)
                        | (refine wpList_build_z rowMv _ rfl _ rfl DY rfl HTl.out ?_)
                        | (at_builtin; refine wpList_append_z rowMv _ rfl _ _ rfl (X + 1) _ ms.length (mvsV ms) rfl HoA.out w13.heap.size DY rfl HNw.out HTl.out HTo.out (by omega) HXl.out ?_))
                      intro A9 C9 w14 hoE hgE
                      have hws := HY8.out.ws.hXs
                      obtain ⟨hWz, hOz⟩ := HY8.out.app HbA.out hoE hgE 2
                      have hWp := (HY8.out.ws.belowB (HbA.out.mono (by omega))).app HoA.out (Nat.lt_succ_self X) hgE
                      have hc : w14.cell? ⟨X, 2, none⟩ = some _ := hWp.cell 2 (by decide)
                      have hf : w14.frozen? ⟨X, 2, none⟩ = false := hWp.rx.frozen _
                      rw [(txV_set HQz.out).2.2.1] at hWz
                      have HWz := Lib.hid hWz
                      have HOz := Lib.hid hOz
                      clear hWz hOz hWp hoE hgE HY8 HRy HTl HSy HTo HNw HbA HoA HXl hc2 hws
                      go_wp2_with fail
                      have hj2 := HJ'.out
                      go_roundw
                      case rel => exact ⟨j', q4, ms ++ [⟨nm, od, nw, wy⟩], A9, C9, by go_num, by omega, by simp; omega, Lib.hid (fun t ht => by
                        rcases List.mem_append.1 ht with ht | ht
                        · exact HTs.out t ht
                        · rw [List.mem_singleton.1 ht]; exact ⟨hol, hnl⟩), HTd2, Lib.hid (by rw [show (ms ++ [(⟨nm, od, nw, wy⟩ : Mv)]).length = ms.length + 1 by simp]; exact HWz.out), Lib.hid (by rw [show (ms ++ [(⟨nm, od, nw, wy⟩ : Mv)]).length = ms.length + 1 by simp, mvsV_snoc, HDY.out]; exact HOz.out)⟩
                      case measure => simp [intOf]; omega
                    exact AllReadyH.nil
                  exact AllReadyH.nil
                exact AllReadyH.nil
              exact AllReadyH.nil
            · -- EXITS
              by_cases hj0 : j = 0
              · have hd : ¬ (0 : Int) < (j : Int) := by omega
                have he : (q, ms) = (q5, ms5) := by rw [← HTd.out, hj0]; rfl
                obtain ⟨rfl, rfl⟩ := Prod.mk.inj he
                have HRel : Hid (ms.length ≤ 65536) := Lib.hid (by omega)
                clear hgo hj0 he HTd
                go_wp2_with fail
                go_meet
                exact ⟨Ai, Ci, HRel.out, HTs, HWr, HOr⟩
              · have hq0 : ¬ q.1 = 0 := fun e => hgo ⟨by omega, e⟩
                have hd : (0 : Int) < (j : Int) := by omega
                have hdq : (q.1 == 0) = false := by simp [hq0]
                have HOk := Lib.hid (ok_p R 3 136 A L C l q E wr HWr.out.rd)
                rw [hdq] at HOk
                have he : (q, ms) = (q5, ms5) := by
                  obtain ⟨j', hj'⟩ : ∃ j', j = j' + 1 := ⟨j - 1, by omega⟩
                  rw [← HTd.out, hj', mvL, if_neg hq0]
                obtain ⟨rfl, rfl⟩ := Prod.mk.inj he
                have HRel : Hid (ms.length ≤ 65536) := Lib.hid (by omega)
                clear hgo hj0 hq0 hdq he HTd
                go_wp2_with fail
                refine HOk.out.mono ?_
                rintro e w8 ⟨rfl, rfl⟩
                clear HOk
                go_wp2_with fail
                go_meet
                exact ⟨Ai, Ci, HRel.out, HTs, HWr, HOr⟩
        case rest =>
          obtain ⟨Am, Cm, hm5, HMi, HW8, HO8⟩ := hcut
          clear HW7
          obtain ⟨hs, hhs⟩ : ∃ hs : Bool, hs = (k / 2 % 2 == 1) := ⟨_, rfl⟩
          have HHs := Lib.hid hhs
          have ea : bits .and .u8 (k : Int) 2 = ((if hs = true then 2 else 0 : Nat) : Int) := by
            rw [and2 k hk256, hhs]
            by_cases h1 : k / 2 % 2 = 1
            · simp [h1]
            · have h0 : k / 2 % 2 = 0 := by omega
              simp [h0]
          have hc : wc.cell? ⟨X, 3, none⟩ = some _ := HW8.out.cell 3 (by decide)
          have hf : wc.frozen? ⟨X, 3, none⟩ = false := HW8.out.rx.frozen _
          have hW9 := HW8.out.set 3 (.bool hs)
          rw [(txV_set HQz.out).2.2.2.1] at hW9
          have HW9 := Lib.hid hW9
          have HO9 := Lib.hid (Ws.own_set HO8.out (Nat.lt_succ_self X) 3 (.bool hs))
          clear hhs hW9
          go_upto_region 15 with (fail)
          go_cut [] (fun wx => Hid (Ws w R w.heap.size X 68 75 (txV hh hd0 (.slice Am ms5.length Cm) hs Z0 (.slice none 0 0)) A L C l q5 E wx) ∧ Hid (wx.ownsRow (X + 1) 126 66 (.slice Am ms5.length Cm) ms5.length (mvsV ms5)))
          case first =>
            cases hs
            · have hea : bits .and .u8 (k : Int) 2 = 0 := ea
              clear ea
              go_wp2_with fail
              go_meet
              exact ⟨HW9, HO9⟩
            · have hea : bits .and .u8 (k : Int) 2 = 2 := ea
              clear ea
              go_wp2_with fail
              go_meet
              exact ⟨HW9, HO9⟩
          case rest =>
            clear hc hf ea HW8 HO8 HW9 HO9
            obtain ⟨HW9, HO9⟩ := hcut
            obtain ⟨sq, hsq⟩ : ∃ sq : Sq, sq = if hs = true then sqP l L q5 else Sq.nil 0 := ⟨_, rfl⟩
            obtain ⟨p5, hp5⟩ : ∃ p5 : Pl, p5 = if hs = true then sqE l L q5 else q5 := ⟨_, rfl⟩
            have hcl : ∀ v, (sq.cells v).length = 70 := by
              intro v
              rw [hsq]
              split
              · exact sqV_len (sqP_len l L q5).1 (sqP_len l L q5).2
              · exact sqV_len (by simp [Sq.nil]) (by simp [Sq.nil])
            have HCl := Lib.hid hcl
            have HSq := Lib.hid hsq
            have HP5 := Lib.hid hp5
            clear hsq hp5 hcl
            have hc : wc.cell? ⟨X, 3, none⟩ = some (.bool hs) := HW9.out.cell 3 (by decide)
            go_upto_if 75 with (fail)
            clear hc
            go_cut [] (fun wx => ∃ (At : Option Addr) (Ct : Nat), Hid (Ws w R w.heap.size X 68 75 (txV hh hd0 (.slice Am ms5.length Cm) hs (sq.cells (.slice At sq.ts.length Ct)) (.slice none 0 0)) A L C l p5 E wx) ∧ Hid (wx.ownsRow (X + 1) 126 66 (.slice Am ms5.length Cm) ms5.length (mvsV ms5)) ∧ Hid (wx.ownsRow (X + 1) 84 33 (.slice At sq.ts.length Ct) sq.ts.length (tdsV sq.ts)))
            case first =>
              cases hs
              · have e1 : Hid (sq = Sq.nil 0) := Lib.hid (by rw [HSq.out]; rfl)
                have e2 : Hid (p5 = q5) := Lib.hid (by rw [HP5.out]; rfl)
                have HW6 : Hid (Ws w R w.heap.size X 68 75 (txV hh hd0 (.slice Am ms5.length Cm) false (sq.cells (.slice none sq.ts.length 0)) (.slice none 0 0)) A L C l p5 E wc) := Lib.hid (by rw [e2.out, e1.out]; have h := HW9.out; rw [HZs.out] at h; exact h)
                have HT6 : Hid (wc.ownsRow (X + 1) 84 33 (.slice none sq.ts.length 0) sq.ts.length (tdsV sq.ts)) := Lib.hid (by rw [e1.out]; exact ⟨by simp [tdsV, Sq.nil], .inl ⟨rfl, rfl⟩⟩)
                clear HW9 e1 e2
                go_wp2_with fail
                go_meet
                exact ⟨none, 0, HW6, HO9, HT6⟩
              · have HSc := Lib.hid (seq_r R A L C l q5 E wc HW9.out.rd)
                unfold SqRet at HSc
                rw [show sqP l L q5 = sq from HSq.out.symm, show sqE l L q5 = p5 from HP5.out.symm] at HSc
                go_wp2_with fail
                refine HSc.out.mono ?_
                rintro e w6 ⟨hR, hg, Ai, Ci, rfl, hot⟩
                have HW6 := HW9.out.call hR hg
                have HO6 := Lib.hid (HW9.out.own_call HO9.out (Nat.lt_succ_self X) hg)
                have hXs := HW9.out.hXs
                have HT6 := own_base hot (by omega : X + 1 ≤ wc.heap.size)
                have hln := HCl.out (.slice Ai sq.ts.length Ci)
                have hTh := HW6.there 4 (sq.cells (.slice Ai sq.ts.length Ci)) (by omega)
                have hW7 := HW6.lay 4 (sq.cells (.slice Ai sq.ts.length Ci)) (by omega)
                rw [txV_lay HQz.out hln] at hW7
                have HW7 := Lib.hid hW7
                have HO7 := Lib.hid (Ws.own_lay HO6.out (Nat.lt_succ_self X) 4 (sq.cells (.slice Ai sq.ts.length Ci)))
                have HT7 := Lib.hid (Ws.own_lay HT6 (Nat.lt_succ_self X) 4 (sq.cells (.slice Ai sq.ts.length Ci)))
                have HTh := Lib.hid hTh
                have HSz : Hid ((Try.prog.info? 65).map (·.size) = some (sq.cells (.slice Ai sq.ts.length Ci)).toArray.size) := Lib.hid (by rw [List.size_toArray, hln]; exact infoSq)
                have HOn := Lib.hid (all_oneCell_toArray (cs := sq.cells (.slice Ai sq.ts.length Ci)) (sqV_one rfl))
                clear hR hg hot hXs HW6 HO6 HT6 hln hTh hW7 HW9 HO9 HSc
                generalize hDS : sq.cells (.slice Ai sq.ts.length Ci) = DS at *
                have HDS := Lib.hid hDS
                clear hDS
                go_wp2_with (refine wpList_store_mid rfl _ _ _ rfl X 4 DS.toArray rfl rfl HTh.out HSz.out HOn.out ?_)
                go_meet
                exact ⟨Ai, Ci, Lib.hid (by rw [HDS.out]; exact HW7.out), HO7, HT7⟩
            case rest =>
              obtain ⟨At, Ct, HWa, HOa, HTa⟩ := hcut
              clear HW9 HO9
              generalize hDS : sq.cells (.slice At sq.ts.length Ct) = DS at *
              have hql : DS.length = 70 := by rw [← hDS]; exact HCl.out _
              have HDS := Lib.hid hDS
              have HQs := Lib.hid hql
              clear hDS hql
              have HN := Lib.hid (number_p R 3 136 A L C l p5 E 2 wc HWa.out.rd (by decide))
              rw [show ((2 : Nat) : Int) = 2 from rfl] at HN
              obtain ⟨m2, hm2⟩ : ∃ m2, m2 = geN l L p5 2 := ⟨_, rfl⟩
              have hml2 : m2 < 65536 := by rw [hm2]; exact geN_lt (by decide) HLl.out HB1.out
              obtain ⟨p6, hp6⟩ : ∃ p6, p6 = atN l L p5 2 := ⟨_, rfl⟩
              rw [← hm2, ← hp6] at HN
              have HM2 := Lib.hid hm2
              have HP6 := Lib.hid hp6
              clear hm2 hp6
              go_upto_region 18 with (fail)
              go_wp2_with fail
              refine HN.out.mono ?_
              rintro e wb ⟨rfl, hR, hg⟩
              have HWb := Lib.hid (HWa.out.call hR hg)
              have HOb : Hid (Ows X (.slice Am ms5.length Cm) ms5 (.slice At sq.ts.length Ct) sq.ts [] wb) := Lib.hid ⟨HWa.out.own_call HOa.out (Nat.lt_succ_self X) hg, HWa.out.own_call HTa.out (Nat.lt_succ_self X) hg, fun y hy => absurd hy (by simp)⟩
              clear hR hg HN HWa HOa HTa
              obtain ⟨q7, ys7, hQ⟩ : ∃ q7 ys7, (q7, ys7) = ymL l L m2 p6 [] := ⟨_, _, rfl⟩
              have HQ7 := Lib.hid hQ
              clear hQ
              go_upto_block 2 with (fail)
              go_cut [] (fun wx => ∃ (Ay : Option Addr) (Cy : Nat) (ys : List My), ys.length ≤ 65536 ∧ Hid (ys.map My.pl = ys7) ∧ Hid (Ws w R w.heap.size X 68 75 (txV hh hd0 (.slice Am ms5.length Cm) hs DS (.slice Ay ys.length Cy)) A L C l q7 E wx) ∧ Hid (Ows X (.slice Am ms5.length Cm) ms5 (.slice At sq.ts.length Ct) sq.ts ys wx) ∧ Hid (wx.ownsRow (X + 1) 128 33 (.slice Ay ys.length Cy) ys.length (mysV ys)))
              case first =>
                go_wp2_with fail
                go_loopw [7, 8] (fun s7 s8 wr => ∃ (j : Nat) (q : Pl) (ys : List My) (Ay : Option Addr) (Cy : Nat), s7 = .int .i64 j ∧ j ≤ m2 ∧ ys.length + j ≤ m2 ∧ Hid (ymL l L j q (ys.map My.pl) = (q7, ys7)) ∧ Hid (Ws w R w.heap.size X 68 75 (txV hh hd0 (.slice Am ms5.length Cm) hs DS (.slice Ay ys.length Cy)) A L C l q E wr) ∧ Hid (Ows X (.slice Am ms5.length Cm) ms5 (.slice At sq.ts.length Ct) sq.ts ys wr) ∧ Hid (wr.ownsRow (X + 1) 128 33 (.slice Ay ys.length Cy) ys.length (mysV ys))) (fun s7 _ _ => (intOf s7).toNat)
                case atStart => exact ⟨m2, p6, [], none, 0, rfl, Nat.le_refl _, by simp, Lib.hid HQ7.out.symm, HWb, HOb, Lib.hid ⟨by simp [mysV], .inl ⟨rfl, rfl⟩⟩⟩
                case round =>
                  clear HWb HOb
                  obtain ⟨j, q, ys, Ay, Cy, rfl, hj, hts, HTd, HWr, HOw, HOr⟩ := hrel
                  by_cases hgo : 0 < j ∧ q.1 = 0
                  · obtain ⟨hj0, hq0⟩ := hgo
                    have hd : (0 : Int) < (j : Int) := by omega
                    have hdq : (q.1 == 0) = true := by simp [hq0]
                    have HOk := Lib.hid (ok_p R 3 136 A L C l q E wr HWr.out.rd)
                    rw [hdq] at HOk
                    obtain ⟨j', hj'⟩ : ∃ j', j = j' + 1 := ⟨j - 1, by omega⟩
                    have htd := HTd.out
                    rw [hj', ymL, if_pos hq0] at htd
                    unfold ymP yP3 yD yP2 yM yP1 yK at htd
                    have HJ' := Lib.hid hj'
                    obtain ⟨key, hkey⟩ : ∃ key, key = geI l L q := ⟨_, rfl⟩
                    obtain ⟨q1, hq1⟩ : ∃ q1, q1 = atN l L q 32 := ⟨_, rfl⟩
                    rw [← hkey, ← hq1] at htd
                    obtain ⟨n4, hn4⟩ : ∃ n4, n4 = geN l L q1 4 := ⟨_, rfl⟩
                    obtain ⟨q2, hq2⟩ : ∃ q2, q2 = atN l L q1 4 := ⟨_, rfl⟩
                    rw [← hn4, ← hq2] at htd
                    obtain ⟨d, hdd⟩ : ∃ d, d = geL l L q2 n4 := ⟨_, rfl⟩
                    obtain ⟨q3, hq3⟩ : ∃ q3, q3 = atN l L q2 n4 := ⟨_, rfl⟩
                    rw [← hdd, ← hq3] at htd
                    have HTd2 := Lib.hid htd
                    have hkl : key.length = 32 := by rw [hkey]; exact geI_len l L _
                    have hn4l : n4 < 4294967296 := by rw [hn4]; exact geN_lt (by decide) HLl.out HB1.out
                    have hdl : d.length ≤ n4 := by rw [hdd]; exact geL_len l L q2 n4
                    have HDb : Hid (∀ i, i < d.length → 0 ≤ d.getD i 0 ∧ d.getD i 0 ≤ 255) := Lib.hid (by rw [hdd]; exact geL_byte HLl.out HB1.out q2 n4)
                    have HN4 := Lib.hid hn4
                    have HQ2 := Lib.hid hq2
                    have HDd := Lib.hid hdd
                    have HQ3 := Lib.hid hq3
                    have HIa := Lib.hid (id_p R 3 136 A L C l q E wr HWr.out.rd)
                    rw [← hkey, ← hq1] at HIa
                    have hzt := zeroMyZ
                    have HZt := Lib.hid myZ_size
                    generalize myZ.toArray = ZT at *
                    have HBt := Lib.hid (built_my key hkl)
                    have hbk : (bv key).length = 32 := by rw [bv_len, hkl]
                    generalize hDKe : bv key = DK at *
                    have HDK := Lib.hid hDKe
                    clear htd hkey hq1 hn4 hq2 hdd hq3 hj' hdq hq0 HTd hj0 hDKe hbk
                    go_wp2_with fail
                    refine HOk.out.mono ?_
                    rintro e w8 ⟨rfl, rfl⟩
                    clear HOk
                    go_wp2_with fail
                    refine HIa.out.mono ?_
                    rintro e w9 ⟨rfl, hR9, hg9⟩
                    have hRX := HWr.out.hR
                    have hOX := HWr.out.hO
                    have hXX := HWr.out.hX
                    have HW9 := HWr.out.call hR9 hg9
                    have HO9 := HWr.out.own_call HOr.out (Nat.lt_succ_self X) hg9
                    have HOw9 := HOw.out.low hg9 (by omega)
                    have HRX : Hid (R ≤ X) := Lib.hid (by omega)
                    have hb9 := (Below.refl w9.heap.size w9).alloc (Nat.le_refl _) (.cells ZT 128)
                    have HY0 := Lib.hid (Wy.new HW9 HO9 (Z := ZT) (tY := 128) (DY := myN key) HZt.out (My.len hkl))
                    have HOw0 := Lib.hid (HOw9.belowW (below_cells (Nat.le_refl w9.heap.size) (myN key) 0 _ hb9))
                    obtain ⟨hf, hrn⟩ := lay_new w9 128 33 ZT (myN key) infoMy HZt.out (My.len hkl) (My.one _)
                    have HFy := Lib.hid hf
                    clear hR9 hg9 HIa HW9 HO9 hf hrn HWr HOr HZt HOw HOw9 hb9 hRX hOX hXX
                    generalize hDT : myN key = DT at *
                    have HDT := Lib.hid hDT
                    clear hDT
                    go_upto_region 22 with (first
                      | (refine wpList_buildT rfl 128 0 _ rfl _ rfl DT.toArray HBt.out ?_)
                      | (refine wpList_store_mid rfl _ _ _ rfl w9.heap.size 0 DT.toArray rfl rfl HFy.out.there HFy.out.size HFy.out.one ?_))
                    change Code.wp _ _ _ _ ((w9.alloc (.cells ZT 128)).setCells w9.heap.size 0 DT)
                    clear HBt HFy
                    generalize (w9.alloc (.cells ZT 128)).setCells w9.heap.size 0 DT = w10 at *
                    generalize w9.heap.size = Y at *
                    have HNa := Lib.hid (number_p R 3 136 A L C l q1 E 4 w10.drew (HY0.out.drew 1).ws.rd (by decide))
                    rw [show ((4 : Nat) : Int) = 4 from rfl, ← HN4.out, ← HQ2.out] at HNa
                    have dY := Lib.hid (HY0.out.drew 1)
                    have dO := Lib.hid (HOw0.out.drew 1)
                    clear HY0 HOw0
                    refine wp_region_noPanic ?_
                    refine wp_region_held_drew (S := (fun _ => True)) (by kernel_rfl) ?_ (fun hHeld => ?_)
                    · ((try dsimp only); done)
                    refine wpAnyH_take (i := 0) (oi := { dst := some 98, op := Op.move (Operand.tmp 0), type := 135, pos := "tx.go:145", after := #[], guard := none }) (v := ?_) rfl (by kernel_rfl) (by kernel_rfl) (by kernel_rfl) (fun _ _ _ h => h) (Or.inl ⟨by rfl, ?_⟩) (by assumption) ?_
                    rotate_left 1
                    · ((intro w hSw; (try dsimp only at hSw); go_simp) <;> with_reducible rfl)
                    (try simp only [Act.put, List.setIfInBounds_toArray, List.set_cons_zero, List.set_cons_succ])
                    refine wpAnyH_take (i := 1) (oi := { dst := some 99, op := Op.nilCheck (Operand.tmp 98), type := 0, pos := "tx.go:145", after := #[{ on := 0, ground := Ground.data }], guard := none }) (v := ?_) rfl (by kernel_rfl) (by kernel_rfl) (by kernel_rfl) (fun _ _ _ h => h) (Or.inl ⟨by rfl, ?_⟩) (by assumption) ?_
                    rotate_left 1
                    · ((intro w hSw; (try dsimp only at hSw); go_simp) <;> with_reducible rfl)
                    (try simp only [Act.put, List.setIfInBounds_toArray, List.set_cons_zero, List.set_cons_succ])
                    refine wpAnyH_take (i := 2) (oi := { dst := some 100, op := Op.fieldAddr 136 (Operand.tmp 99) 0, type := 0, pos := "tx.go:145", after := #[{ on := 1, ground := Ground.data }], guard := none }) (v := ?_) rfl (by kernel_rfl) (by kernel_rfl) (by kernel_rfl) (fun _ _ _ h => h) (Or.inl ⟨by rfl, ?_⟩) (by assumption) ?_
                    rotate_left 1
                    · ((intro w hSw; (try dsimp only at hSw); go_simp) <;> with_reducible rfl)
                    (try simp only [Act.put, List.setIfInBounds_toArray, List.set_cons_zero, List.set_cons_succ])
                    refine wpAnyH_take (i := 3) (oi := { dst := some 101, op := Op.move (Operand.tmp 0), type := 135, pos := "tx.go:145", after := #[], guard := none }) (v := ?_) rfl (by kernel_rfl) (by kernel_rfl) (by kernel_rfl) (fun _ _ _ h => h) (Or.inl ⟨by rfl, ?_⟩) (by assumption) ?_
                    rotate_left 1
                    · ((intro w hSw; (try dsimp only at hSw); go_simp) <;> with_reducible rfl)
                    (try simp only [Act.put, List.setIfInBounds_toArray, List.set_cons_zero, List.set_cons_succ])
                    refine wpAnyH_take (i := 4) (oi := { dst := some 102, op := Op.nilCheck (Operand.tmp 101), type := 0, pos := "tx.go:145", after := #[{ on := 3, ground := Ground.data }], guard := none }) (v := ?_) rfl (by kernel_rfl) (by kernel_rfl) (by kernel_rfl) (fun _ _ _ h => h) (Or.inl ⟨by rfl, ?_⟩) (by assumption) ?_
                    rotate_left 1
                    · ((intro w hSw; (try dsimp only at hSw); go_simp) <;> with_reducible rfl)
                    (try simp only [Act.put, List.setIfInBounds_toArray, List.set_cons_zero, List.set_cons_succ])
                    refine wpAnyH_take (i := 5) (oi := { dst := some 103, op := Op.fieldAddr 136 (Operand.tmp 102) 0, type := 0, pos := "tx.go:145", after := #[{ on := 4, ground := Ground.data }], guard := none }) (v := ?_) rfl (by kernel_rfl) (by kernel_rfl) (by kernel_rfl) (fun _ _ _ h => h) (Or.inl ⟨by rfl, ?_⟩) (by assumption) ?_
                    rotate_left 1
                    · ((intro w hSw; (try dsimp only at hSw); go_simp) <;> with_reducible rfl)
                    (try simp only [Act.put, List.setIfInBounds_toArray, List.set_cons_zero, List.set_cons_succ])
                    refine wpAnyH_ready (rs := [6]) (by kernel_rfl) (by simp) ?_
                    refine AllReadyH.cons (o := { dst := some 104, op := Op.call { callee := Callee.value (Operand.func 62), args := #[Operand.tmp 103, Operand.const (Value.int IntKind.i64 4)], argTypes := #[94, 3] }, type := 3, pos := "tx.go:145", after := #[{ on := 5, ground := Ground.data }], guard := none }) rfl (fun K hK => ?_) ?_
                    · go_simp
                      refine HNa.out.mono ?_
                      rintro e wB ⟨rfl, hR, hg⟩
                      have eY := Lib.hid (dY.out.call hR hg)
                      have eO := Lib.hid (dO.out.low hg HRX.out)
                      clear hR hg HNa dY dO
                      have dY := eY
                      have dO := eO
                      clear eY eO
                      have HTk := Lib.hid (take_p R 3 136 A L C l q2 E n4 wB dY.out.ws.rd (by omega))
                      rw [← HDd.out, ← HQ3.out] at HTk
                      (try go_wp2_with fail)
                      refine hK.out _ _ ?_ (fun hNew => ?_)
                      · ((try dsimp only); done)
                      clear hK K hHeld
                      have hHeld := hNew
                      clear hNew
                      (try simp only [Act.put, List.setIfInBounds_toArray, List.set_cons_zero, List.set_cons_succ])
                      refine wpAnyH_ready (rs := [7]) (by kernel_rfl) (by simp) ?_
                      refine AllReadyH.cons (o := { dst := some 105, op := Op.call { callee := Callee.value (Operand.func 83), args := #[Operand.tmp 100, Operand.tmp 104], argTypes := #[94, 3] }, type := 23, pos := "tx.go:145", after := #[{ on := 2, ground := Ground.data }, { on := 6, ground := Ground.data }, { on := 6, ground := Ground.chain }], guard := none }) rfl (fun K hK => ?_) ?_
                      · go_simp
                        refine HTk.out.mono ?_
                        rintro e wC ⟨A7, C7, rfl, hrd, hR, hg⟩
                        have eY := Lib.hid (dY.out.call hR hg)
                        have eO := Lib.hid (dO.out.low hg HRX.out)
                        clear hR hg HTk dY dO
                        have dY := eY
                        have dO := eO
                        clear eY eO
                        have HCn := Lib.hid (bclone_any A7 d.length C7 d wC hrd)
                        clear hrd
                        (try go_wp2_with fail)
                        refine hK.out _ _ ?_ (fun hNew => ?_)
                        · ((try dsimp only); done)
                        clear hK K hHeld
                        have hHeld := hNew
                        clear hNew
                        (try simp only [Act.put, List.setIfInBounds_toArray, List.set_cons_zero, List.set_cons_succ])
                        refine wpAnyH_ready (rs := [8]) (by kernel_rfl) (by simp) ?_
                        refine AllReadyH.cons (o := { dst := some 106, op := Op.call { callee := Callee.value (Operand.func 98), args := #[Operand.tmp 105], argTypes := #[23] }, type := 23, pos := "tx.go:145", after := #[{ on := 7, ground := Ground.data }, { on := 7, ground := Ground.chain }], guard := none }) rfl (fun K hK => ?_) ?_
                        · go_simp
                          refine HCn.out.mono ?_
                          rintro e wD ⟨A8, C8, rfl, ho8, hb8⟩
                          have eY := dY.out.belowW hb8
                          have eO := dO.out.belowW hb8
                          have hXs := dY.out.ws.hXs
                          have hMy : MyOk (X + 1) wD ⟨key, A8, d.length, C8, d⟩ := ⟨hkl, by show d.length ≤ _; omega, (DatOk.of_own ho8 (by omega) HDb.out).base (by omega)⟩
                          have hc32 : wD.cell? ⟨Y, 32, none⟩ = some _ := eY.ry.cell (show 32 < 33 by decide)
                          have hf32 : wD.frozen? ⟨Y, 32, none⟩ = false := eY.ry.frozen _
                          have hY9 := eY.set 32 (.slice A8 d.length C8)
                          rw [← HDT.out, My.set32 hkl A8 d.length C8 d] at hY9
                          have HY9 := Lib.hid hY9
                          have HOw9 := Lib.hid ((eO.snoc hMy).mem eY.ry (grown_set wD Y 32 (.slice A8 d.length C8)))
                          clear hb8 ho8 hMy eY eO hXs HCn dY dO hY9
                          (try go_wp2_with fail)
                          refine hK.out _ _ ?_ (fun hNew => ?_)
                          · ((try dsimp only); done)
                          clear hK K hHeld
                          have hHeld := hNew
                          clear hNew
                          (try simp only [Act.put, List.setIfInBounds_toArray, List.set_cons_zero, List.set_cons_succ])
                          refine wpAnyH_take (i := 9) (oi := { dst := some 107, op := Op.fieldAddr 128 (Operand.tmp 8) 1, type := 0, pos := "tx.go:145", after := #[{ on := 0, ground := Ground.phase }, { on := 1, ground := Ground.phase }, { on := 2, ground := Ground.phase }, { on := 3, ground := Ground.phase }, { on := 4, ground := Ground.phase }, { on := 5, ground := Ground.phase }, { on := 6, ground := Ground.phase }, { on := 7, ground := Ground.phase }, { on := 8, ground := Ground.phase }], guard := none }) (v := ?_) rfl (by kernel_rfl) (by kernel_rfl) (by kernel_rfl) (fun _ _ _ h => h) (Or.inl ⟨by rfl, ?_⟩) (by assumption) ?_
                          rotate_left 1
                          · ((intro w hSw; (try dsimp only at hSw); go_simp) <;> with_reducible rfl)
                          (try simp only [Act.put, List.setIfInBounds_toArray, List.set_cons_zero, List.set_cons_succ])
                          refine wpAnyH_ready (rs := [10]) (by kernel_rfl) (by simp) ?_
                          refine AllReadyH.cons (o := { dst := none, op := Op.store 23 (Operand.tmp 107) (Operand.tmp 106), type := 0, pos := "tx.go:145", after := #[{ on := 9, ground := Ground.data }, { on := 8, ground := Ground.data }, { on := 8, ground := Ground.chain }, { on := 0, ground := Ground.phase }, { on := 1, ground := Ground.phase }, { on := 2, ground := Ground.phase }, { on := 3, ground := Ground.phase }, { on := 4, ground := Ground.phase }, { on := 5, ground := Ground.phase }, { on := 6, ground := Ground.phase }, { on := 7, ground := Ground.phase }, { on := 8, ground := Ground.phase }], guard := none }) rfl (fun K hK => ?_) ?_
                          · go_simp
                            refine hK.out _ _ ?_ (fun hNew => ?_)
                            · ((try dsimp only); done)
                            clear hK K hHeld
                            have hHeld := hNew
                            clear hNew
                            (try simp only [Act.put, List.setIfInBounds_toArray, List.set_cons_zero, List.set_cons_succ])
                            refine wpAnyH_done (by kernel_rfl) ?_ _
                            refine NoPanic.normal ?_
                            clear hHeld hc32 hf32
                            generalize wD.setCell ⟨Y, 32, none⟩ (.slice A8 d.length C8) = w13 at *
                            have hc74 : w13.cell? ⟨X, 74, none⟩ = some _ := HY9.out.ws.cell 74 (by decide)
                            rw [txV_get HQs.out] at hc74
                            have HRy := Lib.hid HY9.out.range
                            have hTl : (My.cells ⟨key, A8, d.length, C8, d⟩).length = 33 := My.len hkl
                            have HTl := Lib.hid hTl
                            have HSy : Hid ((Try.prog.info? 128).map (·.size) = some (My.cells ⟨key, A8, d.length, C8, d⟩).length) := Lib.hid (by rw [hTl]; exact infoMy)
                            have HTo := Lib.hid (My.one ⟨key, A8, d.length, C8, d⟩)
                            have HNw := Lib.hid (new_cellsZ w13 (My.cells ⟨key, A8, d.length, C8, d⟩) 128)
                            have HbA := Lib.hid ((Below.refl w13.heap.size w13).alloc (Nat.le_refl _) (.cells (My.cells ⟨key, A8, d.length, C8, d⟩).toArray 128))
                            have HoA := Lib.hid (own_keep HY9.out.own HbA.out)
                            have HXl : Hid (X + 1 ≤ (w13.alloc (.cells (My.cells ⟨key, A8, d.length, C8, d⟩).toArray 128)).heap.size) := Lib.hid (by have h1 := HY9.out.ws.hXs; have h2 := HbA.out.size; omega)
                            clear hTl
                            generalize hDY : My.cells ⟨key, A8, d.length, C8, d⟩ = DY at *
                            have HDY := Lib.hid hDY
                            clear hDY
                            go_wp2_with (first
                              | (refine wpList_load_mid rfl _ _ rfl Y 0 rfl DY _ HRy.out Try.underlying128 rfl HSy.out ?_)
                              | (refine wpList_build_z rowMy _ rfl _ rfl DY rfl HTl.out ?_)
                              | (at_builtin; refine wpList_append_z rowMy _ rfl _ _ rfl (X + 1) _ ys.length (mysV ys) rfl HoA.out w13.heap.size DY rfl HNw.out HTl.out HTo.out (by omega) HXl.out ?_))
                            intro A9 C9 w14 hoE hgE
                            have hws := HY9.out.ws.hXs
                            obtain ⟨hWz, hOz⟩ := HY9.out.app HbA.out hoE hgE 74
                            have hWp := (HY9.out.ws.belowB (HbA.out.mono (by omega))).app HoA.out (Nat.lt_succ_self X) hgE
                            have hQp := ((HOw9.out.belowW HbA.out).app HoA.out hgE).low (grown_set w14 X 74 (.slice A9 (ys.length + 1) C9)) (Nat.le_refl X)
                            have hc : w14.cell? ⟨X, 74, none⟩ = some _ := hWp.cell 74 (by decide)
                            have hf : w14.frozen? ⟨X, 74, none⟩ = false := hWp.rx.frozen _
                            rw [(txV_set HQs.out).2.2.2.2] at hWz
                            have HWz := Lib.hid hWz
                            have HOz := Lib.hid hOz
                            have HQp := Lib.hid hQp
                            clear hWz hOz hWp hoE hgE HY9 HRy HTl HSy HTo HNw HbA HoA HXl hc74 hws hQp HOw9
                            go_wp2_with fail
                            have hj2 := HJ'.out
                            go_roundw
                            case rel => exact ⟨j', q3, ys ++ [⟨key, A8, d.length, C8, d⟩], A9, C9, by go_num, by omega, by simp; omega, Lib.hid (by rw [List.map_append]; exact HTd2.out), Lib.hid (by rw [show (ys ++ [(⟨key, A8, d.length, C8, d⟩ : My)]).length = ys.length + 1 by simp]; exact HWz.out), HQp, Lib.hid (by rw [show (ys ++ [(⟨key, A8, d.length, C8, d⟩ : My)]).length = ys.length + 1 by simp, mysV_snoc, HDY.out]; exact HOz.out)⟩
                            case measure => simp [intOf]; omega
                          exact AllReadyH.nil
                        exact AllReadyH.nil
                      exact AllReadyH.nil
                    exact AllReadyH.nil
                  · -- EXITS
                    by_cases hj0 : j = 0
                    · have hd : ¬ (0 : Int) < (j : Int) := by omega
                      have he : (q, ys.map My.pl) = (q7, ys7) := by rw [← HTd.out, hj0]; rfl
                      obtain ⟨rfl, hys⟩ := Prod.mk.inj he
                      have HYs := Lib.hid hys
                      have HRel : Hid (ys.length ≤ 65536) := Lib.hid (by omega)
                      clear hgo hj0 he HTd hys
                      go_wp2_with fail
                      go_meet
                      exact ⟨Ay, Cy, ys, HRel.out, HYs, HWr, HOw, HOr⟩
                    · have hq0 : ¬ q.1 = 0 := fun e => hgo ⟨by omega, e⟩
                      have hd : (0 : Int) < (j : Int) := by omega
                      have hdq : (q.1 == 0) = false := by simp [hq0]
                      have HOk := Lib.hid (ok_p R 3 136 A L C l q E wr HWr.out.rd)
                      rw [hdq] at HOk
                      have he : (q, ys.map My.pl) = (q7, ys7) := by
                        obtain ⟨j', hj'⟩ : ∃ j', j = j' + 1 := ⟨j - 1, by omega⟩
                        rw [← HTd.out, hj', ymL, if_neg hq0]
                      obtain ⟨rfl, hys⟩ := Prod.mk.inj he
                      have HYs := Lib.hid hys
                      have HRel : Hid (ys.length ≤ 65536) := Lib.hid (by omega)
                      clear hgo hj0 hq0 hdq he HTd hys
                      go_wp2_with fail
                      refine HOk.out.mono ?_
                      rintro e w8 ⟨rfl, rfl⟩
                      clear HOk
                      go_wp2_with fail
                      go_meet
                      exact ⟨Ay, Cy, ys, HRel.out, HYs, HWr, HOw, HOr⟩
              case rest =>
                obtain ⟨Ay, Cy, ys, hyl, HYs, HWe, HOe, HRe⟩ := hcut
                clear HWb HOb
                have HEn := Lib.hid (end_p R 3 136 A L C l q7 E wc HWe.out.rd)
                obtain ⟨p8, hp8⟩ : ∃ p8 : Pl, p8 = (enF q7.1 q7.2 L, q7.2) := ⟨_, rfl⟩
                rw [← hp8] at HEn
                have HP8 := Lib.hid hp8
                clear hp8
                go_upto_region 24 with (fail)
                go_wp2_with fail
                refine HEn.out.mono ?_
                rintro e w16 ⟨rfl, hR, hg⟩
                have HRX : R ≤ X := by
                  have h1 := HWe.out.hR
                  have h2 := HWe.out.hO
                  have h3 := HWe.out.hX
                  omega
                have HW17 := Lib.hid (HWe.out.call hR hg)
                have HO17 := Lib.hid (HWe.out.own_call HRe.out (Nat.lt_succ_self X) hg)
                have HQ17 := Lib.hid (HOe.out.low hg HRX)
                clear hR hg HWe HOe HRe HEn HRX
                have hl := HW17.out.dl
                obtain ⟨f1, f2, f3, f4, f5⟩ := HW17.out.fin (B := X + 1) (e := 128) (sz := 33) (n := ys.length) (v := .slice Ay ys.length Cy) (xs := mysV ys)
                have HRg := Lib.hid HW17.out.range
                obtain ⟨DF, hDF⟩ : ∃ DF, DF = txV hh hd0 (.slice Am ms5.length Cm) hs DS (.slice Ay ys.length Cy) := ⟨_, rfl⟩
                have hon : ∀ v ∈ DF, v.oneCell' = true := by
                  rw [hDF]
                  exact txV_one rfl (by rw [← HDS.out]; exact sqV_one rfl) rfl
                rw [← hDF] at hl f1 f2 f3 f4 f5 HRg
                have HDF := Lib.hid hDF
                have HLs : Hid ((Try.prog.info? 68).map (·.size) = some DF.length) := Lib.hid (by rw [hl]; exact infoTx)
                have HLs2 : Hid ((Try.prog.info? 68).map (·.size) = some DF.toArray.size) := Lib.hid (by rw [List.size_toArray]; exact HLs.out)
                have HOn := Lib.hid (all_oneCell_toArray hon)
                have hOX : w.heap.size ≤ X := by have h2 := HW17.out.hX; omega
                have HF1 := Lib.hid f1
                have HF2 := Lib.hid f2
                have HF3 := Lib.hid f3
                have HF4 := Lib.hid f4
                have HF5 := Lib.hid (own_base (f5 HO17.out (Nat.lt_succ_self X)) (by omega : w.heap.size ≤ X + 1))
                have hq := HQ17.out.low (grown_cells w16 w.heap.size DF 0) hOX
                have HF6 := Lib.hid (own_base hq.m (by omega : w.heap.size ≤ X + 1))
                have HF7 := Lib.hid (own_base hq.t (by omega : w.heap.size ≤ X + 1))
                have HF8 : Hid (∀ y ∈ ys, MyOk w.heap.size (w16.setCells w.heap.size 0 DF) y) := Lib.hid (fun y hy => (hq.y y hy).base (by omega))
                clear hl f1 f2 f3 f4 f5 HW17 HO17 HQ17 hDF hon hq hOX
                go_wp2_with (first
                  | (refine wpList_load_mid rfl _ _ rfl X 0 rfl DF _ HRg.out Try.underlying68 rfl HLs.out ?_)
                  | (refine wpList_store_mid rfl _ _ _ rfl w.heap.size 0 DF.toArray rfl rfl HF4.out HLs2.out HOn.out ?_))
                refine bodyPost_ret (results_cell_row rfl _ _ w.heap.size _ _ _ _ rfl HF3.out Try.underlying68 rfl HLs2.out) rfl ?_
                have eH : xH l L p = k := HK.out.symm
                have e1 : xP1 l L p = p1 := HP1.out.symm
                have e2 : xP2 l L p = p2 := by unfold xP2; rw [eH, e1]; exact HP2.out.symm
                have eHh : xHh l L p = hh := by unfold xHh; rw [eH]; exact HHh.out.symm
                have eHs : xHs l L p = hs := by unfold xHs; rw [eH]; exact HHs.out.symm
                have eHd : xHd l L p = hd0 := by unfold xHd; rw [eHh, e2]; exact HHd.out.symm
                have e3 : xP3 l L p = p3 := by unfold xP3; rw [eHh, e2]; exact HP3.out.symm
                have eM : xM l L p = m := by unfold xM; rw [e3]; exact HM.out.symm
                have e4 : xP4 l L p = p4 := by unfold xP4; rw [e3]; exact HP4.out.symm
                have eQ : xQ l L p = (q5, ms5) := by unfold xQ; rw [eM, e4]; exact HQ.out.symm
                have eSq : xSq l L p = sq := by unfold xSq; rw [eHs, eQ]; exact HSq.out.symm
                have e5 : xP5 l L p = p5 := by unfold xP5; rw [eHs, eQ]; exact HP5.out.symm
                have eN : xN l L p = m2 := by unfold xN; rw [e5]; exact HM2.out.symm
                have e6 : xP6 l L p = p6 := by unfold xP6; rw [e5]; exact HP6.out.symm
                have eR : xR l L p = (q7, ys7) := by unfold xR; rw [eN, e6]; exact HQ7.out.symm
                have eE : xE l L p = p8 := by unfold xE; rw [eR]; exact HP8.out.symm
                unfold TxpRet
                rw [eE, eHh, eHs, eHd, eQ, eSq, eR]
                exact ⟨HF1.out, HF2.out, Am, Cm, At, Ct, Ay, Cy, ys, by rw [HDF.out, HDS.out], HF6.out, HF7.out, HF5.out, HF8.out, HYs.out⟩
end Go.Proofs.Ytmcmapgllaopmaa.Cd
end

section
namespace Go.Proofs.Ytmcmapgllaopmaa.Cd
open Go.RowKit
set_option linter.unusedVariables false
/-- rows of a transaction told, one's own from B on -/
structure TxOwn (B : Nat) (w : World) (Am : Option Addr) (Cm : Nat) (ms : List Mv) (At : Option Addr) (Ct : Nat) (ts : List Td) (Ay : Option Addr) (Cy : Nat) (ys : List My) : Prop where
  m : w.ownsRow B 126 66 (.slice Am ms.length Cm) ms.length (mvsV ms)
  t : w.ownsRow B 84 33 (.slice At ts.length Ct) ts.length (tdsV ts)
  y : w.ownsRow B 128 33 (.slice Ay ys.length Cy) ys.length (mysV ys)
  d : ∀ y ∈ ys, MyOk B w y
/-- what failed -/
def xF (l : List Int) (L : Nat) : Int := (xE l L (0, 0)).1
/-- what ParseTx hands back -/
def TpRet (l : List Int) (L : Nat) (w : World) (e : Ending) (w' : World) : Prop :=
  Below w.heap.size w w' ∧
  ((xF l L ≠ 0 ∧ e = .returned (.tuple #[.agg tx0.toArray, .int .i64 (xF l L)])) ∨
   (xF l L = 0 ∧ ∃ (Am : Option Addr) (Cm : Nat) (At : Option Addr) (Ct : Nat) (Ay : Option Addr) (Cy : Nat) (ys : List My),
     e = .returned (.tuple #[.agg (txV (xHh l L (0, 0)) (xHd l L (0, 0)) (.slice Am (xQ l L (0, 0)).2.length Cm) (xHs l L (0, 0)) ((xSq l L (0, 0)).cells (.slice At (xSq l L (0, 0)).ts.length Ct)) (.slice Ay ys.length Cy)).toArray, .int .i64 0]) ∧
     TxOwn w.heap.size w' Am Cm (xQ l L (0, 0)).2 At Ct (xSq l L (0, 0)).ts Ay Cy ys ∧ ys.map My.pl = (xR l L (0, 0)).2))
theorem TxOwn.mono {B B' : Nat} {w w' : World} {Am : Option Addr} {Cm : Nat} {ms : List Mv} {At : Option Addr} {Ct : Nat} {ts : List Td} {Ay : Option Addr} {Cy : Nat} {ys : List My} (h : TxOwn B w Am Cm ms At Ct ts Ay Cy ys) (hB : B' ≤ B) (hb : Below w.heap.size w w') : TxOwn B' w' Am Cm ms At Ct ts Ay Cy ys :=
  ⟨own_base (own_keep h.m hb) hB, own_base (own_keep h.t hb) hB, own_base (own_keep h.y hb) hB, fun y hy => ((h.d y hy).keep hb).base hB⟩
theorem TxOwn.laid {B k : Nat} {w : World} {Am : Option Addr} {Cm : Nat} {ms : List Mv} {At : Option Addr} {Ct : Nat} {ts : List Td} {Ay : Option Addr} {Cy : Nat} {ys : List My} (h : TxOwn B w Am Cm ms At Ct ts Ay Cy ys) (o : Nat) (vs : List Value) (hk : k < B ∨ w.heap.size ≤ k) : TxOwn B (w.setCells k o vs) Am Cm ms At Ct ts Ay Cy ys := by
  have hg := grown_cells w k vs o
  have f : ∀ {e sz n : Nat} {v : Value} {xs : List Value}, w.ownsRow B e sz v n xs → v.ownBlock ≠ some k := fun ho e => by
    have := ho.lt k e
    omega
  exact ⟨own_grown h.m hg (f h.m), own_grown h.t hg (f h.t), own_grown h.y hg (f h.y), fun y hy => (h.d y hy).kept hg (fun x hx e => by have := (h.d y hy).dat.lt hx; have := Option.some.inj e; omega)⟩
theorem xSq_len (l : List Int) (L : Nat) (p : Pl) (v : Value) : ((xSq l L p).cells v).length = 70 := by
  unfold xSq
  split
  · exact sqV_len (sqP_len l L _).1 (sqP_len l L _).2
  · exact sqV_len (by simp [Sq.nil]) (by simp [Sq.nil])
theorem txD_len (l : List Int) (L : Nat) (p : Pl) (mv v mm : Value) : (txV (xHh l L p) (xHd l L p) mv (xHs l L p) ((xSq l L p).cells v) mm).length = 75 := txV_len (xSq_len l L p v)
theorem tx0_one : ∀ v ∈ tx0, v.oneCell' = true := txV_one rfl (sqV_one rfl) rfl
set_option maxRecDepth 100000 in
set_option maxHeartbeats 4000000 in
theorem parseTx_any (A : Option Addr) (L C : Nat) (l : List Int) (w : World) (h : RdB w A L C l) :
    Calls Try.prog 31 #[.slice A L C] w (TpRet l L w) := by
  have hz := zeroTx
  have hZl : tx0.toArray.size = 75 := by rw [List.size_toArray, tx0_len]
  have HZ0 := Lib.hid (show tx0.toArray.toList = tx0 by simp)
  generalize hZC : tx0.toArray = ZC at *
  have HZC := Lib.hid hZC
  have HZl := Lib.hid hZl
  have HRd := Lib.hid h
  have HB0 := Lib.hid (Below.refl w.heap.size w)
  clear hZl h hZC
  go_enter Try.func31, Try.ntmps31
  go_upto_region 1 with (fail)
  have hro := row_new w ZC 68
  rw [HZl.out] at hro
  have HO1 := Lib.hid hro
  have hX1 : (w.alloc (.cells ZC 68)).heap.size = w.heap.size + 1 := by show (w.heap.push _).size = _; simp
  have HB1 := Lib.hid (HB0.out.alloc (Nat.le_refl _) (.cells ZC 68))
  have HRd1 := Lib.hid (HRd.out.below HB1.out)
  have HLt : Hid (∀ x, A = some x → 0 < L → x.block < w.heap.size) := Lib.hid (fun x hx h0 => (HRd.out.cell x hx).1 h0)
  clear hro HB0 HRd
  generalize w.alloc (.cells ZC 68) = w1 at *
  go_upto_region 2 with (fail)
  have HB2 := Lib.hid (HB1.out.alloc (show w.heap.size ≤ w1.heap.size by omega) (.cells #[.slice A L C, .int .i64 0, .int .i64 0] 136))
  have HO2 := Lib.hid (World.rowIs.alloc HO1.out (.cells #[.slice A L C, .int .i64 0, .int .i64 0] 136))
  have hr2 := row_new w1 #[.slice A L C, .int .i64 0, .int .i64 0] 136
  have HR2 : Hid (At (w1.alloc (.cells #[.slice A L C, .int .i64 0, .int .i64 0] 136)) w1.heap.size 3 136 A L C l (0, 0) (fun _ => undef)) := Lib.hid ⟨hr2.congr (fun j hj => by
      match j, hj with
      | 0, _ => rfl
      | 1, _ => rfl
      | 2, _ => rfl), by decide, HRd1.out.below ((Below.refl w1.heap.size w1).alloc (Nat.le_refl _) _), fun x hx h0 => by have := HLt.out x hx h0; omega, Nat.zero_le _⟩
  clear hr2 HO1 HB1 HRd1
  obtain ⟨R, hR⟩ : ∃ R, R = w.heap.size + 1 := ⟨_, rfl⟩
  obtain ⟨O, hO⟩ : ∃ O, O = w.heap.size := ⟨_, rfl⟩
  rw [hX1, ← hR] at HR2
  rw [← hR]
  rw [← hO] at HO2 HLt ⊢
  have hRO : O < R := by omega
  clear hX1
  generalize w1.alloc (.cells #[.slice A L C, .int .i64 0, .int .i64 0] 136) = w2 at *
  have HOw := Lib.hid hO
  clear hR hO
  have HCm := Lib.hid (tx_r R A L C l (0, 0) (fun _ => undef) w2 HR2.out)
  have hRs := HR2.out.row.lt
  clear HR2
  go_wp2_with fail
  refine HCm.out.mono ?_
  rintro e w3 ⟨hR3, hg3, Am, Cm, At, Ct, Ay, Cy, ys, rfl, hm3, ht3, hy3, hd3, hys⟩
  have HB3 : Hid (Below w.heap.size w w3) := Lib.hid (HB2.out.grown hg3 (by have := HOw.out; omega) (fun k hk => by have := Option.some.inj hk; have := HOw.out; omega))
  have HO3 := Lib.hid (World.rowIs.of_block HO2.out (hg3.block O HO2.out.lt (fun e => by have := Option.some.inj e; omega)))
  have hw2 : w2.heap.size ≤ w3.heap.size := hg3.size
  obtain ⟨F, hF⟩ : ∃ F, F = xF l L := ⟨_, rfl⟩
  have hR3' : Rdr w3 R 3 136 A L C l (xE l L (0, 0)).2 F (fun _ => undef) := by rw [hF]; exact hR3
  have HYs := Lib.hid hys
  have hcl := txD_len l L (0, 0) (.slice Am (xQ l L (0, 0)).2.length Cm) (.slice At (xSq l L (0, 0)).ts.length Ct) (.slice Ay ys.length Cy)
  have hco : ∀ v ∈ txV (xHh l L (0, 0)) (xHd l L (0, 0)) (.slice Am (xQ l L (0, 0)).2.length Cm) (xHs l L (0, 0)) ((xSq l L (0, 0)).cells (.slice At (xSq l L (0, 0)).ts.length Ct)) (.slice Ay ys.length Cy), v.oneCell' = true := txV_one rfl (sqV_one rfl) rfl
  have HTo : Hid (TxOwn w2.heap.size w3 Am Cm (xQ l L (0, 0)).2 At Ct (xSq l L (0, 0)).ts Ay Cy ys) := Lib.hid ⟨hm3, ht3, hy3, hd3⟩
  generalize hCM : txV (xHh l L (0, 0)) (xHd l L (0, 0)) (.slice Am (xQ l L (0, 0)).2.length Cm) (xHs l L (0, 0)) ((xSq l L (0, 0)).cells (.slice At (xSq l L (0, 0)).ts.length Ct)) (.slice Ay ys.length Cy) = CM at *
  have HCM := Lib.hid hCM
  have hxr := row_new w3 ZC 68
  rw [HZl.out] at hxr
  have hb4 := HB3.out.alloc (show w.heap.size ≤ w3.heap.size by have := HOw.out; omega) (.cells ZC 68)
  have hb34 := (Below.refl w3.heap.size w3).alloc (Nat.le_refl _) (.cells ZC 68)
  have HFx := Lib.hid (Fin.mkN infoTx hcl hco hxr hb4 (show w.heap.size ≤ w3.heap.size by have := HOw.out; omega))
  have HXr : Hid (((w3.alloc (.cells ZC 68)).setCells w3.heap.size 0 CM).rangeAt w3.heap.size 0 CM) := Lib.hid (World.rangeAt_setCells_same _ _ _ _ (by have := HFx.out.there; rwa [List.size_toArray] at this))
  have HO4 := Lib.hid (row_apart (b := O) (E := w3.heap.size) (by have := HO3.out.lt; omega) CM 0 _ (HO3.out.alloc (.cells ZC 68)))
  have HR4 := Lib.hid (Rdr.laid (X := w3.heap.size) (by omega) CM 0 _ (fun x hx h0 => by have := HLt.out x hx h0; have := HO3.out.lt; omega) (hR3'.below hb34))
  have HTx := Lib.hid ((HTo.out.mono (Nat.le_refl _) (below_cells (Nat.le_refl w3.heap.size) CM 0 _ hb34)))
  have HSz : Hid ((Try.prog.info? 68).map (·.size) = some CM.length) := Lib.hid (by rw [hcl]; exact infoTx)
  have HCl := Lib.hid hcl
  have HCo := Lib.hid hco
  have hOX : O < w3.heap.size := HO3.out.lt
  have hO2 : Hid (O < w2.heap.size) := Lib.hid (by omega)
  clear hR3 hR3' hg3 hcl hco hCM hm3 ht3 hy3 hd3 hys hxr hb4 hb34 HB2 HO2 HO3 HB3 HCm HTo
  go_upto_region 3 with (refine wpList_store_mid rfl _ _ _ rfl w3.heap.size 0 CM.toArray rfl rfl HFx.out.there HFx.out.size HFx.out.one ?_)
  change Code.wp _ _ _ _ ((w3.alloc (.cells ZC 68)).setCells w3.heap.size 0 CM)
  have HBx := Lib.hid HFx.out.bel
  have hXs := HO4.out.lt
  have hXl : w3.heap.size < ((w3.alloc (.cells ZC 68)).setCells w3.heap.size 0 CM).heap.size := HXr.out.lt_of (by rw [HCl.out]; decide)
  clear HFx
  generalize (w3.alloc (.cells ZC 68)).setCells w3.heap.size 0 CM = w4 at *
  have ho2 : O ≤ w3.heap.size := Nat.le_of_lt hOX
  have hR3 : R < w3.heap.size := by omega
  generalize w3.heap.size = X at *
  have HOk := Lib.hid (ok_any R 3 136 A L C l _ F _ w4 HR4.out)
  by_cases h0 : F = 0
  · have hd : (F == 0) = true := by simp [h0]
    have HFo := Lib.hid (Fin.mkN infoTx HCl.out HCo.out HO4.out HBx.out (show w.heap.size ≤ O by have := HOw.out; omega))
    have HOz := Lib.hid (HTx.out.laid (k := O) 0 CM (.inl hO2.out))
    have H0 := Lib.hid (hF.symm.trans h0)
    have hW2 : Hid (w.heap.size ≤ w2.heap.size) := Lib.hid (by have := HOw.out; omega)
    clear hF h0
    go_wp2_with fail
    refine HOk.out.mono ?_
    rintro e w5 ⟨rfl, rfl⟩
    clear HOk
    go_wp2_with (first
      | (refine wpList_load_mid rfl _ _ rfl X 0 rfl CM _ HXr.out Try.underlying68 rfl HSz.out ?_)
      | (refine wpList_store_mid rfl _ _ _ rfl O 0 CM.toArray rfl rfl HFo.out.there HFo.out.size HFo.out.one ?_))
    refine bodyPost_ret (results_cell2 rfl _ _ O _ _ _ _ rfl HFo.out.stored Try.underlying68 rfl HFo.out.size (.int .i64 0) rfl) rfl ?_
    exact ⟨HFo.out.bel, .inr ⟨H0.out, Am, Cm, At, Ct, Ay, Cy, ys, by rw [HCM.out], HOz.out.mono hW2.out (Below.refl _ _), HYs.out⟩⟩
  · have hd : (F == 0) = false := by simp [h0]
    have HFz := Lib.hid (Fin.mkN infoTx tx0_len tx0_one (World.rowIs.drew HO4.out) HBx.out.drew (show w.heap.size ≤ O by have := HOw.out; omega))
    have HcF : Hid (w4.drew.cell? ⟨R, 2, none⟩ = some (.int .i64 F)) := Lib.hid HR4.out.c2
    have HcF2 : Hid ((w4.drew.setCells O 0 tx0.toArray.toList).cell? ⟨R, 2, none⟩ = some (.int .i64 F)) := Lib.hid (Rdr.laid (X := O) (by omega) tx0 0 _ (fun x hx h0 => by have := HLt.out x hx h0; omega) (HR4.out.drewN 1)).c2
    have H0 : Hid (xF l L ≠ 0) := Lib.hid (fun e => h0 (hF.trans e))
    have HF := Lib.hid hF
    clear hF h0
    go_wp2_with fail
    refine HOk.out.mono ?_
    rintro e w5 ⟨rfl, rfl⟩
    clear HOk
    go_wp2_with fail
    refine wp_region_noPanic ?_
    refine wp_region_held_drew (S := (fun wS => wS.cell? ⟨R, 2, none⟩ = some (.int .i64 F))) (by kernel_rfl) ?_ (fun hHeld => ?_)
    · ((try dsimp only); exact HcF.out)
    refine wpAnyH_take (i := 0) (oi := { dst := some 17, op := Op.build 68 #[], type := 68, pos := "tx.go:116", after := #[], guard := none }) (v := ?_) rfl (by kernel_rfl) (by kernel_rfl) (by kernel_rfl) (fun _ _ _ h => h) (Or.inl ⟨by rfl, ?_⟩) (by assumption) ?_
    rotate_left 1
    · ((intro w hSw; (try dsimp only at hSw); go_simp) <;> with_reducible rfl)
    (try simp only [Act.put, List.setIfInBounds_toArray, List.set_cons_zero, List.set_cons_succ])
    refine wpAnyH_take (i := 1) (oi := { dst := some 18, op := Op.move (Operand.tmp 4), type := 135, pos := "tx.go:116", after := #[{ on := 6, ground := Ground.gcOnly Departure.lateStores }], guard := none }) (v := ?_) rfl (by kernel_rfl) (by kernel_rfl) (by kernel_rfl) (fun _ _ _ h => h) (Or.inl ⟨by rfl, ?_⟩) (by assumption) ?_
    rotate_left 1
    · ((intro w hSw; (try dsimp only at hSw); go_simp) <;> with_reducible rfl)
    (try simp only [Act.put, List.setIfInBounds_toArray, List.set_cons_zero, List.set_cons_succ])
    refine wpAnyH_take (i := 2) (oi := { dst := some 19, op := Op.nilCheck (Operand.tmp 18), type := 0, pos := "tx.go:116", after := #[{ on := 1, ground := Ground.data }, { on := 6, ground := Ground.gcOnly Departure.lateStores }], guard := none }) (v := ?_) rfl (by kernel_rfl) (by kernel_rfl) (by kernel_rfl) (fun _ _ _ h => h) (Or.inl ⟨by rfl, ?_⟩) (by assumption) ?_
    rotate_left 1
    · ((intro w hSw; (try dsimp only at hSw); go_simp) <;> with_reducible rfl)
    (try simp only [Act.put, List.setIfInBounds_toArray, List.set_cons_zero, List.set_cons_succ])
    refine wpAnyH_take (i := 3) (oi := { dst := some 20, op := Op.fieldAddr 136 (Operand.tmp 19) 0, type := 0, pos := "tx.go:116", after := #[{ on := 2, ground := Ground.data }, { on := 6, ground := Ground.gcOnly Departure.lateStores }], guard := none }) (v := ?_) rfl (by kernel_rfl) (by kernel_rfl) (by kernel_rfl) (fun _ _ _ h => h) (Or.inl ⟨by rfl, ?_⟩) (by assumption) ?_
    rotate_left 1
    · ((intro w hSw; (try dsimp only at hSw); go_simp) <;> with_reducible rfl)
    (try simp only [Act.put, List.setIfInBounds_toArray, List.set_cons_zero, List.set_cons_succ])
    refine wpAnyH_take (i := 4) (oi := { dst := some 21, op := Op.fieldAddr 94 (Operand.tmp 20) 2, type := 0, pos := "tx.go:116", after := #[{ on := 3, ground := Ground.data }, { on := 6, ground := Ground.gcOnly Departure.lateStores }], guard := none }) (v := ?_) rfl (by kernel_rfl) (by kernel_rfl) (by kernel_rfl) (fun _ _ _ h => h) (Or.inl ⟨by rfl, ?_⟩) (by assumption) ?_
    rotate_left 1
    · ((intro w hSw; (try dsimp only at hSw); go_simp) <;> with_reducible rfl)
    (try simp only [Act.put, List.setIfInBounds_toArray, List.set_cons_zero, List.set_cons_succ])
    refine wpAnyH_take (i := 5) (oi := { dst := some 22, op := Op.load 25 (Operand.tmp 21), type := 25, pos := "tx.go:116", after := #[{ on := 4, ground := Ground.data }, { on := 6, ground := Ground.gcOnly Departure.lateStores }], guard := none }) (v := ?_) rfl (by kernel_rfl) (by kernel_rfl) (by kernel_rfl) (fun _ _ _ h => h) (Or.inl ⟨by rfl, ?_⟩) (by assumption) ?_
    rotate_left 1
    · ((intro w hSw; (try dsimp only at hSw); go_simp) <;> with_reducible rfl)
    (try simp only [Act.put, List.setIfInBounds_toArray, List.set_cons_zero, List.set_cons_succ])
    refine wpAnyH_ready (rs := [6]) (by kernel_rfl) (by simp) ?_
    refine AllReadyH.cons (o := { dst := none, op := Op.store 68 (Operand.tmp 2) (Operand.tmp 17), type := 0, pos := "tx.go:116", after := #[{ on := 0, ground := Ground.data }, { on := 0, ground := Ground.phase }, { on := 1, ground := Ground.textOnly Departure.lateStores }, { on := 2, ground := Ground.textOnly Departure.lateStores }, { on := 3, ground := Ground.textOnly Departure.lateStores }, { on := 4, ground := Ground.textOnly Departure.lateStores }, { on := 5, ground := Ground.textOnly Departure.lateStores }], guard := none }) rfl (fun K hK => ?_) ?_
    · refine step_store_mid rfl _ _ _ rfl O 0 tx0.toArray rfl (show _ = _ from congrArg Value.agg HZC.out.symm) HFz.out.there HFz.out.size HFz.out.one ?_
      (try go_wp2_with fail)
      refine hK.out _ _ ?_ (fun hNew => ?_)
      · ((try dsimp only); exact HcF2.out)
      clear hK K hHeld
      have hHeld := hNew
      clear hNew
      (try simp only [Act.put, List.setIfInBounds_toArray, List.set_cons_zero, List.set_cons_succ])
      refine wpAnyH_take (i := 7) (oi := { dst := some 3, op := Op.assign (Operand.tmp 22), type := 25, pos := "tx.go:116", after := #[{ on := 5, ground := Ground.data }, { on := 6, ground := Ground.chain }, { on := 0, ground := Ground.phase }, { on := 1, ground := Ground.phase }, { on := 2, ground := Ground.phase }, { on := 3, ground := Ground.phase }, { on := 4, ground := Ground.phase }, { on := 5, ground := Ground.phase }, { on := 6, ground := Ground.phase }], guard := none }) (v := ?_) rfl (by kernel_rfl) (by kernel_rfl) (by kernel_rfl) (fun _ _ _ h => h) (Or.inl ⟨by rfl, ?_⟩) (by assumption) ?_
      rotate_left 1
      · ((intro w hSw; (try dsimp only at hSw); go_simp) <;> with_reducible rfl)
      (try simp only [Act.put, List.setIfInBounds_toArray, List.set_cons_zero, List.set_cons_succ])
      refine wpAnyH_done (by kernel_rfl) ?_ _
      refine NoPanic.normal ?_
      clear hHeld
      go_wp2_with fail
      refine bodyPost_ret (results_cell2 rfl _ _ O _ _ _ _ rfl HFz.out.stored Try.underlying68 rfl HFz.out.size (.int .i64 F) rfl) rfl ?_
      exact ⟨HFz.out.bel, .inl ⟨H0.out, by rw [HF.out]⟩⟩
    exact AllReadyH.nil
end Go.Proofs.Ytmcmapgllaopmaa.Cd
end

section
namespace Go.Proofs.Ytmcmapgllaopmaa.Cd
open Go.RowKit
set_option linter.unusedVariables false
/-- a transaction without what is not asked of it -/
def akH (hh : Bool) (hd : ByteArray) : ByteArray := if hh = true then hd else ByteArray.empty
def akS (hs : Bool) (k : Int) (sq : List Value) : List Value := if hs = true ∧ k ≠ 0 then sq else sq0
theorem tx_setH {w : World} {X : Nat} {hh : Bool} {hd : ByteArray} {mv : Value} {hs : Bool} {sq : List Value} {mm : Value} (h : w.rowIs X 68 75 (fun i => (txV hh hd mv hs sq mm).getD i undef)) (s : ByteArray) : (w.setCell ⟨X, 1, none⟩ (.string s)).rowIs X 68 75 (fun i => (txV hh s mv hs sq mm).getD i undef) :=
  (h.set 1 _).congr (fun j _ => by
    match j with
    | 0 => rfl
    | 1 => rfl
    | j + 2 => rfl)
theorem tx_layS {w : World} {X : Nat} {hh : Bool} {hd : ByteArray} {mv : Value} {hs : Bool} {sq sq' : List Value} {mm : Value} (hq : sq.length = 70) (hq' : sq'.length = 70) (h : w.rowIs X 68 75 (fun i => (txV hh hd mv hs sq mm).getD i undef)) : (w.setCells X 4 sq').rowIs X 68 75 (fun i => (txV hh hd mv hs sq' mm).getD i undef) :=
  (row_lay h 4 sq').congr (fun j hj => by
    rw [layF, hq']
    by_cases h4 : j < 4
    · rw [if_neg (by omega)]
      match j, h4 with
      | 0, _ => rfl
      | 1, _ => rfl
      | 2, _ => rfl
      | 3, _ => rfl
    · obtain ⟨i, rfl⟩ : ∃ i, j = i + 4 := ⟨j - 4, by omega⟩
      have e1 : (txV hh hd mv hs sq mm).getD (i + 4) undef = (sq ++ [mm]).getD i undef := rfl
      have e2 : (txV hh hd mv hs sq' mm).getD (i + 4) undef = (sq' ++ [mm]).getD i undef := rfl
      rw [e1, e2]
      by_cases hi : i < 70
      · rw [if_pos (by omega), Nat.add_sub_cancel]
        simp [List.getD, List.getElem?_append_left (show i < sq'.length by omega)]
      · obtain rfl : i = 70 := by omega
        rw [if_neg (by omega)]
        simp [List.getD, hq, hq'])
theorem tx_there {w : World} {X o m : Nat} {f : Nat → Value} (h : w.rowIs X 68 75 f) (hm : o + m ≤ 75) : w.there X o m := fun j hj => ⟨by rw [h.cell (show o + j < 75 by omega)]; rfl, h.frozen _⟩
set_option maxRecDepth 100000 in
set_option maxHeartbeats 2000000 in
theorem asked_any (hh : Bool) (hd : ByteArray) (mv : Value) (hs : Bool) (k : Int) (br : ByteArray) (og cu : List Int) (td : Value) (dn md : Int) (st : Bool) (mm : Value) (w : World) (ho : og.length = 32) (hc : cu.length = 32) (hm1 : mv.oneCell' = true) (ht1 : td.oneCell' = true) (hy1 : mm.oneCell' = true) :
    Calls Try.prog 67 #[.agg (txV hh hd mv hs (sqV k br og cu td dn md st) mm).toArray] w fun e w' => e = .returned (.agg (txV hh (akH hh hd) mv hs (akS hs k (sqV k br og cu td dn md st)) mm).toArray) ∧ Below w.heap.size w w' := by
  have hql := sqV_len (k := k) (br := br) (td := td) (dn := dn) (md := md) (st := st) ho hc
  have hq1 := sqV_one (k := k) (br := br) (og := og) (cu := cu) (dn := dn) (md := md) (st := st) ht1
  have HSq : Hid (∀ w' : World, w'.rangeAt w.heap.size 4 (sqV k br og cu td dn md st) → w'.cell? ⟨w.heap.size, 4, none⟩ = some (.int .i64 k)) := Lib.hid (fun w' h => (sq_at ho hc h).c0)
  obtain ⟨sq, hsq⟩ : ∃ sq, sq = sqV k br og cu td dn md st := ⟨_, rfl⟩
  rw [← hsq] at hql hq1 HSq ⊢
  clear hsq ho hc
  have hb1 := (Below.refl w.heap.size w).alloc (Nat.le_refl _) (.cells (txV hh hd mv hs sq mm).toArray 68)
  have hr1 := row_newL w (txV hh hd mv hs sq mm) 68 75 (txV_len hql)
  have hb2 := hb1.alloc (al_le w _) (.cells tx0.toArray 68)
  have hr2 := World.rowIs.alloc hr1 (.cells tx0.toArray 68)
  have ho2 := row_newL (w.alloc (.cells (txV hh hd mv hs sq mm).toArray 68)) tx0 68 75 tx0_len
  have hX1 : (w.alloc (.cells (txV hh hd mv hs sq mm).toArray 68)).heap.size = w.heap.size + 1 := by show (w.heap.push _).size = _; simp
  rw [hX1] at ho2
  have HQl := Lib.hid hql
  have HQ1 := Lib.hid hq1
  have HB2 := Lib.hid hb2
  have HX2 := Lib.hid hr2
  have HO2 := Lib.hid ho2
  have hz1 := zeroTx
  have hz2 := zeroSq
  have HT0l := Lib.hid tx0_len
  have HS0l := Lib.hid sq0_len
  have HS01 : Hid (∀ v ∈ sq0, v.oneCell' = true) := Lib.hid (sqV_one rfl)
  have HSz : Hid ((Try.prog.info? 65).map (·.size) = some sq0.toArray.size) := Lib.hid (by rw [List.size_toArray, sq0_len]; exact infoSq)
  clear hb1 hr1 hb2 hr2 ho2 hX1 hql hq1
  have HTA : Hid (∀ (h : ByteArray) (q : List Value), q.length = 70 → ∀ w' : World, w'.rowIs w.heap.size 68 75 (fun i => (txV hh h mv hs q mm).getD i undef) → TxAt w' w.heap.size hh h mv hs q mm) := Lib.hid (fun h q hq w' hr => tx_at hq (row_range hr (txV_len hq)))
  have HTl : Hid (∀ (h : ByteArray) (q : List Value), q.length = 70 → (txV hh h mv hs q mm).length = 75) := Lib.hid (fun h q hq => txV_len hq)
  have HT1 : Hid (∀ (h : ByteArray) (q : List Value), (∀ v ∈ q, v.oneCell' = true) → ∀ v ∈ txV hh h mv hs q mm, v.oneCell' = true) := Lib.hid (fun h q hq => txV_one hm1 hq hy1)
  have HSH : Hid (∀ (h : ByteArray) (q : List Value) (w' : World), w'.rowIs w.heap.size 68 75 (fun i => (txV hh h mv hs q mm).getD i undef) → (w'.setCell ⟨w.heap.size, 1, none⟩ (.string ByteArray.empty)).rowIs w.heap.size 68 75 (fun i => (txV hh ByteArray.empty mv hs q mm).getD i undef)) := Lib.hid (fun h q w' hr => tx_setH hr _)
  have HLS : Hid (∀ (h : ByteArray) (w' : World), w'.rowIs w.heap.size 68 75 (fun i => (txV hh h mv hs sq mm).getD i undef) → (w'.setCells w.heap.size 4 sq0).rowIs w.heap.size 68 75 (fun i => (txV hh h mv hs sq0 mm).getD i undef)) := Lib.hid (fun h w' hr => tx_layS HQl.out sq0_len hr)
  have HPost : Hid (∀ (h : ByteArray) (q : List Value) (w' : World), h = akH hh hd → q = akS hs k sq → Below w.heap.size w w' → ((fun e w' => e = Ending.returned (.agg (txV hh (akH hh hd) mv hs (akS hs k sq) mm).toArray) ∧ Below w.heap.size w w') (Ending.returned (.agg (txV hh h mv hs q mm).toArray)) w')) := Lib.hid (fun h q w' e1 e2 hb => by
    subst e1 e2; exact ⟨rfl, hb⟩)
  generalize hPD : (fun e w' => e = Ending.returned (.agg (txV hh (akH hh hd) mv hs (akS hs k sq) mm).toArray) ∧ Below w.heap.size w w') = PO at *
  clear hPD
  generalize hCM : txV hh hd mv hs sq mm = CM at *
  generalize hTX : txV hh = TX at *
  clear hTX hm1 ht1 hy1
  go_enter Try.func67, Try.ntmps67
  go_upto_region 1 with (fail)
  generalize tx0.toArray = T0 at *
  generalize (w.alloc (.cells CM.toArray 68)).alloc (.cells T0 68) = w2 at *
  subst hCM
  have HA := Lib.hid (HTA.out hd sq HQl.out w2 HX2.out)
  have hc0 : w2.cell? ⟨w.heap.size, 0, none⟩ = some (.bool hh) := HA.out.c0
  clear HA
  cases hh
  · have hc1 : w2.cell? ⟨w.heap.size, 1, none⟩ = some (.string hd) := (HTA.out hd sq HQl.out w2 HX2.out).c1
    have hf1 := HX2.out.frozen 1
    have HX := Lib.hid (HSH.out hd sq w2 HX2.out)
    have HOx : Hid ((w2.setCell ⟨w.heap.size, 1, none⟩ (.string ByteArray.empty)).rowIs (w.heap.size + 1) 68 75 (fun i => tx0.getD i undef)) := Lib.hid (HO2.out.setOther (a := ⟨w.heap.size, 1, none⟩) (by show w.heap.size + 1 ≠ w.heap.size; omega) _)
    have HBx : Hid (Below w.heap.size w (w2.setCell ⟨w.heap.size, 1, none⟩ (.string ByteArray.empty))) := Lib.hid (HB2.out.setCell (p := ⟨w.heap.size, 1, none⟩) (Nat.le_refl _) _)
    clear HX2 HO2 HB2
    go_upto_region 3 with (fail)
    change Code.wp _ _ _ _ (w2.setCell ⟨w.heap.size, 1, none⟩ (.string ByteArray.empty))
    clear hc1 hf1 hc0
    generalize w2.setCell ⟨w.heap.size, 1, none⟩ (.string ByteArray.empty) = wx at *
    have HA := Lib.hid (HTA.out ByteArray.empty sq HQl.out wx HX.out)
    have hc3 : wx.cell? ⟨w.heap.size, 3, none⟩ = some (.bool hs) := HA.out.c3
    have hc4 : wx.cell? ⟨w.heap.size, 4, none⟩ = some (.int .i64 k) := HSq.out wx HA.out.sq
    clear HA
    cases hs
    · have HTh : Hid (wx.there w.heap.size 4 sq0.toArray.size) := Lib.hid (by show wx.there w.heap.size 4 sq0.length; rw [HS0l.out]; exact tx_there HX.out (by omega))
      have HSo := Lib.hid (all_oneCell_toArray HS01.out)
      have hx2 := HLS.out ByteArray.empty wx HX.out
      have ho2 := row_apart (b := w.heap.size + 1) (E := w.heap.size) (by omega) sq0 4 wx HOx.out
      have hb2 := below_cells (B := w.heap.size) (Nat.le_refl _) sq0 4 wx HBx.out
      clear HX HOx HBx
      have HX := Lib.hid hx2
      have HOx := Lib.hid ho2
      have HBx := Lib.hid hb2
      clear hx2 ho2 hb2
      go_upto_region 5 with (refine wpList_store_mid rfl _ _ _ rfl w.heap.size 4 sq0.toArray rfl rfl HTh.out HSz.out HSo.out ?_)
      change Code.wp _ _ _ _ (wx.setCells w.heap.size 4 sq0)
      generalize wx.setCells w.heap.size 4 sq0 = wy at *
      have HXe := Lib.hid (row_range HX.out (HTl.out ByteArray.empty sq0 HS0l.out))
      have HEl := Lib.hid (HTl.out ByteArray.empty sq0 HS0l.out)
      have HFz := Lib.hid (Fin.mkN infoTx (D := TX ByteArray.empty mv false sq0 mm) HEl.out (HT1.out ByteArray.empty sq0 HS01.out) HOx.out HBx.out (show w.heap.size ≤ w.heap.size + 1 by omega))
      have HSz2 : Hid ((Try.prog.info? 68).map (·.size) = some (TX ByteArray.empty mv false sq0 mm).length) := Lib.hid (by rw [HEl.out]; exact infoTx)
      have HP := Lib.hid (HPost.out ByteArray.empty sq0 _ (by unfold akH; rw [if_neg (by simp)]) (by unfold akS; rw [if_neg (by simp)]) HFz.out.bel)
      clear HPost
      generalize TX ByteArray.empty mv false sq0 mm = DE at *
      go_wp2_with (first
        | (refine wpList_load_mid rfl _ _ rfl w.heap.size 0 rfl DE _ HXe.out Try.underlying68 rfl HSz2.out ?_)
        | (refine wpList_store_mid rfl _ _ _ rfl (w.heap.size + 1) 0 DE.toArray rfl rfl HFz.out.there HFz.out.size HFz.out.one ?_))
      refine bodyPost_ret (results_cell_row rfl _ _ (w.heap.size + 1) _ _ _ _ rfl HFz.out.stored Try.underlying68 rfl HFz.out.size) rfl ?_
      exact HP.out
    · by_cases hk : k = 0
      · have hk0 : (k == 0) = true := by simp [hk]
        have HK := Lib.hid hk
        clear hk
        have HTh : Hid (wx.there w.heap.size 4 sq0.toArray.size) := Lib.hid (by show wx.there w.heap.size 4 sq0.length; rw [HS0l.out]; exact tx_there HX.out (by omega))
        have HSo := Lib.hid (all_oneCell_toArray HS01.out)
        have hx2 := HLS.out ByteArray.empty wx HX.out
        have ho2 := row_apart (b := w.heap.size + 1) (E := w.heap.size) (by omega) sq0 4 wx HOx.out
        have hb2 := below_cells (B := w.heap.size) (Nat.le_refl _) sq0 4 wx HBx.out
        clear HX HOx HBx
        have HX := Lib.hid hx2
        have HOx := Lib.hid ho2
        have HBx := Lib.hid hb2
        clear hx2 ho2 hb2
        go_upto_region 5 with (refine wpList_store_mid rfl _ _ _ rfl w.heap.size 4 sq0.toArray rfl rfl HTh.out HSz.out HSo.out ?_)
        change Code.wp _ _ _ _ (wx.setCells w.heap.size 4 sq0)
        generalize wx.setCells w.heap.size 4 sq0 = wy at *
        have HXe := Lib.hid (row_range HX.out (HTl.out ByteArray.empty sq0 HS0l.out))
        have HEl := Lib.hid (HTl.out ByteArray.empty sq0 HS0l.out)
        have HFz := Lib.hid (Fin.mkN infoTx (D := TX ByteArray.empty mv true sq0 mm) HEl.out (HT1.out ByteArray.empty sq0 HS01.out) HOx.out HBx.out (show w.heap.size ≤ w.heap.size + 1 by omega))
        have HSz2 : Hid ((Try.prog.info? 68).map (·.size) = some (TX ByteArray.empty mv true sq0 mm).length) := Lib.hid (by rw [HEl.out]; exact infoTx)
        have HP := Lib.hid (HPost.out ByteArray.empty sq0 _ (by unfold akH; rw [if_neg (by simp)]) (by unfold akS; rw [if_neg (by rintro ⟨-, h⟩; exact h HK.out)]) HFz.out.bel)
        clear HPost
        generalize TX ByteArray.empty mv true sq0 mm = DE at *
        go_wp2_with (first
          | (refine wpList_load_mid rfl _ _ rfl w.heap.size 0 rfl DE _ HXe.out Try.underlying68 rfl HSz2.out ?_)
          | (refine wpList_store_mid rfl _ _ _ rfl (w.heap.size + 1) 0 DE.toArray rfl rfl HFz.out.there HFz.out.size HFz.out.one ?_))
        refine bodyPost_ret (results_cell_row rfl _ _ (w.heap.size + 1) _ _ _ _ rfl HFz.out.stored Try.underlying68 rfl HFz.out.size) rfl ?_
        exact HP.out
      · have hk0 : (k == 0) = false := by simp [hk]
        have HK := Lib.hid hk
        clear hk
        go_upto_region 5 with (fail)
        have HXe := Lib.hid (row_range HX.out (HTl.out ByteArray.empty sq HQl.out))
        have HEl := Lib.hid (HTl.out ByteArray.empty sq HQl.out)
        have HFz := Lib.hid (Fin.mkN infoTx (D := TX ByteArray.empty mv true sq mm) HEl.out (HT1.out ByteArray.empty sq HQ1.out) HOx.out HBx.out (show w.heap.size ≤ w.heap.size + 1 by omega))
        have HSz2 : Hid ((Try.prog.info? 68).map (·.size) = some (TX ByteArray.empty mv true sq mm).length) := Lib.hid (by rw [HEl.out]; exact infoTx)
        have HP := Lib.hid (HPost.out ByteArray.empty sq _ (by unfold akH; rw [if_neg (by simp)]) (by unfold akS; rw [if_pos ⟨rfl, HK.out⟩]) HFz.out.bel)
        clear HPost
        generalize TX ByteArray.empty mv true sq mm = DE at *
        go_wp2_with (first
          | (refine wpList_load_mid rfl _ _ rfl w.heap.size 0 rfl DE _ HXe.out Try.underlying68 rfl HSz2.out ?_)
          | (refine wpList_store_mid rfl _ _ _ rfl (w.heap.size + 1) 0 DE.toArray rfl rfl HFz.out.there HFz.out.size HFz.out.one ?_))
        refine bodyPost_ret (results_cell_row rfl _ _ (w.heap.size + 1) _ _ _ _ rfl HFz.out.stored Try.underlying68 rfl HFz.out.size) rfl ?_
        exact HP.out
  · have HX := HX2
    have HOx := HO2
    have HBx := HB2
    clear HX2 HO2 HB2
    go_upto_region 3 with (fail)
    clear hc0
    generalize w2 = wx at *
    have HA := Lib.hid (HTA.out hd sq HQl.out wx HX.out)
    have hc3 : wx.cell? ⟨w.heap.size, 3, none⟩ = some (.bool hs) := HA.out.c3
    have hc4 : wx.cell? ⟨w.heap.size, 4, none⟩ = some (.int .i64 k) := HSq.out wx HA.out.sq
    clear HA
    cases hs
    · have HTh : Hid (wx.there w.heap.size 4 sq0.toArray.size) := Lib.hid (by show wx.there w.heap.size 4 sq0.length; rw [HS0l.out]; exact tx_there HX.out (by omega))
      have HSo := Lib.hid (all_oneCell_toArray HS01.out)
      have hx2 := HLS.out hd wx HX.out
      have ho2 := row_apart (b := w.heap.size + 1) (E := w.heap.size) (by omega) sq0 4 wx HOx.out
      have hb2 := below_cells (B := w.heap.size) (Nat.le_refl _) sq0 4 wx HBx.out
      clear HX HOx HBx
      have HX := Lib.hid hx2
      have HOx := Lib.hid ho2
      have HBx := Lib.hid hb2
      clear hx2 ho2 hb2
      go_upto_region 5 with (refine wpList_store_mid rfl _ _ _ rfl w.heap.size 4 sq0.toArray rfl rfl HTh.out HSz.out HSo.out ?_)
      change Code.wp _ _ _ _ (wx.setCells w.heap.size 4 sq0)
      generalize wx.setCells w.heap.size 4 sq0 = wy at *
      have HXe := Lib.hid (row_range HX.out (HTl.out hd sq0 HS0l.out))
      have HEl := Lib.hid (HTl.out hd sq0 HS0l.out)
      have HFz := Lib.hid (Fin.mkN infoTx (D := TX hd mv false sq0 mm) HEl.out (HT1.out hd sq0 HS01.out) HOx.out HBx.out (show w.heap.size ≤ w.heap.size + 1 by omega))
      have HSz2 : Hid ((Try.prog.info? 68).map (·.size) = some (TX hd mv false sq0 mm).length) := Lib.hid (by rw [HEl.out]; exact infoTx)
      have HP := Lib.hid (HPost.out hd sq0 _ (by unfold akH; rw [if_pos rfl]) (by unfold akS; rw [if_neg (by simp)]) HFz.out.bel)
      clear HPost
      generalize TX hd mv false sq0 mm = DE at *
      go_wp2_with (first
        | (refine wpList_load_mid rfl _ _ rfl w.heap.size 0 rfl DE _ HXe.out Try.underlying68 rfl HSz2.out ?_)
        | (refine wpList_store_mid rfl _ _ _ rfl (w.heap.size + 1) 0 DE.toArray rfl rfl HFz.out.there HFz.out.size HFz.out.one ?_))
      refine bodyPost_ret (results_cell_row rfl _ _ (w.heap.size + 1) _ _ _ _ rfl HFz.out.stored Try.underlying68 rfl HFz.out.size) rfl ?_
      exact HP.out
    · by_cases hk : k = 0
      · have hk0 : (k == 0) = true := by simp [hk]
        have HK := Lib.hid hk
        clear hk
        have HTh : Hid (wx.there w.heap.size 4 sq0.toArray.size) := Lib.hid (by show wx.there w.heap.size 4 sq0.length; rw [HS0l.out]; exact tx_there HX.out (by omega))
        have HSo := Lib.hid (all_oneCell_toArray HS01.out)
        have hx2 := HLS.out hd wx HX.out
        have ho2 := row_apart (b := w.heap.size + 1) (E := w.heap.size) (by omega) sq0 4 wx HOx.out
        have hb2 := below_cells (B := w.heap.size) (Nat.le_refl _) sq0 4 wx HBx.out
        clear HX HOx HBx
        have HX := Lib.hid hx2
        have HOx := Lib.hid ho2
        have HBx := Lib.hid hb2
        clear hx2 ho2 hb2
        go_upto_region 5 with (refine wpList_store_mid rfl _ _ _ rfl w.heap.size 4 sq0.toArray rfl rfl HTh.out HSz.out HSo.out ?_)
        change Code.wp _ _ _ _ (wx.setCells w.heap.size 4 sq0)
        generalize wx.setCells w.heap.size 4 sq0 = wy at *
        have HXe := Lib.hid (row_range HX.out (HTl.out hd sq0 HS0l.out))
        have HEl := Lib.hid (HTl.out hd sq0 HS0l.out)
        have HFz := Lib.hid (Fin.mkN infoTx (D := TX hd mv true sq0 mm) HEl.out (HT1.out hd sq0 HS01.out) HOx.out HBx.out (show w.heap.size ≤ w.heap.size + 1 by omega))
        have HSz2 : Hid ((Try.prog.info? 68).map (·.size) = some (TX hd mv true sq0 mm).length) := Lib.hid (by rw [HEl.out]; exact infoTx)
        have HP := Lib.hid (HPost.out hd sq0 _ (by unfold akH; rw [if_pos rfl]) (by unfold akS; rw [if_neg (by rintro ⟨-, h⟩; exact h HK.out)]) HFz.out.bel)
        clear HPost
        generalize TX hd mv true sq0 mm = DE at *
        go_wp2_with (first
          | (refine wpList_load_mid rfl _ _ rfl w.heap.size 0 rfl DE _ HXe.out Try.underlying68 rfl HSz2.out ?_)
          | (refine wpList_store_mid rfl _ _ _ rfl (w.heap.size + 1) 0 DE.toArray rfl rfl HFz.out.there HFz.out.size HFz.out.one ?_))
        refine bodyPost_ret (results_cell_row rfl _ _ (w.heap.size + 1) _ _ _ _ rfl HFz.out.stored Try.underlying68 rfl HFz.out.size) rfl ?_
        exact HP.out
      · have hk0 : (k == 0) = false := by simp [hk]
        have HK := Lib.hid hk
        clear hk
        go_upto_region 5 with (fail)
        have HXe := Lib.hid (row_range HX.out (HTl.out hd sq HQl.out))
        have HEl := Lib.hid (HTl.out hd sq HQl.out)
        have HFz := Lib.hid (Fin.mkN infoTx (D := TX hd mv true sq mm) HEl.out (HT1.out hd sq HQ1.out) HOx.out HBx.out (show w.heap.size ≤ w.heap.size + 1 by omega))
        have HSz2 : Hid ((Try.prog.info? 68).map (·.size) = some (TX hd mv true sq mm).length) := Lib.hid (by rw [HEl.out]; exact infoTx)
        have HP := Lib.hid (HPost.out hd sq _ (by unfold akH; rw [if_pos rfl]) (by unfold akS; rw [if_pos ⟨rfl, HK.out⟩]) HFz.out.bel)
        clear HPost
        generalize TX hd mv true sq mm = DE at *
        go_wp2_with (first
          | (refine wpList_load_mid rfl _ _ rfl w.heap.size 0 rfl DE _ HXe.out Try.underlying68 rfl HSz2.out ?_)
          | (refine wpList_store_mid rfl _ _ _ rfl (w.heap.size + 1) 0 DE.toArray rfl rfl HFz.out.there HFz.out.size HFz.out.one ?_))
        refine bodyPost_ret (results_cell_row rfl _ _ (w.heap.size + 1) _ _ _ _ rfl HFz.out.stored Try.underlying68 rfl HFz.out.size) rfl ?_
        exact HP.out
end Go.Proofs.Ytmcmapgllaopmaa.Cd
end

section
namespace Go.Proofs.Ytmcmapgllaopmaa.Cd
open Go.RowKit
set_option linter.unusedVariables false
def fitB (x m : Int) : Bool := decide (0 ≤ x ∧ x ≤ m)
theorem fits_any (x m : Int) (w : World) :
    Calls Try.prog 95 #[.int .i64 x, .int .i64 m] w fun e w' => e = .returned (.bool (fitB x m)) ∧ w = w' := by
  by_cases h0 : 0 ≤ x
  · by_cases h1 : x ≤ m
    · have HE : Hid (fitB x m = true) := Lib.hid (by simp [fitB, h0, h1])
      have d0 : decide (0 ≤ x) = true := by simp [h0]
      have d1 : decide (x ≤ m) = true := by simp [h1]
      go_enter Try.func95, Try.ntmps95
      go_wp2
      go_ret
      exact ⟨by rw [HE.out]; rfl, rfl⟩
    · have HE : Hid (fitB x m = false) := Lib.hid (by simp [fitB, h1])
      have d0 : decide (0 ≤ x) = true := by simp [h0]
      have d1 : decide (x ≤ m) = false := by simp; omega
      go_enter Try.func95, Try.ntmps95
      go_wp2
      go_ret
      exact ⟨by rw [HE.out]; rfl, rfl⟩
  · have HE : Hid (fitB x m = false) := Lib.hid (by simp [fitB, h0])
    have d0 : decide (0 ≤ x) = false := by simp; omega
    go_enter Try.func95, Try.ntmps95
    go_wp2
    go_ret
    exact ⟨by rw [HE.out]; rfl, rfl⟩
/-- do the numbers of a sequence fit? -/
def tdB (ts : List Td) : Bool := ts.all (fun t => fitB t.dd 255)
def nfB (ts : List Td) (k dn md : Int) : Bool := tdB ts && (fitB k 255 && (fitB dn 65535 && fitB md 65535))
theorem tdB_take (ts : List Td) (k : Nat) (hk : k < ts.length) : tdB (ts.take (k + 1)) = (tdB (ts.take k) && fitB (ts.getD k default).dd 255) := by
  rw [take_snocI ts k hk]
  simp [tdB]
theorem tdB_no (ts : List Td) (k : Nat) (hk : k < ts.length) (h : fitB (ts.getD k default).dd 255 = false) : tdB ts = false := by
  unfold tdB
  rw [List.all_eq_false]
  exact ⟨_, getD_memI hk, by rw [h]; decide⟩
theorem zeroTd (w : World) : (zeroValue 84).run Try.prog w = .ok (.agg (Td.cells ⟨0, List.replicate 32 0⟩).toArray) w := by kernel_rfl
set_option maxRecDepth 100000 in
set_option maxHeartbeats 2000000 in
theorem numbersFit_any (G : Nat) (k : Int) (br : ByteArray) (og cu : List Int) (A : Option Addr) (n C : Nat) (ts : List Td) (dn md : Int) (st : Bool) (w : World) (ho : og.length = 32) (hc : cu.length = 32) (hT : RdT G w A n C ts) (hG : G ≤ w.heap.size) (hn : n ≤ 1000000000) :
    Calls Try.prog 69 #[.agg (sqV k br og cu (.slice A n C) dn md st).toArray] w fun e w' => e = .returned (.bool (nfB ts k dn md)) ∧ Below w.heap.size w w' := by
  have hb1 := (Below.refl w.heap.size w).alloc (Nat.le_refl _) (.cells (sqV k br og cu (.slice A n C) dn md st).toArray 65)
  have hr1 := row_newL w (sqV k br og cu (.slice A n C) dn md st) 65 70 (sqV_len ho hc)
  have HSa := Lib.hid (sq_at ho hc (row_range hr1 (sqV_len ho hc)))
  have HT := Lib.hid (hT.below hb1 hG)
  have HB1 := Lib.hid hb1
  have hXl := hr1.lt
  have hTl : ts.length = n := by have := hT.rd.len; simpa using this
  have HTl := Lib.hid hTl
  have hcap := hT.rd.cap
  have hmax := hT.rd.max
  have hz := zeroTd
  have HZl : Hid ((Td.cells ⟨0, List.replicate 32 0⟩).toArray.size = 33) := Lib.hid (by simp [Td.cells, bv])
  generalize hZ : (Td.cells ⟨0, List.replicate 32 0⟩).toArray = Z at *
  generalize hCM : sqV k br og cu (.slice A n C) dn md st = CM at *
  have HPost : Hid (∀ (b : Bool) (w' : World), b = nfB ts k dn md → Below w.heap.size w w' → ((fun e w' => e = Ending.returned (.bool (nfB ts k dn md)) ∧ Below w.heap.size w w') (Ending.returned (.bool b)) w')) := Lib.hid (fun b w' e hb => by subst e; exact ⟨rfl, hb⟩)
  generalize hPD : (fun e w' => e = Ending.returned (.bool (nfB ts k dn md)) ∧ Below w.heap.size w w') = PO at *
  clear hPD hZ hT hb1 hr1 hTl ho hc hCM
  go_enter Try.func69, Try.ntmps69
  go_upto_region 1 with (fail)
  generalize w.alloc (.cells CM.toArray 65) = wA at *
  have hGA : G ≤ wA.heap.size := by omega
  have hc70 : wA.cell? ⟨w.heap.size, 4 + 62, none⟩ = some (.slice A n C) := by have := HSa.out.td; simpa using this
  have hc66 : wA.cell? ⟨w.heap.size, 66, none⟩ = some (.slice A n C) := hc70
  clear hc70
  go_wp2_with fail
  clear hc66
  go_loopw [8] (fun i wr => ∃ (j : Nat), i = .int .i64 j ∧ j ≤ n ∧ Hid (tdB (ts.take j) = true) ∧ Hid (Below wA.heap.size wA wr)) (fun i _ => n - (intOf i).toNat)
  case atStart => exact ⟨0, rfl, Nat.zero_le _, Lib.hid rfl, Lib.hid (Below.refl _ _)⟩
  case round =>
    obtain ⟨j, rfl, hj, HF, HB⟩ := hrel
    have HBw := Lib.hid (HB1.out.trans (HB.out.mono (by omega)))
    by_cases hlt : j < n
    · have hTr := HT.out.below HB.out hGA
      obtain ⟨g, o, rfl, hgl, hcc⟩ := hTr.rd.cell (by omega)
      obtain ⟨t, ht⟩ : ∃ t, t = ts.getD j default := ⟨_, rfl⟩
      have hrg := hcc j hlt
      rw [map_getD _ (by rw [HTl.out]; exact hlt), ← ht] at hrg
      have htm : t ∈ ts := by rw [ht]; exact getD_memI (by rw [HTl.out]; exact hlt)
      have htl := Td.len (hTr.ok t htm)
      have HRg := Lib.hid hrg
      have HTs : Hid ((Try.prog.info? 84).map (·.size) = some t.cells.length) := Lib.hid (by rw [htl]; exact infoTd)
      obtain ⟨hf, hrn⟩ := lay_new wr 84 33 Z t.cells infoTd HZl.out htl t.one
      have hc0 := (rg_cons hrn).1
      have HF2 := Lib.hid hf
      have HB4 := Lib.hid (HB.out.trans (hf.bel.mono HB.out.size))
      have hst := tdB_take ts j (by rw [HTl.out]; exact hlt)
      rw [HF.out, ← ht, Bool.true_and] at hst
      have HSt := Lib.hid hst
      have hno := tdB_no ts j (by rw [HTl.out]; exact hlt)
      rw [← ht] at hno
      have HNo := Lib.hid hno
      have hj0 : (0 : Int) ≤ (j : Int) := by omega
      have hj1 : (j : Int) < (n : Int) := by omega
      clear hTr hcc hrg htl hf hrn hst hno ht htm HF HBw
      obtain ⟨dd, hdd⟩ : ∃ dd, dd = t.dd := ⟨_, rfl⟩
      rw [← hdd] at hc0 HSt HNo
      clear hdd
      generalize t.cells = TC at *
      go_upto_region 4 with (first
        | (refine wpList_load_mid rfl _ _ rfl g (o + j * 33) rfl TC _ HRg.out Try.underlying84 rfl HTs.out ?_)
        | (refine wpList_store_mid rfl _ _ _ rfl wr.heap.size 0 TC.toArray rfl rfl HF2.out.there HF2.out.size HF2.out.one ?_))
      change Code.wp _ _ _ _ ((wr.alloc (.cells Z 84)).setCells wr.heap.size 0 TC)
      clear HF2 HRg HTs
      generalize (wr.alloc (.cells Z 84)).setCells wr.heap.size 0 TC = w4 at *
      generalize wr.heap.size = X at *
      have HFi := Lib.hid (fits_any dd 255 w4)
      cases hfb : fitB dd 255
      · rw [hfb] at HFi HSt
        have HNf := Lib.hid (HNo.out hfb)
        clear hfb HNo
        go_wp2_with fail
        refine HFi.out.mono ?_
        rintro e w' ⟨rfl, rfl⟩
        go_wp2_with fail
        exact HPost.out false _ (by unfold nfB; rw [HNf.out]; rfl) (HB1.out.trans (HB4.out.mono (by omega)))
      · rw [hfb] at HFi HSt
        clear hfb HNo
        go_wp2_with fail
        refine HFi.out.mono ?_
        rintro e w' ⟨rfl, rfl⟩
        go_wp2_with fail
        go_roundw
        case rel => exact ⟨j + 1, by go_num, by omega, HSt, HB4⟩
        case measure => simp [intOf]; omega
    · have ej : j = n := by omega
      have HTd : Hid (tdB ts = true) := Lib.hid (by
        have h := HF.out
        rw [ej, List.take_of_length_le (by rw [HTl.out]; exact Nat.le_refl _)] at h
        exact h)
      have hd2 : decide ((j : Int) < (n : Int)) = false := by simp; omega
      have hck : wr.cell? ⟨w.heap.size, 0, none⟩ = some (.int .i64 k) := (HB.out.cell (p := ⟨w.heap.size, 0, none⟩) hXl).trans HSa.out.c0
      have hcd : wr.cell? ⟨w.heap.size, 67, none⟩ = some (.int .i64 dn) := (HB.out.cell (p := ⟨w.heap.size, 67, none⟩) hXl).trans (by have := HSa.out.dn; simpa using this)
      have hcm : wr.cell? ⟨w.heap.size, 68, none⟩ = some (.int .i64 md) := (HB.out.cell (p := ⟨w.heap.size, 68, none⟩) hXl).trans (by have := HSa.out.md; simpa using this)
      have HF1 := Lib.hid (fits_any k 255 wr)
      have HF2 := Lib.hid (fits_any dn 65535 wr)
      have HF3 := Lib.hid (fits_any md 65535 wr)
      clear HF
      cases h1 : fitB k 255
      · have HE : Hid (nfB ts k dn md = false) := Lib.hid (by unfold nfB; rw [h1]; simp)
        rw [h1] at HF1
        clear h1
        go_wp2_with fail
        refine HF1.out.mono ?_
        rintro e w' ⟨rfl, rfl⟩
        go_wp2_with fail
        exact HPost.out false _ HE.out.symm HBw.out
      · rw [h1] at HF1
        cases h2 : fitB dn 65535
        · have HE : Hid (nfB ts k dn md = false) := Lib.hid (by unfold nfB; rw [h2]; simp)
          rw [h2] at HF2
          clear h1 h2
          go_wp2_with fail
          refine HF1.out.mono ?_
          rintro e w' ⟨rfl, rfl⟩
          go_wp2_with fail
          refine HF2.out.mono ?_
          rintro e w' ⟨rfl, rfl⟩
          go_wp2_with fail
          exact HPost.out false _ HE.out.symm HBw.out
        · rw [h2] at HF2
          cases h3 : fitB md 65535
          · have HE : Hid (nfB ts k dn md = false) := Lib.hid (by unfold nfB; rw [h3]; simp)
            rw [h3] at HF3
            clear h1 h2 h3
            go_wp2_with fail
            refine HF1.out.mono ?_
            rintro e w' ⟨rfl, rfl⟩
            go_wp2_with fail
            refine HF2.out.mono ?_
            rintro e w' ⟨rfl, rfl⟩
            go_wp2_with fail
            refine HF3.out.mono ?_
            rintro e w' ⟨rfl, rfl⟩
            go_wp2_with fail
            exact HPost.out false _ HE.out.symm HBw.out
          · have HE : Hid (nfB ts k dn md = true) := Lib.hid (by unfold nfB; rw [h1, h2, h3, HTd.out]; rfl)
            rw [h3] at HF3
            clear h1 h2 h3
            go_wp2_with fail
            refine HF1.out.mono ?_
            rintro e w' ⟨rfl, rfl⟩
            go_wp2_with fail
            refine HF2.out.mono ?_
            rintro e w' ⟨rfl, rfl⟩
            go_wp2_with fail
            refine HF3.out.mono ?_
            rintro e w' ⟨rfl, rfl⟩
            go_wp2_with fail
            exact HPost.out true _ HE.out.symm HBw.out
end Go.Proofs.Ytmcmapgllaopmaa.Cd
end

section
namespace Go.Proofs.Ytmcmapgllaopmaa.Cd
open Go.RowKit
set_option linter.unusedVariables false
def mlB (m : Mv) : Bool := decide (255 < m.nm.size) || decide (65535 < m.wy.size)
/-- is a text of a transaction too long? -/
def lgB (ms : List Mv) (hd br : ByteArray) : Bool := ms.any mlB || (decide (255 < hd.size) || decide (255 < br.size))
theorem mlB_take (ms : List Mv) (k : Nat) (hk : k < ms.length) : (ms.take (k + 1)).any mlB = ((ms.take k).any mlB || mlB (ms.getD k default)) := by
  rw [take_snocI ms k hk]
  simp
theorem mlB_yes (ms : List Mv) (k : Nat) (hk : k < ms.length) (h : mlB (ms.getD k default) = true) : ms.any mlB = true := by
  rw [List.any_eq_true]
  exact ⟨_, getD_memI hk, h⟩
theorem zeroMv (w : World) : (zeroValue 126).run Try.prog w = .ok (.agg (Mv.cells ⟨ByteArray.empty, List.replicate 32 0, List.replicate 32 0, ByteArray.empty⟩).toArray) w := by kernel_rfl
theorem zeroMy (w : World) : (zeroValue 128).run Try.prog w = .ok (.agg (My.cells ⟨List.replicate 32 0, none, 0, 0, []⟩).toArray) w := by kernel_rfl
/-- a move's parts -/
structure MvAt (w : World) (b : Nat) (m : Mv) : Prop where
  nm : w.cell? ⟨b, 0, none⟩ = some (.string m.nm)
  od : w.rangeAt b 1 (bv m.od)
  nw : w.rangeAt b 33 (bv m.nw)
  wy : w.cell? ⟨b, 65, none⟩ = some (.string m.wy)
theorem mv_at {w : World} {b : Nat} {m : Mv} (h1 : m.od.length = 32) (h2 : m.nw.length = 32) (h : w.rangeAt b 0 m.cells) : MvAt w b m := by
  have e0 := rg_cons h
  have e1 := rg_app e0.2
  have e2 := rg_app e1.2
  have e3 := rg_cons e2.2
  have e4 := e2.1
  have e5 := e3.1
  simp only [bv_len, h1, h2] at e4 e5
  exact ⟨e0.1, by simpa using e1.1, by simpa using e4, by simpa using e5⟩
structure MyAt (w : World) (b : Nat) (y : My) : Prop where
  key : w.rangeAt b 0 (bv y.key)
  data : w.cell? ⟨b, 32, none⟩ = some (.slice y.A y.n y.C)
theorem my_at {w : World} {b : Nat} {y : My} (h1 : y.key.length = 32) (h : w.rangeAt b 0 y.cells) : MyAt w b y := by
  have e1 := rg_app h
  have e2 := rg_cons e1.2
  have e3 := e2.1
  simp only [bv_len, h1] at e3
  exact ⟨e1.1, by simpa using e3⟩
set_option maxRecDepth 100000 in
set_option maxHeartbeats 4000000 in
theorem hasLong_any (G : Nat) (hh : Bool) (hd : ByteArray) (A : Option Addr) (n C : Nat) (ms : List Mv) (hs : Bool) (k : Int) (br : ByteArray) (og cu : List Int) (td : Value) (dn md : Int) (st : Bool) (B : Option Addr) (m D : Nat) (ys : List My) (w : World)
    (ho : og.length = 32) (hc : cu.length = 32) (hM : RdM G w A n C ms) (hY : RdY G w B m D ys) (hG : G ≤ w.heap.size) (hn : n ≤ 1000000000) (hm : m ≤ 1000000000) (hhd : hd.size ≤ 140737488351232) (hbr : br.size ≤ 140737488351232) :
    Calls Try.prog 68 #[.agg (txV hh hd (.slice A n C) hs (sqV k br og cu td dn md st) (.slice B m D)).toArray] w fun e w' => e = .returned (.bool (lgB ms hd br)) ∧ Below w.heap.size w w' := by
  have hql := sqV_len (k := k) (br := br) (td := td) (dn := dn) (md := md) (st := st) ho hc
  have hb1 := (Below.refl w.heap.size w).alloc (Nat.le_refl _) (.cells (txV hh hd (.slice A n C) hs (sqV k br og cu td dn md st) (.slice B m D)).toArray 68)
  have hr1 := row_newL w (txV hh hd (.slice A n C) hs (sqV k br og cu td dn md st) (.slice B m D)) 68 75 (txV_len hql)
  have hta := tx_at hql (row_range hr1 (txV_len hql))
  have HBr := Lib.hid (sq_at ho hc hta.sq).c1
  have HTa := Lib.hid hta
  have HM := Lib.hid (hM.below hb1 hG)
  have HY := Lib.hid (hY.below hb1 (Nat.le_refl _) hG)
  have HB1 := Lib.hid hb1
  have hXl := hr1.lt
  have HMl : Hid (ms.length = n) := Lib.hid (by have := hM.rd.len; simpa using this)
  have HYl : Hid (ys.length = m) := Lib.hid (by have := hY.rd.len; simpa using this)
  have hcap := hM.rd.cap
  have hmax := hM.rd.max
  have hcap2 := hY.rd.cap
  have hmax2 := hY.rd.max
  have hz1 := zeroMv
  have hz2 := zeroMy
  have HZl : Hid ((Mv.cells ⟨ByteArray.empty, List.replicate 32 0, List.replicate 32 0, ByteArray.empty⟩).toArray.size = 66) := Lib.hid (by simp [Mv.cells, bv])
  have HUl : Hid ((My.cells ⟨List.replicate 32 0, none, 0, 0, []⟩).toArray.size = 33) := Lib.hid (by simp [My.cells, bv])
  generalize (Mv.cells ⟨ByteArray.empty, List.replicate 32 0, List.replicate 32 0, ByteArray.empty⟩).toArray = Z at *
  generalize (My.cells ⟨List.replicate 32 0, none, 0, 0, []⟩).toArray = U at *
  have HPost : Hid (∀ (b : Bool) (w' : World), b = lgB ms hd br → Below w.heap.size w w' → ((fun e w' => e = Ending.returned (.bool (lgB ms hd br)) ∧ Below w.heap.size w w') (Ending.returned (.bool b)) w')) := Lib.hid (fun b w' e hb => by subst e; exact ⟨rfl, hb⟩)
  generalize hPD : (fun e w' => e = Ending.returned (.bool (lgB ms hd br)) ∧ Below w.heap.size w w') = PO at *
  have hc2 := hta.c2
  have hc74 := hta.mm
  generalize txV hh hd (.slice A n C) hs (sqV k br og cu td dn md st) (.slice B m D) = CM at *
  clear hPD hM hY hb1 hr1 ho hc hql hta
  go_enter Try.func68, Try.ntmps68
  go_upto_region 1 with (fail)
  generalize w.alloc (.cells CM.toArray 68) = wA at *
  have hGA : G ≤ wA.heap.size := by omega
  go_wp2_with fail
  clear hc2
  go_loopw [10] (fun i wr => ∃ (j : Nat), i = .int .i64 j ∧ j ≤ n ∧ Hid ((ms.take j).any mlB = false) ∧ Hid (Below wA.heap.size wA wr)) (fun i _ => n - (intOf i).toNat)
  case atStart => exact ⟨0, rfl, Nat.zero_le _, Lib.hid rfl, Lib.hid (Below.refl _ _)⟩
  case round =>
    obtain ⟨j, rfl, hj, HF, HB⟩ := hrel
    by_cases hlt : j < n
    · have hTr := HM.out.below HB.out hGA
      obtain ⟨g, o, rfl, hgl, hcc⟩ := hTr.rd.cell (by omega)
      obtain ⟨t, ht⟩ : ∃ t, t = ms.getD j default := ⟨_, rfl⟩
      have hrg := hcc j hlt
      rw [map_getD _ (by rw [HMl.out]; exact hlt), ← ht] at hrg
      have htm : t ∈ ms := by rw [ht]; exact getD_memI (by rw [HMl.out]; exact hlt)
      have hok := hTr.ok t htm
      have htl := Mv.len hok.1 hok.2.1
      have HRg := Lib.hid hrg
      have HTs : Hid ((Try.prog.info? 126).map (·.size) = some t.cells.length) := Lib.hid (by rw [htl]; exact infoMv)
      obtain ⟨hf, hrn⟩ := lay_new wr 126 66 Z t.cells infoMv HZl.out htl t.one
      have hat := mv_at hok.1 hok.2.1 hrn
      have hc0 := hat.nm
      have hc65 := hat.wy
      have hsn := hok.2.2.1
      have hsw := hok.2.2.2
      have HF2 := Lib.hid hf
      have HB4 := Lib.hid (HB.out.trans (hf.bel.mono HB.out.size))
      have hst := mlB_take ms j (by rw [HMl.out]; exact hlt)
      rw [HF.out, ← ht, Bool.false_or] at hst
      have hyes := mlB_yes ms j (by rw [HMl.out]; exact hlt)
      rw [← ht] at hyes
      have hml : mlB t = (decide (255 < t.nm.size) || decide (65535 < t.wy.size)) := rfl
      have HSt := Lib.hid hst
      have HYes := Lib.hid hyes
      have HMd := Lib.hid hml
      have hj0 : (0 : Int) ≤ (j : Int) := by omega
      have hj1 : (j : Int) < (n : Int) := by omega
      clear hTr hcc hrg htl hf hrn hst hyes hml ht htm hok hat HF
      obtain ⟨nm, hnm⟩ : ∃ nm, nm = t.nm := ⟨_, rfl⟩
      obtain ⟨wy, hwy⟩ : ∃ wy, wy = t.wy := ⟨_, rfl⟩
      rw [← hnm] at hc0 hsn HMd
      rw [← hwy] at hc65 hsw HMd
      clear hnm hwy
      generalize t.cells = TC at *
      generalize mlB t = mb at *
      go_upto_region 4 with (first
        | (refine wpList_load_mid rfl _ _ rfl g (o + j * 66) rfl TC _ HRg.out Try.underlying126 rfl HTs.out ?_)
        | (refine wpList_store_mid rfl _ _ _ rfl wr.heap.size 0 TC.toArray rfl rfl HF2.out.there HF2.out.size HF2.out.one ?_))
      change Code.wp _ _ _ _ ((wr.alloc (.cells Z 126)).setCells wr.heap.size 0 TC)
      clear HF2 HRg HTs
      generalize (wr.alloc (.cells Z 126)).setCells wr.heap.size 0 TC = w4 at *
      generalize wr.heap.size = X at *
      by_cases g1 : 255 < nm.size
      · have hd1 : decide ((255 : Int) < (nm.size : Int)) = true := by simp; omega
        have HE : Hid (ms.any mlB = true) := Lib.hid (HYes.out (by rw [HMd.out]; simp [g1]))
        go_wp2_with fail
        exact HPost.out true _ (by unfold lgB; rw [HE.out]; rfl) (HB1.out.trans (HB4.out.mono (by omega)))
      · have hd1 : decide ((255 : Int) < (nm.size : Int)) = false := by simp; omega
        by_cases g2 : 65535 < wy.size
        · have hd2 : decide ((65535 : Int) < (wy.size : Int)) = true := by simp; omega
          have HE : Hid (ms.any mlB = true) := Lib.hid (HYes.out (by rw [HMd.out]; simp [g2]))
          go_wp2_with fail
          exact HPost.out true _ (by unfold lgB; rw [HE.out]; rfl) (HB1.out.trans (HB4.out.mono (by omega)))
        · have hd2 : decide ((65535 : Int) < (wy.size : Int)) = false := by simp; omega
          have HSt2 : Hid ((ms.take (j + 1)).any mlB = false) := Lib.hid (by rw [HSt.out, HMd.out]; simp; omega)
          go_wp2_with fail
          go_roundw
          case rel => exact ⟨j + 1, by go_num, by omega, HSt2, HB4⟩
          case measure => simp [intOf]; omega
    · have ej : j = n := by omega
      have HTd : Hid (ms.any mlB = false) := Lib.hid (by
        have h := HF.out
        rw [ej, List.take_of_length_le (by rw [HMl.out]; exact Nat.le_refl _)] at h
        exact h)
      have hd2 : decide ((j : Int) < (n : Int)) = false := by simp; omega
      have hcy : wr.cell? ⟨w.heap.size, 74, none⟩ = some (.slice B m D) := (HB.out.cell (p := ⟨w.heap.size, 74, none⟩) hXl).trans hc74
      clear HF ej
      go_wp2_with fail
      clear hcy
      go_loopw [28] (fun i wr => ∃ (j : Nat), i = .int .i64 j ∧ j ≤ m ∧ Hid (Below wA.heap.size wA wr)) (fun i _ => m - (intOf i).toNat)
      case atStart => exact ⟨0, rfl, Nat.zero_le _, HB⟩
      case round =>
        clear HB
        obtain ⟨j2, rfl, hj2, HB⟩ := hrel
        by_cases hlt2 : j2 < m
        · have hTr := HY.out.below HB.out (Nat.le_refl _) hGA
          obtain ⟨g, o, rfl, hgl, hcc⟩ := hTr.rd.cell (by omega)
          obtain ⟨t, ht⟩ : ∃ t, t = ys.getD j2 default := ⟨_, rfl⟩
          have hrg := hcc j2 hlt2
          rw [map_getD _ (by rw [HYl.out]; exact hlt2), ← ht] at hrg
          have htm : t ∈ ys := by rw [ht]; exact getD_memI (by rw [HYl.out]; exact hlt2)
          have hok := hTr.ok t htm
          have htl := My.len hok.1
          have HRg := Lib.hid hrg
          have HTs : Hid ((Try.prog.info? 128).map (·.size) = some t.cells.length) := Lib.hid (by rw [htl]; exact infoMy)
          obtain ⟨hf, hrn⟩ := lay_new wr 128 33 U t.cells infoMy HUl.out htl t.one
          have hc32 := (my_at hok.1 hrn).data
          have hsn := hok.2.1
          have HF2 := Lib.hid hf
          have HB4 := Lib.hid (HB.out.trans (hf.bel.mono HB.out.size))
          have hj0 : (0 : Int) ≤ (j2 : Int) := by omega
          have hj1 : (j2 : Int) < (m : Int) := by omega
          clear hTr hcc hrg htl hf hrn ht htm hok
          obtain ⟨yA, hyA⟩ : ∃ yA, yA = t.A := ⟨_, rfl⟩
          obtain ⟨yn, hyn⟩ : ∃ yn, yn = t.n := ⟨_, rfl⟩
          obtain ⟨yC, hyC⟩ : ∃ yC, yC = t.C := ⟨_, rfl⟩
          rw [← hyA, ← hyn, ← hyC] at hc32
          rw [← hyn] at hsn
          clear hyA hyn hyC
          generalize t.cells = TC at *
          have hd1 : decide ((4294967295 : Int) < (yn : Int)) = false := by simp; omega
          go_upto_region 10 with (first
            | (refine wpList_load_mid rfl _ _ rfl g (o + j2 * 33) rfl TC _ HRg.out Try.underlying128 rfl HTs.out ?_)
            | (refine wpList_store_mid rfl _ _ _ rfl wr.heap.size 0 TC.toArray rfl rfl HF2.out.there HF2.out.size HF2.out.one ?_))
          change Code.wp _ _ _ _ ((wr.alloc (.cells U 128)).setCells wr.heap.size 0 TC)
          clear HF2 HRg HTs
          generalize (wr.alloc (.cells U 128)).setCells wr.heap.size 0 TC = w4 at *
          generalize wr.heap.size = X at *
          go_wp2_with fail
          go_roundw
          case rel => exact ⟨j2 + 1, by go_num, by omega, HB4⟩
          case measure => simp [intOf]; omega
        · have hd3 : decide ((j2 : Int) < (m : Int)) = false := by simp; omega
          have hch : wr.cell? ⟨w.heap.size, 1, none⟩ = some (.string hd) := (HB.out.cell (p := ⟨w.heap.size, 1, none⟩) hXl).trans HTa.out.c1
          have hcb : wr.cell? ⟨w.heap.size, 5, none⟩ = some (.string br) := (HB.out.cell (p := ⟨w.heap.size, 5, none⟩) hXl).trans HBr.out
          have HBw := Lib.hid (HB1.out.trans (HB.out.mono (by omega)))
          have hse1 : hd.size ≤ 140737488355327 := by omega
          have hse2 : br.size ≤ 140737488355327 := by omega
          by_cases g1 : 255 < hd.size
          · have hd1 : decide ((255 : Int) < (hd.size : Int)) = true := by simp; omega
            go_wp2_with fail
            exact HPost.out true _ (by unfold lgB; simp [g1]) HBw.out
          · have hd1 : decide ((255 : Int) < (hd.size : Int)) = false := by simp; omega
            by_cases g2 : 255 < br.size
            · have hd4 : decide ((255 : Int) < (br.size : Int)) = true := by simp; omega
              go_wp2_with fail
              exact HPost.out true _ (by unfold lgB; simp [g2]) HBw.out
            · have hd4 : decide ((255 : Int) < (br.size : Int)) = false := by simp; omega
              go_wp2_with fail
              exact HPost.out false _ (by unfold lgB; rw [HTd.out]; simp; omega) HBw.out
end Go.Proofs.Ytmcmapgllaopmaa.Cd
end
