/- Texts of one's own, merged: CdEntry, CdParse. -/
import Derived.Test.YtmcmapgllaopmaaMb

section
/- treeReader.entry: one entry is read. -/
namespace Go.Proofs.Ytmcmapgllaopmaa.Cd
open Go.RowKit
set_option linter.unusedVariables false

/-- one entry more, and what failed -/
def EntRet (R : Nat) (A : Option Addr) (L C : Nat) (l : List Int) (at' : Nat) (B ne : Nat) (es : List Fr.Ent) (w : World) (e : Ending) (w' : World) : Prop :=
  e = .returned (.tuple #[]) ∧ (∃ Ae Ce, Tr w' R A L C l (rd1 l at' L).pos (rdF l at' L ne (lastN es)) B Ae (ne + 1) Ce (es ++ [⟨(rd1 l at' L).nm, (rd1 l at' L).k, (rd1 l at' L).id⟩])) ∧ Below R w w'

set_option maxRecDepth 100000 in
set_option maxHeartbeats 4000000 in
theorem entry_any (R : Nat) (A : Option Addr) (L C : Nat) (l : List Int) (at' : Nat) (B : Nat) (Ae : Option Addr) (ne Ce : Nat) (es : List Fr.Ent) (w : World) (h : Tr w R A L C l at' 0 B Ae ne Ce es) (hne : ne ≤ 512) :
    Calls Try.prog 45 #[.pointer (some ⟨R, 0, none⟩)] w (EntRet R A L C l at' B ne es w) := by
  have hRl := h.rdr.row.lt
  have hAp : ∀ x, A = some x → 0 < L → x.block ≠ w.heap.size := fun x hx h0 => by have := (h.rdr.rd.cell x hx).1 h0; omega
  have hby := tkL_one
  have hb1 := tkL_one 0 l at' L h.rdr.rd.len h.rdr.rd.byte
  have hb2 := tkL_one (tkF 0 at' L 1) l (tkA 0 at' L 1) L h.rdr.rd.len h.rdr.rd.byte
  have hm : nv (tkL (tkF 0 at' L 1) l (tkA 0 at' L 1) L 1) = ((rdM l at' L : Nat) : Int) := by
    unfold rdM
    omega
  have hm2 : rdM l at' L ≤ 255 := by omega
  have HM := Lib.hid hm
  have HT0 := Lib.hid h
  have HAp := Lib.hid hAp
  obtain ⟨b10, b11⟩ := hb1
  clear h hAp hby hb2 hm
  obtain ⟨k, hk⟩ : ∃ k, k = nv (tkL 0 l at' L 1) := ⟨_, rfl⟩
  rw [← hk] at b10 b11
  have HKk := Lib.hid hk
  clear hk
  have hz := zeroE
  have hZl : (ent ByteArray.empty 0 (List.replicate 32 0)).toArray.size = 34 := by simp [ent, bv]
  generalize (ent ByteArray.empty 0 (List.replicate 32 0)).toArray = ZE at *
  have HZl := Lib.hid hZl
  clear hZl
  go_enter Try.func45, Try.ntmps45
  go_upto_region 1 with (fail)
  have hbA := (Below.refl w.heap.size w).alloc (Nat.le_refl _) (.cells ZE 87)
  have HRd1 := Lib.hid (HT0.out.rdr.below hbA)
  have HOw1 := Lib.hid (own_keep HT0.out.own hbA)
  have HX1 : Hid (Xr w (w.alloc (.cells ZE 87)) R w.heap.size (fun i => ZE.getD i undef)) := Lib.hid (by
    have hr := row_new w ZE 87
    rw [HZl.out] at hr
    exact ⟨hr, hRl, Nat.le_refl _, ⟨hbA.os, hbA.tape, hbA.output, hbA.size, fun i hi _ => hbA.block i hi⟩⟩)
  have hsX : w.heap.size < (w.alloc (.cells ZE 87)).heap.size := al_lt w _
  clear hbA hz
  generalize w.alloc (.cells ZE 87) = w1 at *
  generalize hX : w.heap.size = X at *
  have HXw := Lib.hid hX
  clear hX
  have HNoR : Hid ((Value.slice Ae ne Ce).ownBlock ≠ some R) := Lib.hid (fun e => by have := (HT0.out.own.lt R e).1; have := HT0.out.hB; omega)
  have HNoX : Hid ((Value.slice Ae ne Ce).ownBlock ≠ some X) := Lib.hid (fun e => by have := (HT0.out.own.lt X e).2; have := HXw.out; omega)
  have HBy := Lib.hid (byte_r R 4 96 A L C l at' 0 _ w1 HRd1.out)
  rw [← HKk.out] at HBy
  go_wp2_with fail
  refine HBy.out.mono ?_
  rintro e w2 ⟨rfl, hR2, hg2⟩
  have HX2 := Lib.hid (HX1.out.grown hg2)
  have HOw2 := Lib.hid (own_grown HOw1.out hg2 HNoR.out)
  have HRd2 := Lib.hid hR2
  have hcX : w2.cell? ⟨X, 1, none⟩ = some (ZE.getD 1 undef) := HX2.out.row.cell (by omega)
  have hfX : w2.frozen? ⟨X, 1, none⟩ = false := HX2.out.row.frozen _
  clear hR2 hg2 HX1 HOw1 HRd1 HBy
  go_upto_region 2 with (fail)
  have HX3 := Lib.hid (HX2.out.set 1 (.int .i64 k))
  have HRd3 := Lib.hid (HRd2.out.setX X 1 (.int .i64 k) (by have := HX2.out.hRX; omega) HAp.out)
  have HOw3 := Lib.hid (own_grown HOw2.out (grown_set w2 X 1 (.int .i64 k)) HNoX.out)
  have HXR := HX2.out.hRX
  clear HX2 HRd2 HOw2 hcX hfX
  generalize w2.setCell ⟨X, 1, none⟩ (.int .i64 k) = w3 at *
  have HNu := Lib.hid (number_r R 4 96 A L C l (tkA 0 at' L 1) (tkF 0 at' L 1) _ 1 w3.drew (HRd3.out.drewN 1) (by omega))
  rw [HM.out] at HNu
  have HXd := Lib.hid (HX3.out.drewN 1)
  have HOd := Lib.hid (show w3.drew.ownsRow B 87 34 (.slice Ae ne Ce) ne (entsV es) from HOw3.out.drew)
  clear HX3 HRd3 HOw3
  obtain ⟨F2, hF2⟩ : ∃ F2, F2 = tkF (tkF 0 at' L 1) (tkA 0 at' L 1) L 1 := ⟨_, rfl⟩
  obtain ⟨A2, hA2⟩ : ∃ A2, A2 = tkA (tkF 0 at' L 1) (tkA 0 at' L 1) L 1 := ⟨_, rfl⟩
  have HF2 := Lib.hid hF2
  have HA2 := Lib.hid hA2
  clear hF2 hA2
  generalize hmm : rdM l at' L = m at *
  have HMm := Lib.hid hmm
  clear hmm
  refine wp_region_noPanic ?_
  refine wp_region_held_drew (S := (fun _ => True)) (by kernel_rfl) ?_ (fun hHeld => ?_)
  · ((try dsimp only); all_goals trivial)
  refine wpAnyH_take (i := 0) (oi := { dst := some 9, op := Op.move (Operand.tmp 0), type := 92, pos := "tree.go:57", after := #[], guard := none }) (v := ?_) rfl (by kernel_rfl) (by kernel_rfl) (by kernel_rfl) (fun _ _ _ h => h) (Or.inl ⟨by rfl, ?_⟩) (by assumption) ?_
  rotate_left 1
  · ((intro w hSw; (try dsimp only at hSw); go_simp) <;> with_reducible rfl)
  (try simp only [Act.put, List.setIfInBounds_toArray, List.set_cons_zero, List.set_cons_succ])
  refine wpAnyH_take (i := 1) (oi := { dst := some 10, op := Op.nilCheck (Operand.tmp 9), type := 0, pos := "tree.go:57", after := #[{ on := 0, ground := Ground.data }], guard := none }) (v := ?_) rfl (by kernel_rfl) (by kernel_rfl) (by kernel_rfl) (fun _ _ _ h => h) (Or.inl ⟨by rfl, ?_⟩) (by assumption) ?_
  rotate_left 1
  · ((intro w hSw; (try dsimp only at hSw); go_simp) <;> with_reducible rfl)
  (try simp only [Act.put, List.setIfInBounds_toArray, List.set_cons_zero, List.set_cons_succ])
  refine wpAnyH_take (i := 2) (oi := { dst := some 11, op := Op.fieldAddr 96 (Operand.tmp 10) 0, type := 0, pos := "tree.go:57", after := #[{ on := 1, ground := Ground.data }], guard := none }) (v := ?_) rfl (by kernel_rfl) (by kernel_rfl) (by kernel_rfl) (fun _ _ _ h => h) (Or.inl ⟨by rfl, ?_⟩) (by assumption) ?_
  rotate_left 1
  · ((intro w hSw; (try dsimp only at hSw); go_simp) <;> with_reducible rfl)
  (try simp only [Act.put, List.setIfInBounds_toArray, List.set_cons_zero, List.set_cons_succ])
  refine wpAnyH_take (i := 3) (oi := { dst := some 12, op := Op.move (Operand.tmp 0), type := 92, pos := "tree.go:57", after := #[], guard := none }) (v := ?_) rfl (by kernel_rfl) (by kernel_rfl) (by kernel_rfl) (fun _ _ _ h => h) (Or.inl ⟨by rfl, ?_⟩) (by assumption) ?_
  rotate_left 1
  · ((intro w hSw; (try dsimp only at hSw); go_simp) <;> with_reducible rfl)
  (try simp only [Act.put, List.setIfInBounds_toArray, List.set_cons_zero, List.set_cons_succ])
  refine wpAnyH_take (i := 4) (oi := { dst := some 13, op := Op.nilCheck (Operand.tmp 12), type := 0, pos := "tree.go:57", after := #[{ on := 3, ground := Ground.data }], guard := none }) (v := ?_) rfl (by kernel_rfl) (by kernel_rfl) (by kernel_rfl) (fun _ _ _ h => h) (Or.inl ⟨by rfl, ?_⟩) (by assumption) ?_
  rotate_left 1
  · ((intro w hSw; (try dsimp only at hSw); go_simp) <;> with_reducible rfl)
  (try simp only [Act.put, List.setIfInBounds_toArray, List.set_cons_zero, List.set_cons_succ])
  refine wpAnyH_take (i := 5) (oi := { dst := some 14, op := Op.fieldAddr 96 (Operand.tmp 13) 0, type := 0, pos := "tree.go:57", after := #[{ on := 4, ground := Ground.data }], guard := none }) (v := ?_) rfl (by kernel_rfl) (by kernel_rfl) (by kernel_rfl) (fun _ _ _ h => h) (Or.inl ⟨by rfl, ?_⟩) (by assumption) ?_
  rotate_left 1
  · ((intro w hSw; (try dsimp only at hSw); go_simp) <;> with_reducible rfl)
  (try simp only [Act.put, List.setIfInBounds_toArray, List.set_cons_zero, List.set_cons_succ])
  refine wpAnyH_ready (rs := [6]) (by kernel_rfl) (by simp) ?_
  refine AllReadyH.cons (o := { dst := some 15, op := Op.call { callee := Callee.value (Operand.func 62), args := #[Operand.tmp 14, Operand.const (Value.int IntKind.i64 1)], argTypes := #[94, 3] }, type := 3, pos := "tree.go:57", after := #[{ on := 5, ground := Ground.data }], guard := none }) rfl (fun K hK => ?_) ?_
  · go_simp
    refine HNu.out.mono ?_
    rintro e w4 ⟨rfl, hR4, hg4⟩
    rw [← HF2.out, ← HA2.out] at hR4
    have HX4 := Lib.hid (HXd.out.grown hg4)
    have HO4 := Lib.hid (own_grown HOd.out hg4 HNoR.out)
    have HTk := Lib.hid (take_any R 4 96 A L C l A2 F2 _ m w4 hR4 (by omega))
    clear hR4 hg4
    (try go_wp2_with fail)
    refine hK.out _ _ ?_ (fun hNew => ?_)
    · ((try dsimp only); all_goals trivial)
    clear hK K hHeld
    have hHeld := hNew
    clear hNew
    (try simp only [Act.put, List.setIfInBounds_toArray, List.set_cons_zero, List.set_cons_succ])
    refine wpAnyH_ready (rs := [7]) (by kernel_rfl) (by simp) ?_
    refine AllReadyH.cons (o := { dst := some 16, op := Op.call { callee := Callee.value (Operand.func 83), args := #[Operand.tmp 11, Operand.tmp 15], argTypes := #[94, 3] }, type := 23, pos := "tree.go:57", after := #[{ on := 2, ground := Ground.data }, { on := 6, ground := Ground.data }, { on := 6, ground := Ground.chain }], guard := none }) rfl (fun K hK => ?_) ?_
    · go_simp
      refine HTk.out.mono ?_
      rintro e w5 ⟨A', C', rfl, hrd, -, hR5, hg5⟩
      have cv := conv_rd hrd
      have HX5 := Lib.hid (HX4.out.grown hg5)
      have HO5 := Lib.hid (own_grown HO4.out hg5 HNoR.out)
      have HR5 := Lib.hid hR5
      have hc5 : w5.cell? ⟨X, 0, none⟩ = some _ := HX5.out.row.cell (i := 0) (by omega)
      have hf5 : w5.frozen? ⟨X, 0, none⟩ = false := HX5.out.row.frozen _
      clear hrd hR5 hg5
      (try go_wp2_with fail)
      refine hK.out _ _ ?_ (fun hNew => ?_)
      · ((try dsimp only); all_goals trivial)
      clear hK K hHeld
      have hHeld := hNew
      clear hNew
      (try simp only [Act.put, List.setIfInBounds_toArray, List.set_cons_zero, List.set_cons_succ])
      refine wpAnyH_ready (rs := [8]) (by kernel_rfl) (by simp) ?_
      refine AllReadyH.cons (o := { dst := some 17, op := Op.convert 23 9 (Operand.tmp 16), type := 9, pos := "tree.go:57", after := #[{ on := 7, ground := Ground.data }], guard := none }) rfl (fun K hK => ?_) ?_
      · go_simp
        refine hK.out _ _ ?_ (fun hNew => ?_)
        · ((try dsimp only); all_goals trivial)
        clear hK K hHeld
        have hHeld := hNew
        clear hNew
        (try simp only [Act.put, List.setIfInBounds_toArray, List.set_cons_zero, List.set_cons_succ])
        refine wpAnyH_take (i := 9) (oi := { dst := some 18, op := Op.fieldAddr 87 (Operand.tmp 2) 0, type := 0, pos := "tree.go:57", after := #[{ on := 0, ground := Ground.phase }, { on := 1, ground := Ground.phase }, { on := 2, ground := Ground.phase }, { on := 3, ground := Ground.phase }, { on := 4, ground := Ground.phase }, { on := 5, ground := Ground.phase }, { on := 6, ground := Ground.phase }, { on := 7, ground := Ground.phase }, { on := 8, ground := Ground.phase }], guard := none }) (v := ?_) rfl (by kernel_rfl) (by kernel_rfl) (by kernel_rfl) (fun _ _ _ h => h) (Or.inl ⟨by rfl, ?_⟩) (by assumption) ?_
        rotate_left 1
        · ((intro w hSw; (try dsimp only at hSw); go_simp) <;> with_reducible rfl)
        (try simp only [Act.put, List.setIfInBounds_toArray, List.set_cons_zero, List.set_cons_succ])
        refine wpAnyH_ready (rs := [10]) (by kernel_rfl) (by simp) ?_
        refine AllReadyH.cons (o := { dst := none, op := Op.store 9 (Operand.tmp 18) (Operand.tmp 17), type := 0, pos := "tree.go:57", after := #[{ on := 9, ground := Ground.data }, { on := 8, ground := Ground.data }, { on := 7, ground := Ground.chain }, { on := 0, ground := Ground.phase }, { on := 1, ground := Ground.phase }, { on := 2, ground := Ground.phase }, { on := 3, ground := Ground.phase }, { on := 4, ground := Ground.phase }, { on := 5, ground := Ground.phase }, { on := 6, ground := Ground.phase }, { on := 7, ground := Ground.phase }, { on := 8, ground := Ground.phase }], guard := none }) rfl (fun K hK => ?_) ?_
        · go_simp
          refine hK.out _ _ ?_ (fun hNew => ?_)
          · ((try dsimp only); all_goals trivial)
          clear hK K hHeld
          have hHeld := hNew
          clear hNew
          (try simp only [Act.put, List.setIfInBounds_toArray, List.set_cons_zero, List.set_cons_succ])
          refine wpAnyH_done (by kernel_rfl) ?_ _
          refine NoPanic.normal ?_
          have HX6 := Lib.hid (HX5.out.set 0 (.string (sb (tkL F2 l A2 L m))))
          have HRd6 := Lib.hid (HR5.out.setX X 0 (.string (sb (tkL F2 l A2 L m))) (by omega) HAp.out)
          have HOw6 := Lib.hid (own_grown HO5.out (grown_set w5 X 0 (.string (sb (tkL F2 l A2 L m)))) HNoX.out)
          clear HX5 HR5 HO5 hc5 hf5 cv
          obtain ⟨nm, hnm⟩ : ∃ nm, nm = sb (tkL F2 l A2 L m) := ⟨_, rfl⟩
          rw [← hnm] at HX6 HRd6 HOw6 ⊢
          have HNm := Lib.hid hnm
          clear hnm
          generalize w5.setCell ⟨X, 0, none⟩ (.string nm) = w6 at *
          obtain ⟨F3, hF3⟩ : ∃ F3, F3 = tkF F2 A2 L m := ⟨_, rfl⟩
          obtain ⟨A3, hA3⟩ : ∃ A3, A3 = tkA F2 A2 L m := ⟨_, rfl⟩
          rw [← hF3, ← hA3] at HRd6
          have HF3 := Lib.hid hF3
          have HA3 := Lib.hid hA3
          clear hF3 hA3
          have HId := Lib.hid (id_r R 4 96 A L C l A3 F3 _ w6 HRd6.out)
          obtain ⟨ids, hids⟩ : ∃ ids, ids = idv (tkL F3 l A3 L 32) := ⟨_, rfl⟩
          rw [← hids] at HId
          have hil : ids.length = 32 := by
            rw [hids]
            refine idv_len _ ?_
            unfold tkL
            split
            · rw [List.length_take]; omega
            · simp
          have HIds := Lib.hid hids
          clear hids
          go_wp2_with fail
          refine HId.out.mono ?_
          rintro e w7 ⟨rfl, hR7, hg7⟩
          have HX7 := Lib.hid (HX6.out.grown hg7)
          have HO7 := Lib.hid (own_grown HOw6.out hg7 HNoR.out)
          have HR7 := Lib.hid hR7
          have hbl : (bv ids).length = 32 := by rw [bv_len, hil]
          have HSz2 : Hid ((Try.prog.info? 37).map (·.size) = some (bv ids).toArray.size) := Lib.hid (by rw [List.size_toArray, hbl]; kernel_rfl)
          have HOne := Lib.hid (all_oneCell_toArray (bv_one ids))
          have HTh : Hid (w7.there X 2 (bv ids).toArray.size) := Lib.hid (fun j hj => by
            rw [List.size_toArray, hbl] at hj
            refine ⟨?_, HX7.out.row.frozen _⟩
            rw [HX7.out.row.cell (show 2 + j < 34 by omega)]; rfl)
          have HX8 : Hid (w7.setCells X 2 (bv ids) |>.rangeAt X 0 (ent nm k ids)) := Lib.hid (fun j v hj => by
            have hl := (List.getElem?_eq_some_iff.1 hj).1
            have hel : (ent nm k ids).length = 34 := by simp [ent, hbl]
            rw [hel] at hl
            rw [Nat.zero_add, (row_lay HX7.out.row 2 (bv ids)).cell hl, layF, hbl, ← hj]
            match j, hl with
            | 0, _ => rfl
            | 1, _ => rfl
            | j + 2, hl =>
              rw [if_pos (by omega)]
              simp [ent, List.getD, hbl, show j < 32 by omega])
          have HR8 := Lib.hid (Rdr.laid (X := X) (by omega) (bv ids) 2 w7 HAp.out HR7.out)
          have HO8 := Lib.hid (own_grown HO7.out (grown_cells w7 X (bv ids) 2) HNoX.out)
          have HB8 : Hid (Below R w (w7.setCells X 2 (bv ids))) := Lib.hid (below_setCells X (by omega) (bv ids) 2 w7 (below_of_grown HX7.out.gr (by have := HXw.out; omega)))
          have hX8 : X < (w7.setCells X 2 (bv ids)).heap.size := (row_lay HX7.out.row 2 (bv ids)).lt
          clear hR7 hg7 HX7 HO7 HX6 HRd6 HOw6 HId HR7 HXd HOd HTk HX4 HO4 HNu
          have HEl : Hid ((ent nm k ids).length = 34) := Lib.hid (by simp [ent, hbl])
          clear hbl
          generalize hDI : bv ids = DI at *
          have HDI := Lib.hid hDI
          clear hDI
          go_upto_region 4 with (refine wpList_store_mid rfl _ _ _ rfl X 2 DI.toArray rfl rfl HTh.out HSz2.out HOne.out ?_)
          change Code.wp _ _ _ _ (w7.setCells X 2 DI)
          clear HTh HSz2 HOne
          generalize w7.setCells X 2 DI = w8 at *
          obtain ⟨F4, hF4⟩ : ∃ F4, F4 = tkF F3 A3 L 32 := ⟨_, rfl⟩
          obtain ⟨A4, hA4⟩ : ∃ A4, A4 = tkA F3 A3 L 32 := ⟨_, rfl⟩
          rw [← hF4, ← hA4] at HR8
          have HF4 := Lib.hid hF4
          have HA4 := Lib.hid hA4
          clear hF4 hA4
          have hc3 : w8.cell? ⟨R, 3, none⟩ = some (.slice Ae ne Ce) := HR8.out.row.cell (i := 3) (by omega)
          have HIl := Lib.hid hil
          have HNs : Hid (nm.size ≤ 140737488355327) := Lib.hid (by
            rw [HNm.out]
            have h1 : (tkL F2 l A2 L m).length ≤ 255 := by
              unfold tkL
              split
              · rw [List.length_take]; omega
              · simp
            have h2 := sb_size (tkL F2 l A2 L m)
            omega)
          have HES : Hid ((Try.prog.info? 87).map (·.size) = some (ent nm k ids).length) := Lib.hid (by rw [HEl.out]; kernel_rfl)
          have hEC : ent nm k ids = (⟨nm, k, ids⟩ : Fr.Ent).cells := rfl
          have HEC := Lib.hid hEC
          clear hEC
          obtain ⟨EL, hEE⟩ : ∃ EL, EL = ent nm k ids := ⟨_, rfl⟩
          have HEE : Hid (ent nm k ids = EL) := Lib.hid hEE.symm
          rw [← hEE] at HX8 HES HEC HEl
          clear hEE hil
          by_cases h512 : ne = 512
          · have hd : ((ne : Int) == 512) = true := by simp [h512]
            obtain ⟨F5, hF5⟩ : ∃ F5, F5 = fl F4 4 := ⟨_, rfl⟩
            have HFl := Lib.hid (fail_any R 4 96 A L C l A4 F4 4 _ w8 HR8.out)
            rw [← hF5] at HFl
            have HF5 : Hid (F5 = if ne = 512 then fl F4 4 else F4) := Lib.hid (by rw [if_pos h512]; exact hF5)
            clear hF5 h512
            go_wp2_with fail
            refine HFl.out.mono ?_
            rintro e w9 ⟨rfl, hR9, hg9⟩
            have HR9 := Lib.hid hR9
            have HO9 := Lib.hid (own_grown HO8.out hg9 HNoR.out)
            have HX9 := Lib.hid (range_grown HX8.out hg9 hX8 (by omega))
            have HB9 := Lib.hid (HB8.out.trans (below_of_grown hg9 (by omega)))
            have hX9 := Nat.lt_of_lt_of_le hX8 hg9.size
            have hc39 : w9.cell? ⟨R, 3, none⟩ = some (.slice Ae ne Ce) := HR9.out.row.cell (i := 3) (by omega)
            clear hR9 hg9 HFl HR8 HO8 HX8 HB8 hX8 hc3
            go_wp2_with fail
            have HPv := Lib.hid (ahd_of HO9.out.drew HT0.out.ids (by omega) HT0.out.hne)
            have HCk := Lib.hid (check_any nm k ids HIl.out HNs.out Ae ne Ce (lastN es) w9.drew HPv.out)
            rw [HEE.out] at HCk
            have dX : Hid (w9.drew.rangeAt X 0 EL) := Lib.hid HX9.out
            have dR := Lib.hid (HR9.out.drewN 1)
            have dC : Hid (w9.drew.cell? ⟨R, 3, none⟩ = some (.slice Ae ne Ce)) := Lib.hid (HR9.out.row.cell (i := 3) (by omega))
            have dO := Lib.hid HO9.out.drew
            have dB : Hid (Below R w w9.drew) := Lib.hid HB9.out.drew
            have hXs : X < w9.drew.heap.size := hX9
            clear HPv HX9 HR9 HO9 HB9 hX9 hd
            obtain ⟨c, hc⟩ : ∃ c, c = ce k nm ids (lastN es) := ⟨_, rfl⟩
            rw [← hc] at HCk
            have HCe := Lib.hid hc
            clear hc
            refine wp_region_noPanic ?_
            refine wp_region_held_drew (S := (fun wS => wS.rangeAt X 0 EL ∧ wS.cell? ⟨R, 3, none⟩ = some (.slice Ae ne Ce))) (by kernel_rfl) ?_ (fun hHeld => ?_)
            · ((try dsimp only); exact ⟨dX.out, dC.out⟩)
            refine wpAnyH_take (i := 0) (oi := { dst := some 34, op := Op.move (Operand.tmp 0), type := 92, pos := "tree.go:62", after := #[], guard := none }) (v := ?_) rfl (by kernel_rfl) (by kernel_rfl) (by kernel_rfl) (fun _ _ _ h => h) (Or.inl ⟨by rfl, ?_⟩) (by assumption) ?_
            rotate_left 1
            · ((intro w hSw; (try dsimp only at hSw); go_simp) <;> with_reducible rfl)
            (try simp only [Act.put, List.setIfInBounds_toArray, List.set_cons_zero, List.set_cons_succ])
            refine wpAnyH_take (i := 1) (oi := { dst := some 35, op := Op.nilCheck (Operand.tmp 34), type := 0, pos := "tree.go:62", after := #[{ on := 0, ground := Ground.data }], guard := none }) (v := ?_) rfl (by kernel_rfl) (by kernel_rfl) (by kernel_rfl) (fun _ _ _ h => h) (Or.inl ⟨by rfl, ?_⟩) (by assumption) ?_
            rotate_left 1
            · ((intro w hSw; (try dsimp only at hSw); go_simp) <;> with_reducible rfl)
            (try simp only [Act.put, List.setIfInBounds_toArray, List.set_cons_zero, List.set_cons_succ])
            refine wpAnyH_take (i := 2) (oi := { dst := some 36, op := Op.fieldAddr 96 (Operand.tmp 35) 0, type := 0, pos := "tree.go:62", after := #[{ on := 1, ground := Ground.data }], guard := none }) (v := ?_) rfl (by kernel_rfl) (by kernel_rfl) (by kernel_rfl) (fun _ _ _ h => h) (Or.inl ⟨by rfl, ?_⟩) (by assumption) ?_
            rotate_left 1
            · ((intro w hSw; (try dsimp only at hSw); go_simp) <;> with_reducible rfl)
            (try simp only [Act.put, List.setIfInBounds_toArray, List.set_cons_zero, List.set_cons_succ])
            refine' wpAnyH_take (i := 3) (oi := { dst := some 37, op := Op.load 87 (Operand.tmp 2), type := 87, pos := "tree.go:62", after := #[], guard := none }) (v := _) rfl (by kernel_rfl) (by kernel_rfl) (by kernel_rfl) (fun _ _ _ h => h) (yieldsIf_load_mid (by rfl) _ _ rfl _ _ rfl EL _ (fun w hSw => hSw.1) Try.underlying87 rfl HES.out) (by assumption) ?_
            (try simp only [Act.put, List.setIfInBounds_toArray, List.set_cons_zero, List.set_cons_succ])
            refine wpAnyH_take (i := 4) (oi := { dst := some 38, op := Op.move (Operand.tmp 0), type := 92, pos := "tree.go:62", after := #[], guard := none }) (v := ?_) rfl (by kernel_rfl) (by kernel_rfl) (by kernel_rfl) (fun _ _ _ h => h) (Or.inl ⟨by rfl, ?_⟩) (by assumption) ?_
            rotate_left 1
            · ((intro w hSw; (try dsimp only at hSw); go_simp) <;> with_reducible rfl)
            (try simp only [Act.put, List.setIfInBounds_toArray, List.set_cons_zero, List.set_cons_succ])
            refine wpAnyH_take (i := 5) (oi := { dst := some 39, op := Op.nilCheck (Operand.tmp 38), type := 0, pos := "tree.go:62", after := #[{ on := 4, ground := Ground.data }], guard := none }) (v := ?_) rfl (by kernel_rfl) (by kernel_rfl) (by kernel_rfl) (fun _ _ _ h => h) (Or.inl ⟨by rfl, ?_⟩) (by assumption) ?_
            rotate_left 1
            · ((intro w hSw; (try dsimp only at hSw); go_simp) <;> with_reducible rfl)
            (try simp only [Act.put, List.setIfInBounds_toArray, List.set_cons_zero, List.set_cons_succ])
            refine wpAnyH_take (i := 6) (oi := { dst := some 40, op := Op.fieldAddr 96 (Operand.tmp 39) 1, type := 0, pos := "tree.go:62", after := #[{ on := 5, ground := Ground.data }], guard := none }) (v := ?_) rfl (by kernel_rfl) (by kernel_rfl) (by kernel_rfl) (fun _ _ _ h => h) (Or.inl ⟨by rfl, ?_⟩) (by assumption) ?_
            rotate_left 1
            · ((intro w hSw; (try dsimp only at hSw); go_simp) <;> with_reducible rfl)
            (try simp only [Act.put, List.setIfInBounds_toArray, List.set_cons_zero, List.set_cons_succ])
            refine wpAnyH_take (i := 7) (oi := { dst := some 41, op := Op.load 22 (Operand.tmp 40), type := 22, pos := "tree.go:62", after := #[{ on := 6, ground := Ground.data }], guard := none }) (v := ?_) rfl (by kernel_rfl) (by kernel_rfl) (by kernel_rfl) (fun _ _ _ h => h) (Or.inl ⟨by rfl, ?_⟩) (by assumption) ?_
            rotate_left 1
            · ((intro w hSw; (try dsimp only at hSw); go_simp) <;> with_reducible rfl)
            (try simp only [Act.put, List.setIfInBounds_toArray, List.set_cons_zero, List.set_cons_succ])
            refine wpAnyH_ready (rs := [8]) (by kernel_rfl) (by simp) ?_
            refine AllReadyH.cons (o := { dst := some 42, op := Op.call { callee := Callee.value (Operand.func 40), args := #[Operand.tmp 37, Operand.tmp 41], argTypes := #[87, 22] }, type := 25, pos := "tree.go:62", after := #[{ on := 3, ground := Ground.data }, { on := 7, ground := Ground.data }], guard := none }) rfl (fun K hK => ?_) ?_
            · go_simp
              refine HCk.out.mono ?_
              rintro e wB ⟨rfl, hb⟩
              have eX := Lib.hid (range_below hb dX.out hXs)
              have eR := Lib.hid (dR.out.below hb)
              have eC : Hid (wB.cell? ⟨R, 3, none⟩ = some (.slice Ae ne Ce)) := Lib.hid (eR.out.row.cell (i := 3) (by omega))
              have eO := Lib.hid (own_keep dO.out hb)
              have eB := Lib.hid (dB.out.trans (hb.mono (by omega)))
              have eXs := Nat.lt_of_lt_of_le hXs hb.size
              clear dX dR dC dO dB hXs hb HCk
              have dX := eX
              have dR := eR
              have dC := eC
              have dO := eO
              have dB := eB
              have hXs := eXs
              clear eX eR eC eO eB eXs
              have HFm := Lib.hid (fail_any R 4 96 A L C l A4 F5 c _ wB dR.out)
              (try go_wp2_with fail)
              refine hK.out _ _ ?_ (fun hNew => ?_)
              · ((try dsimp only); exact ⟨dX.out, dC.out⟩)
              clear hK K hHeld
              have hHeld := hNew
              clear hNew
              (try simp only [Act.put, List.setIfInBounds_toArray, List.set_cons_zero, List.set_cons_succ])
              refine wpAnyH_ready (rs := [9]) (by kernel_rfl) (by simp) ?_
              refine AllReadyH.cons (o := { dst := some 43, op := Op.call { callee := Callee.value (Operand.func 85), args := #[Operand.tmp 36, Operand.tmp 42], argTypes := #[94, 25] }, type := 0, pos := "tree.go:62", after := #[{ on := 2, ground := Ground.data }, { on := 8, ground := Ground.data }, { on := 8, ground := Ground.chain }], guard := none }) rfl (fun K hK => ?_) ?_
              · go_simp
                refine HFm.out.mono ?_
                rintro e wC ⟨rfl, hR, hg⟩
                have eX := Lib.hid (range_grown dX.out hg hXs (by omega))
                have eR := Lib.hid hR
                have eC : Hid (wC.cell? ⟨R, 3, none⟩ = some (.slice Ae ne Ce)) := Lib.hid (eR.out.row.cell (i := 3) (by omega))
                have eO := Lib.hid (own_grown dO.out hg HNoR.out)
                have eB := Lib.hid (dB.out.trans (below_of_grown hg (by omega)))
                have eXs := Nat.lt_of_lt_of_le hXs hg.size
                clear dX dR dC dO dB hXs hR hg HFm
                have dX := eX
                have dR := eR
                have dC := eC
                have dO := eO
                have dB := eB
                have hXs := eXs
                clear eX eR eC eO eB eXs
                (try go_wp2_with fail)
                refine hK.out _ _ ?_ (fun hNew => ?_)
                · ((try dsimp only); exact ⟨dX.out, dC.out⟩)
                clear hK K hHeld
                have hHeld := hNew
                clear hNew
                (try simp only [Act.put, List.setIfInBounds_toArray, List.set_cons_zero, List.set_cons_succ])
                refine wpAnyH_done (by kernel_rfl) ?_ _
                refine NoPanic.normal ?_
                obtain ⟨F6, hF6⟩ : ∃ F6, F6 = fl F5 c := ⟨_, rfl⟩
                rw [← hF6] at dR
                have HF6 := Lib.hid hF6
                clear hF6
                clear hHeld
                go_wp2_with fail
                have hc3 : wC.drew.cell? ⟨R, 3, none⟩ = some (.slice Ae ne Ce) := dC.out
                refine wp_region_noPanic ?_
                refine wp_region_held_drew (S := (fun wS => wS.rangeAt X 0 EL)) (by kernel_rfl) ?_ (fun hHeld => ?_)
                · ((try dsimp only); exact dX.out)
                refine wpAnyH_take (i := 0) (oi := { dst := some 44, op := Op.move (Operand.tmp 0), type := 92, pos := "tree.go:63", after := #[], guard := none }) (v := ?_) rfl (by kernel_rfl) (by kernel_rfl) (by kernel_rfl) (fun _ _ _ h => h) (Or.inl ⟨by rfl, ?_⟩) (by assumption) ?_
                rotate_left 1
                · ((intro w hSw; (try dsimp only at hSw); go_simp) <;> with_reducible rfl)
                (try simp only [Act.put, List.setIfInBounds_toArray, List.set_cons_zero, List.set_cons_succ])
                refine wpAnyH_take (i := 1) (oi := { dst := some 45, op := Op.move (Operand.tmp 0), type := 92, pos := "tree.go:63", after := #[], guard := none }) (v := ?_) rfl (by kernel_rfl) (by kernel_rfl) (by kernel_rfl) (fun _ _ _ h => h) (Or.inl ⟨by rfl, ?_⟩) (by assumption) ?_
                rotate_left 1
                · ((intro w hSw; (try dsimp only at hSw); go_simp) <;> with_reducible rfl)
                (try simp only [Act.put, List.setIfInBounds_toArray, List.set_cons_zero, List.set_cons_succ])
                refine wpAnyH_take (i := 2) (oi := { dst := some 46, op := Op.nilCheck (Operand.tmp 45), type := 0, pos := "tree.go:63", after := #[{ on := 1, ground := Ground.data }], guard := none }) (v := ?_) rfl (by kernel_rfl) (by kernel_rfl) (by kernel_rfl) (fun _ _ _ h => h) (Or.inl ⟨by rfl, ?_⟩) (by assumption) ?_
                rotate_left 1
                · ((intro w hSw; (try dsimp only at hSw); go_simp) <;> with_reducible rfl)
                (try simp only [Act.put, List.setIfInBounds_toArray, List.set_cons_zero, List.set_cons_succ])
                refine wpAnyH_take (i := 3) (oi := { dst := some 47, op := Op.fieldAddr 96 (Operand.tmp 46) 1, type := 0, pos := "tree.go:63", after := #[{ on := 2, ground := Ground.data }], guard := none }) (v := ?_) rfl (by kernel_rfl) (by kernel_rfl) (by kernel_rfl) (fun _ _ _ h => h) (Or.inl ⟨by rfl, ?_⟩) (by assumption) ?_
                rotate_left 1
                · ((intro w hSw; (try dsimp only at hSw); go_simp) <;> with_reducible rfl)
                (try simp only [Act.put, List.setIfInBounds_toArray, List.set_cons_zero, List.set_cons_succ])
                refine' wpAnyH_take (i := 5) (oi := { dst := some 49, op := Op.load 87 (Operand.tmp 2), type := 87, pos := "tree.go:63", after := #[], guard := none }) (v := _) rfl (by kernel_rfl) (by kernel_rfl) (by kernel_rfl) (fun _ _ _ h => h) (yieldsIf_load_mid (by rfl) _ _ rfl _ _ rfl EL _ (fun w hSw => hSw) Try.underlying87 rfl HES.out) (by assumption) ?_
                (try simp only [Act.put, List.setIfInBounds_toArray, List.set_cons_zero, List.set_cons_succ])
                refine wpAnyH_ready (rs := [4, 6]) (by kernel_rfl) (by simp) ?_
                refine AllReadyH.cons (o := { dst := some 48, op := Op.load 22 (Operand.tmp 47), type := 22, pos := "tree.go:63", after := #[{ on := 3, ground := Ground.data }], guard := none }) rfl (fun K hK => ?_) ?_
                · go_simp
                  skip
                  (try go_wp2_with fail)
                  refine hK.out _ _ ?_ (fun hNew => ?_)
                  · ((try dsimp only); first | assumption | exact eXs.out _)
                  clear hK K hHeld
                  have hHeld := hNew
                  clear hNew
                  (try simp only [Act.put, List.setIfInBounds_toArray, List.set_cons_zero, List.set_cons_succ])
                  refine wpAnyH_ready (rs := [6]) (by kernel_rfl) (by simp) ?_
                  refine AllReadyH.cons (o := { dst := some 50, op := Op.buildSlice 22 1 #[(0, Operand.tmp 49)], type := 22, pos := "tree.go:63", after := #[{ on := 5, ground := Ground.data }], guard := none }) rfl (fun K hK => ?_) ?_
                  · refine step_build_ent _ rfl (.tmp 49) rfl EL rfl HEl.out ?_
                    obtain ⟨wA, hwA⟩ : ∃ wA, wA = wC.drew.alloc (.cells EL.toArray 87) := ⟨_, rfl⟩
                    have hA := (Below.refl wC.drew.heap.size wC.drew).alloc (Nat.le_refl _) (.cells EL.toArray 87)
                    have aXs0 := al_lt wC.drew (.cells EL.toArray 87)
                    have aN0 := new_ent wC.drew ⟨nm, k, ids⟩ 87
                    rw [← HEC.out] at aN0
                    rw [← hwA] at hA aXs0 aN0
                    change K _ (wC.drew.alloc _)
                    rw [← hwA]
                    clear hwA
                    have aX : wA.rangeAt X 0 EL := range_below hA dX.out hXs
                    have hcA : wA.cell? ⟨R, 3, none⟩ = some (.slice Ae ne Ce) := (hA.cell (p := ⟨R, 3, none⟩) (Nat.lt_trans HXR hXs)).trans dC.out
                    have aO := Lib.hid (own_keep dO.out.drew hA)
                    have aN := Lib.hid aN0
                    have aR := Lib.hid ((dR.out.drewN 1).below hA)
                    have aB : Hid (Below R w wA) := Lib.hid (dB.out.drew.trans (hA.mono (Nat.le_of_lt (Nat.lt_trans HXR hXs))))
                    have aXs : X < wA.heap.size := Nat.lt_trans hXs aXs0
                    have aBs : Hid (B ≤ wA.heap.size) := Lib.hid (Nat.le_trans HT0.out.hBs aB.out.size)
                    clear hA aXs0 aN0
                    generalize wC.drew.heap.size = YA at *
                    (try go_wp2_with fail)
                    refine hK.out _ _ ?_ (fun hNew => ?_)
                    · ((try dsimp only); first | assumption | exact eXs.out _)
                    clear hK K hHeld
                    have hHeld := hNew
                    clear hNew
                    (try simp only [Act.put, List.setIfInBounds_toArray, List.set_cons_zero, List.set_cons_succ])
                    refine wpAnyH_ready (rs := [7]) (by kernel_rfl) (by simp) ?_
                    refine AllReadyH.cons (o := { dst := some 51, op := Op.call { callee := Callee.builtin Builtin.append, args := #[Operand.tmp 48, Operand.tmp 50], argTypes := #[22, 22] }, type := 22, pos := "tree.go:63", after := #[{ on := 4, ground := Ground.data }, { on := 6, ground := Ground.data }], guard := none }) rfl (fun K hK => ?_) ?_
                    · refine step_append_ent _ rfl (.tmp 48) (.tmp 50) rfl B (.slice Ae ne Ce) ne es rfl aO.out _ ⟨nm, k, ids⟩ rfl (fun j u hj => aN.out j u (by rw [HEC.out]; exact hj)) (by rw [← HEC.out]; exact HEl.out) (by omega) aBs.out ?_
                      intro A9 C9 wE hoE hgE
                      have eX : wE.rangeAt X 0 EL := range_grownO aX hgE aXs HNoX.out
                      have eB : Below B wA wE := (Below.refl B wA).grown hgE aBs.out (fun j hj => (aO.out.lt j hj).1)
                      have eR := Lib.hid (aR.out.belowB eB HT0.out.hB HT0.out.hAB)
                      have eW : Hid (Below R w wE) := Lib.hid (aB.out.trans (eB.mono (Nat.le_of_lt HT0.out.hB)))
                      have eO := Lib.hid hoE
                      have hcE : wE.cell? ⟨R, 3, none⟩ = some (.slice Ae ne Ce) := eR.out.row.cell (i := 3) (by omega)
                      have hfE : wE.frozen? ⟨R, 3, none⟩ = false := eR.out.row.frozen _
                      have eXs : Hid (∀ v, (wE.setCell ⟨R, 3, none⟩ v).rangeAt X 0 EL) := Lib.hid (fun v => range_grown eX (grown_set wE R 3 v) (Nat.lt_of_lt_of_le aXs hgE.size) (by omega))
                      clear hcA aX hoE hgE eB
                      (try go_wp2_with fail)
                      refine hK.out _ _ ?_ (fun hNew => ?_)
                      · ((try dsimp only); first | assumption | exact eXs.out _)
                      clear hK K hHeld
                      have hHeld := hNew
                      clear hNew
                      (try simp only [Act.put, List.setIfInBounds_toArray, List.set_cons_zero, List.set_cons_succ])
                      refine wpAnyH_take (i := 8) (oi := { dst := some 52, op := Op.nilCheck (Operand.tmp 44), type := 0, pos := "tree.go:63", after := #[{ on := 0, ground := Ground.data }, { on := 0, ground := Ground.phase }, { on := 1, ground := Ground.phase }, { on := 2, ground := Ground.phase }, { on := 3, ground := Ground.phase }, { on := 4, ground := Ground.phase }, { on := 5, ground := Ground.phase }, { on := 6, ground := Ground.phase }, { on := 7, ground := Ground.phase }], guard := none }) (v := ?_) rfl (by kernel_rfl) (by kernel_rfl) (by kernel_rfl) (fun _ _ _ h => h) (Or.inl ⟨by rfl, ?_⟩) (by assumption) ?_
                      rotate_left 1
                      · ((intro w hSw; (try dsimp only at hSw); go_simp) <;> with_reducible rfl)
                      (try simp only [Act.put, List.setIfInBounds_toArray, List.set_cons_zero, List.set_cons_succ])
                      refine wpAnyH_take (i := 9) (oi := { dst := some 53, op := Op.fieldAddr 96 (Operand.tmp 52) 1, type := 0, pos := "tree.go:63", after := #[{ on := 8, ground := Ground.data }, { on := 0, ground := Ground.phase }, { on := 1, ground := Ground.phase }, { on := 2, ground := Ground.phase }, { on := 3, ground := Ground.phase }, { on := 4, ground := Ground.phase }, { on := 5, ground := Ground.phase }, { on := 6, ground := Ground.phase }, { on := 7, ground := Ground.phase }], guard := none }) (v := ?_) rfl (by kernel_rfl) (by kernel_rfl) (by kernel_rfl) (fun _ _ _ h => h) (Or.inl ⟨by rfl, ?_⟩) (by assumption) ?_
                      rotate_left 1
                      · ((intro w hSw; (try dsimp only at hSw); go_simp) <;> with_reducible rfl)
                      (try simp only [Act.put, List.setIfInBounds_toArray, List.set_cons_zero, List.set_cons_succ])
                      refine wpAnyH_ready (rs := [10]) (by kernel_rfl) (by simp) ?_
                      refine AllReadyH.cons (o := { dst := none, op := Op.store 22 (Operand.tmp 53) (Operand.tmp 51), type := 0, pos := "tree.go:63", after := #[{ on := 9, ground := Ground.data }, { on := 7, ground := Ground.data }, { on := 7, ground := Ground.chain }, { on := 0, ground := Ground.phase }, { on := 1, ground := Ground.phase }, { on := 2, ground := Ground.phase }, { on := 3, ground := Ground.phase }, { on := 4, ground := Ground.phase }, { on := 5, ground := Ground.phase }, { on := 6, ground := Ground.phase }, { on := 7, ground := Ground.phase }], guard := none }) rfl (fun K hK => ?_) ?_
                      · go_simp
                        refine hK.out _ _ ?_ (fun hNew => ?_)
                        · ((try dsimp only); first | assumption | exact eXs.out _)
                        clear hK K hHeld
                        have hHeld := hNew
                        clear hNew
                        (try simp only [Act.put, List.setIfInBounds_toArray, List.set_cons_zero, List.set_cons_succ])
                        refine wpAnyH_done (by kernel_rfl) ?_ _
                        refine NoPanic.normal ?_
                        have hfin := ent_done HT0.out eR.out eO.out HIl.out eW.out
                        have h1 := rd1_eq HMm.out HF2.out HA2.out HKk.out HNm.out HF3.out HA3.out HIds.out HF4.out HA4.out
                        have h2 := rdF_eq h1 HF5.out HCe.out HF6.out
                        have HFin : Hid (EntRet R A L C l at' B ne es w (.returned (.tuple #[])) (wE.setCell ⟨R, 3, none⟩ (.slice A9 (ne + 1 : Nat) C9))) := Lib.hid (by
                          refine ⟨rfl, ⟨A9, C9, ?_⟩, hfin.2⟩
                          rw [h2, h1]
                          exact hfin.1)
                        clear hfin h1 h2
                        go_wp2_with fail
                        go_end0
                        exact HFin.out
                      exact AllReadyH.nil
                    exact AllReadyH.nil
                  exact AllReadyH.nil
                refine AllReadyH.cons (o := { dst := some 50, op := Op.buildSlice 22 1 #[(0, Operand.tmp 49)], type := 22, pos := "tree.go:63", after := #[{ on := 5, ground := Ground.data }], guard := none }) rfl (fun K hK => ?_) ?_
                · refine step_build_ent _ rfl (.tmp 49) rfl EL rfl HEl.out ?_
                  obtain ⟨wA, hwA⟩ : ∃ wA, wA = wC.drew.alloc (.cells EL.toArray 87) := ⟨_, rfl⟩
                  have hA := (Below.refl wC.drew.heap.size wC.drew).alloc (Nat.le_refl _) (.cells EL.toArray 87)
                  have aXs0 := al_lt wC.drew (.cells EL.toArray 87)
                  have aN0 := new_ent wC.drew ⟨nm, k, ids⟩ 87
                  rw [← HEC.out] at aN0
                  rw [← hwA] at hA aXs0 aN0
                  change K _ (wC.drew.alloc _)
                  rw [← hwA]
                  clear hwA
                  have aX : wA.rangeAt X 0 EL := range_below hA dX.out hXs
                  have hcA : wA.cell? ⟨R, 3, none⟩ = some (.slice Ae ne Ce) := (hA.cell (p := ⟨R, 3, none⟩) (Nat.lt_trans HXR hXs)).trans dC.out
                  have aO := Lib.hid (own_keep dO.out.drew hA)
                  have aN := Lib.hid aN0
                  have aR := Lib.hid ((dR.out.drewN 1).below hA)
                  have aB : Hid (Below R w wA) := Lib.hid (dB.out.drew.trans (hA.mono (Nat.le_of_lt (Nat.lt_trans HXR hXs))))
                  have aXs : X < wA.heap.size := Nat.lt_trans hXs aXs0
                  have aBs : Hid (B ≤ wA.heap.size) := Lib.hid (Nat.le_trans HT0.out.hBs aB.out.size)
                  clear hA aXs0 aN0
                  generalize wC.drew.heap.size = YA at *
                  (try go_wp2_with fail)
                  refine hK.out _ _ ?_ (fun hNew => ?_)
                  · ((try dsimp only); first | assumption | exact eXs.out _)
                  clear hK K hHeld
                  have hHeld := hNew
                  clear hNew
                  (try simp only [Act.put, List.setIfInBounds_toArray, List.set_cons_zero, List.set_cons_succ])
                  refine wpAnyH_ready (rs := [4]) (by kernel_rfl) (by simp) ?_
                  refine AllReadyH.cons (o := { dst := some 48, op := Op.load 22 (Operand.tmp 47), type := 22, pos := "tree.go:63", after := #[{ on := 3, ground := Ground.data }], guard := none }) rfl (fun K hK => ?_) ?_
                  · go_simp
                    skip
                    (try go_wp2_with fail)
                    refine hK.out _ _ ?_ (fun hNew => ?_)
                    · ((try dsimp only); first | assumption | exact eXs.out _)
                    clear hK K hHeld
                    have hHeld := hNew
                    clear hNew
                    (try simp only [Act.put, List.setIfInBounds_toArray, List.set_cons_zero, List.set_cons_succ])
                    refine wpAnyH_ready (rs := [7]) (by kernel_rfl) (by simp) ?_
                    refine AllReadyH.cons (o := { dst := some 51, op := Op.call { callee := Callee.builtin Builtin.append, args := #[Operand.tmp 48, Operand.tmp 50], argTypes := #[22, 22] }, type := 22, pos := "tree.go:63", after := #[{ on := 4, ground := Ground.data }, { on := 6, ground := Ground.data }], guard := none }) rfl (fun K hK => ?_) ?_
                    · refine step_append_ent _ rfl (.tmp 48) (.tmp 50) rfl B (.slice Ae ne Ce) ne es rfl aO.out _ ⟨nm, k, ids⟩ rfl (fun j u hj => aN.out j u (by rw [HEC.out]; exact hj)) (by rw [← HEC.out]; exact HEl.out) (by omega) aBs.out ?_
                      intro A9 C9 wE hoE hgE
                      have eX : wE.rangeAt X 0 EL := range_grownO aX hgE aXs HNoX.out
                      have eB : Below B wA wE := (Below.refl B wA).grown hgE aBs.out (fun j hj => (aO.out.lt j hj).1)
                      have eR := Lib.hid (aR.out.belowB eB HT0.out.hB HT0.out.hAB)
                      have eW : Hid (Below R w wE) := Lib.hid (aB.out.trans (eB.mono (Nat.le_of_lt HT0.out.hB)))
                      have eO := Lib.hid hoE
                      have hcE : wE.cell? ⟨R, 3, none⟩ = some (.slice Ae ne Ce) := eR.out.row.cell (i := 3) (by omega)
                      have hfE : wE.frozen? ⟨R, 3, none⟩ = false := eR.out.row.frozen _
                      have eXs : Hid (∀ v, (wE.setCell ⟨R, 3, none⟩ v).rangeAt X 0 EL) := Lib.hid (fun v => range_grown eX (grown_set wE R 3 v) (Nat.lt_of_lt_of_le aXs hgE.size) (by omega))
                      clear hcA aX hoE hgE eB
                      (try go_wp2_with fail)
                      refine hK.out _ _ ?_ (fun hNew => ?_)
                      · ((try dsimp only); first | assumption | exact eXs.out _)
                      clear hK K hHeld
                      have hHeld := hNew
                      clear hNew
                      (try simp only [Act.put, List.setIfInBounds_toArray, List.set_cons_zero, List.set_cons_succ])
                      refine wpAnyH_take (i := 8) (oi := { dst := some 52, op := Op.nilCheck (Operand.tmp 44), type := 0, pos := "tree.go:63", after := #[{ on := 0, ground := Ground.data }, { on := 0, ground := Ground.phase }, { on := 1, ground := Ground.phase }, { on := 2, ground := Ground.phase }, { on := 3, ground := Ground.phase }, { on := 4, ground := Ground.phase }, { on := 5, ground := Ground.phase }, { on := 6, ground := Ground.phase }, { on := 7, ground := Ground.phase }], guard := none }) (v := ?_) rfl (by kernel_rfl) (by kernel_rfl) (by kernel_rfl) (fun _ _ _ h => h) (Or.inl ⟨by rfl, ?_⟩) (by assumption) ?_
                      rotate_left 1
                      · ((intro w hSw; (try dsimp only at hSw); go_simp) <;> with_reducible rfl)
                      (try simp only [Act.put, List.setIfInBounds_toArray, List.set_cons_zero, List.set_cons_succ])
                      refine wpAnyH_take (i := 9) (oi := { dst := some 53, op := Op.fieldAddr 96 (Operand.tmp 52) 1, type := 0, pos := "tree.go:63", after := #[{ on := 8, ground := Ground.data }, { on := 0, ground := Ground.phase }, { on := 1, ground := Ground.phase }, { on := 2, ground := Ground.phase }, { on := 3, ground := Ground.phase }, { on := 4, ground := Ground.phase }, { on := 5, ground := Ground.phase }, { on := 6, ground := Ground.phase }, { on := 7, ground := Ground.phase }], guard := none }) (v := ?_) rfl (by kernel_rfl) (by kernel_rfl) (by kernel_rfl) (fun _ _ _ h => h) (Or.inl ⟨by rfl, ?_⟩) (by assumption) ?_
                      rotate_left 1
                      · ((intro w hSw; (try dsimp only at hSw); go_simp) <;> with_reducible rfl)
                      (try simp only [Act.put, List.setIfInBounds_toArray, List.set_cons_zero, List.set_cons_succ])
                      refine wpAnyH_ready (rs := [10]) (by kernel_rfl) (by simp) ?_
                      refine AllReadyH.cons (o := { dst := none, op := Op.store 22 (Operand.tmp 53) (Operand.tmp 51), type := 0, pos := "tree.go:63", after := #[{ on := 9, ground := Ground.data }, { on := 7, ground := Ground.data }, { on := 7, ground := Ground.chain }, { on := 0, ground := Ground.phase }, { on := 1, ground := Ground.phase }, { on := 2, ground := Ground.phase }, { on := 3, ground := Ground.phase }, { on := 4, ground := Ground.phase }, { on := 5, ground := Ground.phase }, { on := 6, ground := Ground.phase }, { on := 7, ground := Ground.phase }], guard := none }) rfl (fun K hK => ?_) ?_
                      · go_simp
                        refine hK.out _ _ ?_ (fun hNew => ?_)
                        · ((try dsimp only); first | assumption | exact eXs.out _)
                        clear hK K hHeld
                        have hHeld := hNew
                        clear hNew
                        (try simp only [Act.put, List.setIfInBounds_toArray, List.set_cons_zero, List.set_cons_succ])
                        refine wpAnyH_done (by kernel_rfl) ?_ _
                        refine NoPanic.normal ?_
                        have hfin := ent_done HT0.out eR.out eO.out HIl.out eW.out
                        have h1 := rd1_eq HMm.out HF2.out HA2.out HKk.out HNm.out HF3.out HA3.out HIds.out HF4.out HA4.out
                        have h2 := rdF_eq h1 HF5.out HCe.out HF6.out
                        have HFin : Hid (EntRet R A L C l at' B ne es w (.returned (.tuple #[])) (wE.setCell ⟨R, 3, none⟩ (.slice A9 (ne + 1 : Nat) C9))) := Lib.hid (by
                          refine ⟨rfl, ⟨A9, C9, ?_⟩, hfin.2⟩
                          rw [h2, h1]
                          exact hfin.1)
                        clear hfin h1 h2
                        go_wp2_with fail
                        go_end0
                        exact HFin.out
                      exact AllReadyH.nil
                    exact AllReadyH.nil
                  exact AllReadyH.nil
                exact AllReadyH.nil
              exact AllReadyH.nil
            exact AllReadyH.nil
          · have hd : ((ne : Int) == 512) = false := by simp; omega
            obtain ⟨F5, hF5⟩ : ∃ F5, F5 = F4 := ⟨_, rfl⟩
            rw [← hF5] at HR8
            have HF5 : Hid (F5 = if ne = 512 then fl F4 4 else F4) := Lib.hid (by rw [if_neg h512]; exact hF5)
            clear hF5 h512
            have HR9 := HR8
            have HO9 := HO8
            have HX9 := HX8
            have HB9 := HB8
            have hX9 := hX8
            clear HR8 HO8 HX8 HB8 hX8
            obtain ⟨w9, hw9⟩ : ∃ w9, w9 = w8 := ⟨_, rfl⟩
            rw [← hw9] at HR9 HO9 HX9 HB9 hX9 hc3 ⊢
            clear hw9
            go_wp2_with fail
            have HPv := Lib.hid (ahd_of HO9.out.drew HT0.out.ids (by omega) HT0.out.hne)
            have HCk := Lib.hid (check_any nm k ids HIl.out HNs.out Ae ne Ce (lastN es) w9.drew HPv.out)
            rw [HEE.out] at HCk
            have dX : Hid (w9.drew.rangeAt X 0 EL) := Lib.hid HX9.out
            have dR := Lib.hid (HR9.out.drewN 1)
            have dC : Hid (w9.drew.cell? ⟨R, 3, none⟩ = some (.slice Ae ne Ce)) := Lib.hid (HR9.out.row.cell (i := 3) (by omega))
            have dO := Lib.hid HO9.out.drew
            have dB : Hid (Below R w w9.drew) := Lib.hid HB9.out.drew
            have hXs : X < w9.drew.heap.size := hX9
            clear HPv HX9 HR9 HO9 HB9 hX9 hd
            obtain ⟨c, hc⟩ : ∃ c, c = ce k nm ids (lastN es) := ⟨_, rfl⟩
            rw [← hc] at HCk
            have HCe := Lib.hid hc
            clear hc
            refine wp_region_noPanic ?_
            refine wp_region_held_drew (S := (fun wS => wS.rangeAt X 0 EL ∧ wS.cell? ⟨R, 3, none⟩ = some (.slice Ae ne Ce))) (by kernel_rfl) ?_ (fun hHeld => ?_)
            · ((try dsimp only); exact ⟨dX.out, dC.out⟩)
            refine wpAnyH_take (i := 0) (oi := { dst := some 34, op := Op.move (Operand.tmp 0), type := 92, pos := "tree.go:62", after := #[], guard := none }) (v := ?_) rfl (by kernel_rfl) (by kernel_rfl) (by kernel_rfl) (fun _ _ _ h => h) (Or.inl ⟨by rfl, ?_⟩) (by assumption) ?_
            rotate_left 1
            · ((intro w hSw; (try dsimp only at hSw); go_simp) <;> with_reducible rfl)
            (try simp only [Act.put, List.setIfInBounds_toArray, List.set_cons_zero, List.set_cons_succ])
            refine wpAnyH_take (i := 1) (oi := { dst := some 35, op := Op.nilCheck (Operand.tmp 34), type := 0, pos := "tree.go:62", after := #[{ on := 0, ground := Ground.data }], guard := none }) (v := ?_) rfl (by kernel_rfl) (by kernel_rfl) (by kernel_rfl) (fun _ _ _ h => h) (Or.inl ⟨by rfl, ?_⟩) (by assumption) ?_
            rotate_left 1
            · ((intro w hSw; (try dsimp only at hSw); go_simp) <;> with_reducible rfl)
            (try simp only [Act.put, List.setIfInBounds_toArray, List.set_cons_zero, List.set_cons_succ])
            refine wpAnyH_take (i := 2) (oi := { dst := some 36, op := Op.fieldAddr 96 (Operand.tmp 35) 0, type := 0, pos := "tree.go:62", after := #[{ on := 1, ground := Ground.data }], guard := none }) (v := ?_) rfl (by kernel_rfl) (by kernel_rfl) (by kernel_rfl) (fun _ _ _ h => h) (Or.inl ⟨by rfl, ?_⟩) (by assumption) ?_
            rotate_left 1
            · ((intro w hSw; (try dsimp only at hSw); go_simp) <;> with_reducible rfl)
            (try simp only [Act.put, List.setIfInBounds_toArray, List.set_cons_zero, List.set_cons_succ])
            refine' wpAnyH_take (i := 3) (oi := { dst := some 37, op := Op.load 87 (Operand.tmp 2), type := 87, pos := "tree.go:62", after := #[], guard := none }) (v := _) rfl (by kernel_rfl) (by kernel_rfl) (by kernel_rfl) (fun _ _ _ h => h) (yieldsIf_load_mid (by rfl) _ _ rfl _ _ rfl EL _ (fun w hSw => hSw.1) Try.underlying87 rfl HES.out) (by assumption) ?_
            (try simp only [Act.put, List.setIfInBounds_toArray, List.set_cons_zero, List.set_cons_succ])
            refine wpAnyH_take (i := 4) (oi := { dst := some 38, op := Op.move (Operand.tmp 0), type := 92, pos := "tree.go:62", after := #[], guard := none }) (v := ?_) rfl (by kernel_rfl) (by kernel_rfl) (by kernel_rfl) (fun _ _ _ h => h) (Or.inl ⟨by rfl, ?_⟩) (by assumption) ?_
            rotate_left 1
            · ((intro w hSw; (try dsimp only at hSw); go_simp) <;> with_reducible rfl)
            (try simp only [Act.put, List.setIfInBounds_toArray, List.set_cons_zero, List.set_cons_succ])
            refine wpAnyH_take (i := 5) (oi := { dst := some 39, op := Op.nilCheck (Operand.tmp 38), type := 0, pos := "tree.go:62", after := #[{ on := 4, ground := Ground.data }], guard := none }) (v := ?_) rfl (by kernel_rfl) (by kernel_rfl) (by kernel_rfl) (fun _ _ _ h => h) (Or.inl ⟨by rfl, ?_⟩) (by assumption) ?_
            rotate_left 1
            · ((intro w hSw; (try dsimp only at hSw); go_simp) <;> with_reducible rfl)
            (try simp only [Act.put, List.setIfInBounds_toArray, List.set_cons_zero, List.set_cons_succ])
            refine wpAnyH_take (i := 6) (oi := { dst := some 40, op := Op.fieldAddr 96 (Operand.tmp 39) 1, type := 0, pos := "tree.go:62", after := #[{ on := 5, ground := Ground.data }], guard := none }) (v := ?_) rfl (by kernel_rfl) (by kernel_rfl) (by kernel_rfl) (fun _ _ _ h => h) (Or.inl ⟨by rfl, ?_⟩) (by assumption) ?_
            rotate_left 1
            · ((intro w hSw; (try dsimp only at hSw); go_simp) <;> with_reducible rfl)
            (try simp only [Act.put, List.setIfInBounds_toArray, List.set_cons_zero, List.set_cons_succ])
            refine wpAnyH_take (i := 7) (oi := { dst := some 41, op := Op.load 22 (Operand.tmp 40), type := 22, pos := "tree.go:62", after := #[{ on := 6, ground := Ground.data }], guard := none }) (v := ?_) rfl (by kernel_rfl) (by kernel_rfl) (by kernel_rfl) (fun _ _ _ h => h) (Or.inl ⟨by rfl, ?_⟩) (by assumption) ?_
            rotate_left 1
            · ((intro w hSw; (try dsimp only at hSw); go_simp) <;> with_reducible rfl)
            (try simp only [Act.put, List.setIfInBounds_toArray, List.set_cons_zero, List.set_cons_succ])
            refine wpAnyH_ready (rs := [8]) (by kernel_rfl) (by simp) ?_
            refine AllReadyH.cons (o := { dst := some 42, op := Op.call { callee := Callee.value (Operand.func 40), args := #[Operand.tmp 37, Operand.tmp 41], argTypes := #[87, 22] }, type := 25, pos := "tree.go:62", after := #[{ on := 3, ground := Ground.data }, { on := 7, ground := Ground.data }], guard := none }) rfl (fun K hK => ?_) ?_
            · go_simp
              refine HCk.out.mono ?_
              rintro e wB ⟨rfl, hb⟩
              have eX := Lib.hid (range_below hb dX.out hXs)
              have eR := Lib.hid (dR.out.below hb)
              have eC : Hid (wB.cell? ⟨R, 3, none⟩ = some (.slice Ae ne Ce)) := Lib.hid (eR.out.row.cell (i := 3) (by omega))
              have eO := Lib.hid (own_keep dO.out hb)
              have eB := Lib.hid (dB.out.trans (hb.mono (by omega)))
              have eXs := Nat.lt_of_lt_of_le hXs hb.size
              clear dX dR dC dO dB hXs hb HCk
              have dX := eX
              have dR := eR
              have dC := eC
              have dO := eO
              have dB := eB
              have hXs := eXs
              clear eX eR eC eO eB eXs
              have HFm := Lib.hid (fail_any R 4 96 A L C l A4 F5 c _ wB dR.out)
              (try go_wp2_with fail)
              refine hK.out _ _ ?_ (fun hNew => ?_)
              · ((try dsimp only); exact ⟨dX.out, dC.out⟩)
              clear hK K hHeld
              have hHeld := hNew
              clear hNew
              (try simp only [Act.put, List.setIfInBounds_toArray, List.set_cons_zero, List.set_cons_succ])
              refine wpAnyH_ready (rs := [9]) (by kernel_rfl) (by simp) ?_
              refine AllReadyH.cons (o := { dst := some 43, op := Op.call { callee := Callee.value (Operand.func 85), args := #[Operand.tmp 36, Operand.tmp 42], argTypes := #[94, 25] }, type := 0, pos := "tree.go:62", after := #[{ on := 2, ground := Ground.data }, { on := 8, ground := Ground.data }, { on := 8, ground := Ground.chain }], guard := none }) rfl (fun K hK => ?_) ?_
              · go_simp
                refine HFm.out.mono ?_
                rintro e wC ⟨rfl, hR, hg⟩
                have eX := Lib.hid (range_grown dX.out hg hXs (by omega))
                have eR := Lib.hid hR
                have eC : Hid (wC.cell? ⟨R, 3, none⟩ = some (.slice Ae ne Ce)) := Lib.hid (eR.out.row.cell (i := 3) (by omega))
                have eO := Lib.hid (own_grown dO.out hg HNoR.out)
                have eB := Lib.hid (dB.out.trans (below_of_grown hg (by omega)))
                have eXs := Nat.lt_of_lt_of_le hXs hg.size
                clear dX dR dC dO dB hXs hR hg HFm
                have dX := eX
                have dR := eR
                have dC := eC
                have dO := eO
                have dB := eB
                have hXs := eXs
                clear eX eR eC eO eB eXs
                (try go_wp2_with fail)
                refine hK.out _ _ ?_ (fun hNew => ?_)
                · ((try dsimp only); exact ⟨dX.out, dC.out⟩)
                clear hK K hHeld
                have hHeld := hNew
                clear hNew
                (try simp only [Act.put, List.setIfInBounds_toArray, List.set_cons_zero, List.set_cons_succ])
                refine wpAnyH_done (by kernel_rfl) ?_ _
                refine NoPanic.normal ?_
                obtain ⟨F6, hF6⟩ : ∃ F6, F6 = fl F5 c := ⟨_, rfl⟩
                rw [← hF6] at dR
                have HF6 := Lib.hid hF6
                clear hF6
                clear hHeld
                go_wp2_with fail
                have hc3 : wC.drew.cell? ⟨R, 3, none⟩ = some (.slice Ae ne Ce) := dC.out
                refine wp_region_noPanic ?_
                refine wp_region_held_drew (S := (fun wS => wS.rangeAt X 0 EL)) (by kernel_rfl) ?_ (fun hHeld => ?_)
                · ((try dsimp only); exact dX.out)
                refine wpAnyH_take (i := 0) (oi := { dst := some 44, op := Op.move (Operand.tmp 0), type := 92, pos := "tree.go:63", after := #[], guard := none }) (v := ?_) rfl (by kernel_rfl) (by kernel_rfl) (by kernel_rfl) (fun _ _ _ h => h) (Or.inl ⟨by rfl, ?_⟩) (by assumption) ?_
                rotate_left 1
                · ((intro w hSw; (try dsimp only at hSw); go_simp) <;> with_reducible rfl)
                (try simp only [Act.put, List.setIfInBounds_toArray, List.set_cons_zero, List.set_cons_succ])
                refine wpAnyH_take (i := 1) (oi := { dst := some 45, op := Op.move (Operand.tmp 0), type := 92, pos := "tree.go:63", after := #[], guard := none }) (v := ?_) rfl (by kernel_rfl) (by kernel_rfl) (by kernel_rfl) (fun _ _ _ h => h) (Or.inl ⟨by rfl, ?_⟩) (by assumption) ?_
                rotate_left 1
                · ((intro w hSw; (try dsimp only at hSw); go_simp) <;> with_reducible rfl)
                (try simp only [Act.put, List.setIfInBounds_toArray, List.set_cons_zero, List.set_cons_succ])
                refine wpAnyH_take (i := 2) (oi := { dst := some 46, op := Op.nilCheck (Operand.tmp 45), type := 0, pos := "tree.go:63", after := #[{ on := 1, ground := Ground.data }], guard := none }) (v := ?_) rfl (by kernel_rfl) (by kernel_rfl) (by kernel_rfl) (fun _ _ _ h => h) (Or.inl ⟨by rfl, ?_⟩) (by assumption) ?_
                rotate_left 1
                · ((intro w hSw; (try dsimp only at hSw); go_simp) <;> with_reducible rfl)
                (try simp only [Act.put, List.setIfInBounds_toArray, List.set_cons_zero, List.set_cons_succ])
                refine wpAnyH_take (i := 3) (oi := { dst := some 47, op := Op.fieldAddr 96 (Operand.tmp 46) 1, type := 0, pos := "tree.go:63", after := #[{ on := 2, ground := Ground.data }], guard := none }) (v := ?_) rfl (by kernel_rfl) (by kernel_rfl) (by kernel_rfl) (fun _ _ _ h => h) (Or.inl ⟨by rfl, ?_⟩) (by assumption) ?_
                rotate_left 1
                · ((intro w hSw; (try dsimp only at hSw); go_simp) <;> with_reducible rfl)
                (try simp only [Act.put, List.setIfInBounds_toArray, List.set_cons_zero, List.set_cons_succ])
                refine' wpAnyH_take (i := 5) (oi := { dst := some 49, op := Op.load 87 (Operand.tmp 2), type := 87, pos := "tree.go:63", after := #[], guard := none }) (v := _) rfl (by kernel_rfl) (by kernel_rfl) (by kernel_rfl) (fun _ _ _ h => h) (yieldsIf_load_mid (by rfl) _ _ rfl _ _ rfl EL _ (fun w hSw => hSw) Try.underlying87 rfl HES.out) (by assumption) ?_
                (try simp only [Act.put, List.setIfInBounds_toArray, List.set_cons_zero, List.set_cons_succ])
                refine wpAnyH_ready (rs := [4, 6]) (by kernel_rfl) (by simp) ?_
                refine AllReadyH.cons (o := { dst := some 48, op := Op.load 22 (Operand.tmp 47), type := 22, pos := "tree.go:63", after := #[{ on := 3, ground := Ground.data }], guard := none }) rfl (fun K hK => ?_) ?_
                · go_simp
                  skip
                  (try go_wp2_with fail)
                  refine hK.out _ _ ?_ (fun hNew => ?_)
                  · ((try dsimp only); first | assumption | exact eXs.out _)
                  clear hK K hHeld
                  have hHeld := hNew
                  clear hNew
                  (try simp only [Act.put, List.setIfInBounds_toArray, List.set_cons_zero, List.set_cons_succ])
                  refine wpAnyH_ready (rs := [6]) (by kernel_rfl) (by simp) ?_
                  refine AllReadyH.cons (o := { dst := some 50, op := Op.buildSlice 22 1 #[(0, Operand.tmp 49)], type := 22, pos := "tree.go:63", after := #[{ on := 5, ground := Ground.data }], guard := none }) rfl (fun K hK => ?_) ?_
                  · refine step_build_ent _ rfl (.tmp 49) rfl EL rfl HEl.out ?_
                    obtain ⟨wA, hwA⟩ : ∃ wA, wA = wC.drew.alloc (.cells EL.toArray 87) := ⟨_, rfl⟩
                    have hA := (Below.refl wC.drew.heap.size wC.drew).alloc (Nat.le_refl _) (.cells EL.toArray 87)
                    have aXs0 := al_lt wC.drew (.cells EL.toArray 87)
                    have aN0 := new_ent wC.drew ⟨nm, k, ids⟩ 87
                    rw [← HEC.out] at aN0
                    rw [← hwA] at hA aXs0 aN0
                    change K _ (wC.drew.alloc _)
                    rw [← hwA]
                    clear hwA
                    have aX : wA.rangeAt X 0 EL := range_below hA dX.out hXs
                    have hcA : wA.cell? ⟨R, 3, none⟩ = some (.slice Ae ne Ce) := (hA.cell (p := ⟨R, 3, none⟩) (Nat.lt_trans HXR hXs)).trans dC.out
                    have aO := Lib.hid (own_keep dO.out.drew hA)
                    have aN := Lib.hid aN0
                    have aR := Lib.hid ((dR.out.drewN 1).below hA)
                    have aB : Hid (Below R w wA) := Lib.hid (dB.out.drew.trans (hA.mono (Nat.le_of_lt (Nat.lt_trans HXR hXs))))
                    have aXs : X < wA.heap.size := Nat.lt_trans hXs aXs0
                    have aBs : Hid (B ≤ wA.heap.size) := Lib.hid (Nat.le_trans HT0.out.hBs aB.out.size)
                    clear hA aXs0 aN0
                    generalize wC.drew.heap.size = YA at *
                    (try go_wp2_with fail)
                    refine hK.out _ _ ?_ (fun hNew => ?_)
                    · ((try dsimp only); first | assumption | exact eXs.out _)
                    clear hK K hHeld
                    have hHeld := hNew
                    clear hNew
                    (try simp only [Act.put, List.setIfInBounds_toArray, List.set_cons_zero, List.set_cons_succ])
                    refine wpAnyH_ready (rs := [7]) (by kernel_rfl) (by simp) ?_
                    refine AllReadyH.cons (o := { dst := some 51, op := Op.call { callee := Callee.builtin Builtin.append, args := #[Operand.tmp 48, Operand.tmp 50], argTypes := #[22, 22] }, type := 22, pos := "tree.go:63", after := #[{ on := 4, ground := Ground.data }, { on := 6, ground := Ground.data }], guard := none }) rfl (fun K hK => ?_) ?_
                    · refine step_append_ent _ rfl (.tmp 48) (.tmp 50) rfl B (.slice Ae ne Ce) ne es rfl aO.out _ ⟨nm, k, ids⟩ rfl (fun j u hj => aN.out j u (by rw [HEC.out]; exact hj)) (by rw [← HEC.out]; exact HEl.out) (by omega) aBs.out ?_
                      intro A9 C9 wE hoE hgE
                      have eX : wE.rangeAt X 0 EL := range_grownO aX hgE aXs HNoX.out
                      have eB : Below B wA wE := (Below.refl B wA).grown hgE aBs.out (fun j hj => (aO.out.lt j hj).1)
                      have eR := Lib.hid (aR.out.belowB eB HT0.out.hB HT0.out.hAB)
                      have eW : Hid (Below R w wE) := Lib.hid (aB.out.trans (eB.mono (Nat.le_of_lt HT0.out.hB)))
                      have eO := Lib.hid hoE
                      have hcE : wE.cell? ⟨R, 3, none⟩ = some (.slice Ae ne Ce) := eR.out.row.cell (i := 3) (by omega)
                      have hfE : wE.frozen? ⟨R, 3, none⟩ = false := eR.out.row.frozen _
                      have eXs : Hid (∀ v, (wE.setCell ⟨R, 3, none⟩ v).rangeAt X 0 EL) := Lib.hid (fun v => range_grown eX (grown_set wE R 3 v) (Nat.lt_of_lt_of_le aXs hgE.size) (by omega))
                      clear hcA aX hoE hgE eB
                      (try go_wp2_with fail)
                      refine hK.out _ _ ?_ (fun hNew => ?_)
                      · ((try dsimp only); first | assumption | exact eXs.out _)
                      clear hK K hHeld
                      have hHeld := hNew
                      clear hNew
                      (try simp only [Act.put, List.setIfInBounds_toArray, List.set_cons_zero, List.set_cons_succ])
                      refine wpAnyH_take (i := 8) (oi := { dst := some 52, op := Op.nilCheck (Operand.tmp 44), type := 0, pos := "tree.go:63", after := #[{ on := 0, ground := Ground.data }, { on := 0, ground := Ground.phase }, { on := 1, ground := Ground.phase }, { on := 2, ground := Ground.phase }, { on := 3, ground := Ground.phase }, { on := 4, ground := Ground.phase }, { on := 5, ground := Ground.phase }, { on := 6, ground := Ground.phase }, { on := 7, ground := Ground.phase }], guard := none }) (v := ?_) rfl (by kernel_rfl) (by kernel_rfl) (by kernel_rfl) (fun _ _ _ h => h) (Or.inl ⟨by rfl, ?_⟩) (by assumption) ?_
                      rotate_left 1
                      · ((intro w hSw; (try dsimp only at hSw); go_simp) <;> with_reducible rfl)
                      (try simp only [Act.put, List.setIfInBounds_toArray, List.set_cons_zero, List.set_cons_succ])
                      refine wpAnyH_take (i := 9) (oi := { dst := some 53, op := Op.fieldAddr 96 (Operand.tmp 52) 1, type := 0, pos := "tree.go:63", after := #[{ on := 8, ground := Ground.data }, { on := 0, ground := Ground.phase }, { on := 1, ground := Ground.phase }, { on := 2, ground := Ground.phase }, { on := 3, ground := Ground.phase }, { on := 4, ground := Ground.phase }, { on := 5, ground := Ground.phase }, { on := 6, ground := Ground.phase }, { on := 7, ground := Ground.phase }], guard := none }) (v := ?_) rfl (by kernel_rfl) (by kernel_rfl) (by kernel_rfl) (fun _ _ _ h => h) (Or.inl ⟨by rfl, ?_⟩) (by assumption) ?_
                      rotate_left 1
                      · ((intro w hSw; (try dsimp only at hSw); go_simp) <;> with_reducible rfl)
                      (try simp only [Act.put, List.setIfInBounds_toArray, List.set_cons_zero, List.set_cons_succ])
                      refine wpAnyH_ready (rs := [10]) (by kernel_rfl) (by simp) ?_
                      refine AllReadyH.cons (o := { dst := none, op := Op.store 22 (Operand.tmp 53) (Operand.tmp 51), type := 0, pos := "tree.go:63", after := #[{ on := 9, ground := Ground.data }, { on := 7, ground := Ground.data }, { on := 7, ground := Ground.chain }, { on := 0, ground := Ground.phase }, { on := 1, ground := Ground.phase }, { on := 2, ground := Ground.phase }, { on := 3, ground := Ground.phase }, { on := 4, ground := Ground.phase }, { on := 5, ground := Ground.phase }, { on := 6, ground := Ground.phase }, { on := 7, ground := Ground.phase }], guard := none }) rfl (fun K hK => ?_) ?_
                      · go_simp
                        refine hK.out _ _ ?_ (fun hNew => ?_)
                        · ((try dsimp only); first | assumption | exact eXs.out _)
                        clear hK K hHeld
                        have hHeld := hNew
                        clear hNew
                        (try simp only [Act.put, List.setIfInBounds_toArray, List.set_cons_zero, List.set_cons_succ])
                        refine wpAnyH_done (by kernel_rfl) ?_ _
                        refine NoPanic.normal ?_
                        have hfin := ent_done HT0.out eR.out eO.out HIl.out eW.out
                        have h1 := rd1_eq HMm.out HF2.out HA2.out HKk.out HNm.out HF3.out HA3.out HIds.out HF4.out HA4.out
                        have h2 := rdF_eq h1 HF5.out HCe.out HF6.out
                        have HFin : Hid (EntRet R A L C l at' B ne es w (.returned (.tuple #[])) (wE.setCell ⟨R, 3, none⟩ (.slice A9 (ne + 1 : Nat) C9))) := Lib.hid (by
                          refine ⟨rfl, ⟨A9, C9, ?_⟩, hfin.2⟩
                          rw [h2, h1]
                          exact hfin.1)
                        clear hfin h1 h2
                        go_wp2_with fail
                        go_end0
                        exact HFin.out
                      exact AllReadyH.nil
                    exact AllReadyH.nil
                  exact AllReadyH.nil
                refine AllReadyH.cons (o := { dst := some 50, op := Op.buildSlice 22 1 #[(0, Operand.tmp 49)], type := 22, pos := "tree.go:63", after := #[{ on := 5, ground := Ground.data }], guard := none }) rfl (fun K hK => ?_) ?_
                · refine step_build_ent _ rfl (.tmp 49) rfl EL rfl HEl.out ?_
                  obtain ⟨wA, hwA⟩ : ∃ wA, wA = wC.drew.alloc (.cells EL.toArray 87) := ⟨_, rfl⟩
                  have hA := (Below.refl wC.drew.heap.size wC.drew).alloc (Nat.le_refl _) (.cells EL.toArray 87)
                  have aXs0 := al_lt wC.drew (.cells EL.toArray 87)
                  have aN0 := new_ent wC.drew ⟨nm, k, ids⟩ 87
                  rw [← HEC.out] at aN0
                  rw [← hwA] at hA aXs0 aN0
                  change K _ (wC.drew.alloc _)
                  rw [← hwA]
                  clear hwA
                  have aX : wA.rangeAt X 0 EL := range_below hA dX.out hXs
                  have hcA : wA.cell? ⟨R, 3, none⟩ = some (.slice Ae ne Ce) := (hA.cell (p := ⟨R, 3, none⟩) (Nat.lt_trans HXR hXs)).trans dC.out
                  have aO := Lib.hid (own_keep dO.out.drew hA)
                  have aN := Lib.hid aN0
                  have aR := Lib.hid ((dR.out.drewN 1).below hA)
                  have aB : Hid (Below R w wA) := Lib.hid (dB.out.drew.trans (hA.mono (Nat.le_of_lt (Nat.lt_trans HXR hXs))))
                  have aXs : X < wA.heap.size := Nat.lt_trans hXs aXs0
                  have aBs : Hid (B ≤ wA.heap.size) := Lib.hid (Nat.le_trans HT0.out.hBs aB.out.size)
                  clear hA aXs0 aN0
                  generalize wC.drew.heap.size = YA at *
                  (try go_wp2_with fail)
                  refine hK.out _ _ ?_ (fun hNew => ?_)
                  · ((try dsimp only); first | assumption | exact eXs.out _)
                  clear hK K hHeld
                  have hHeld := hNew
                  clear hNew
                  (try simp only [Act.put, List.setIfInBounds_toArray, List.set_cons_zero, List.set_cons_succ])
                  refine wpAnyH_ready (rs := [4]) (by kernel_rfl) (by simp) ?_
                  refine AllReadyH.cons (o := { dst := some 48, op := Op.load 22 (Operand.tmp 47), type := 22, pos := "tree.go:63", after := #[{ on := 3, ground := Ground.data }], guard := none }) rfl (fun K hK => ?_) ?_
                  · go_simp
                    skip
                    (try go_wp2_with fail)
                    refine hK.out _ _ ?_ (fun hNew => ?_)
                    · ((try dsimp only); first | assumption | exact eXs.out _)
                    clear hK K hHeld
                    have hHeld := hNew
                    clear hNew
                    (try simp only [Act.put, List.setIfInBounds_toArray, List.set_cons_zero, List.set_cons_succ])
                    refine wpAnyH_ready (rs := [7]) (by kernel_rfl) (by simp) ?_
                    refine AllReadyH.cons (o := { dst := some 51, op := Op.call { callee := Callee.builtin Builtin.append, args := #[Operand.tmp 48, Operand.tmp 50], argTypes := #[22, 22] }, type := 22, pos := "tree.go:63", after := #[{ on := 4, ground := Ground.data }, { on := 6, ground := Ground.data }], guard := none }) rfl (fun K hK => ?_) ?_
                    · refine step_append_ent _ rfl (.tmp 48) (.tmp 50) rfl B (.slice Ae ne Ce) ne es rfl aO.out _ ⟨nm, k, ids⟩ rfl (fun j u hj => aN.out j u (by rw [HEC.out]; exact hj)) (by rw [← HEC.out]; exact HEl.out) (by omega) aBs.out ?_
                      intro A9 C9 wE hoE hgE
                      have eX : wE.rangeAt X 0 EL := range_grownO aX hgE aXs HNoX.out
                      have eB : Below B wA wE := (Below.refl B wA).grown hgE aBs.out (fun j hj => (aO.out.lt j hj).1)
                      have eR := Lib.hid (aR.out.belowB eB HT0.out.hB HT0.out.hAB)
                      have eW : Hid (Below R w wE) := Lib.hid (aB.out.trans (eB.mono (Nat.le_of_lt HT0.out.hB)))
                      have eO := Lib.hid hoE
                      have hcE : wE.cell? ⟨R, 3, none⟩ = some (.slice Ae ne Ce) := eR.out.row.cell (i := 3) (by omega)
                      have hfE : wE.frozen? ⟨R, 3, none⟩ = false := eR.out.row.frozen _
                      have eXs : Hid (∀ v, (wE.setCell ⟨R, 3, none⟩ v).rangeAt X 0 EL) := Lib.hid (fun v => range_grown eX (grown_set wE R 3 v) (Nat.lt_of_lt_of_le aXs hgE.size) (by omega))
                      clear hcA aX hoE hgE eB
                      (try go_wp2_with fail)
                      refine hK.out _ _ ?_ (fun hNew => ?_)
                      · ((try dsimp only); first | assumption | exact eXs.out _)
                      clear hK K hHeld
                      have hHeld := hNew
                      clear hNew
                      (try simp only [Act.put, List.setIfInBounds_toArray, List.set_cons_zero, List.set_cons_succ])
                      refine wpAnyH_take (i := 8) (oi := { dst := some 52, op := Op.nilCheck (Operand.tmp 44), type := 0, pos := "tree.go:63", after := #[{ on := 0, ground := Ground.data }, { on := 0, ground := Ground.phase }, { on := 1, ground := Ground.phase }, { on := 2, ground := Ground.phase }, { on := 3, ground := Ground.phase }, { on := 4, ground := Ground.phase }, { on := 5, ground := Ground.phase }, { on := 6, ground := Ground.phase }, { on := 7, ground := Ground.phase }], guard := none }) (v := ?_) rfl (by kernel_rfl) (by kernel_rfl) (by kernel_rfl) (fun _ _ _ h => h) (Or.inl ⟨by rfl, ?_⟩) (by assumption) ?_
                      rotate_left 1
                      · ((intro w hSw; (try dsimp only at hSw); go_simp) <;> with_reducible rfl)
                      (try simp only [Act.put, List.setIfInBounds_toArray, List.set_cons_zero, List.set_cons_succ])
                      refine wpAnyH_take (i := 9) (oi := { dst := some 53, op := Op.fieldAddr 96 (Operand.tmp 52) 1, type := 0, pos := "tree.go:63", after := #[{ on := 8, ground := Ground.data }, { on := 0, ground := Ground.phase }, { on := 1, ground := Ground.phase }, { on := 2, ground := Ground.phase }, { on := 3, ground := Ground.phase }, { on := 4, ground := Ground.phase }, { on := 5, ground := Ground.phase }, { on := 6, ground := Ground.phase }, { on := 7, ground := Ground.phase }], guard := none }) (v := ?_) rfl (by kernel_rfl) (by kernel_rfl) (by kernel_rfl) (fun _ _ _ h => h) (Or.inl ⟨by rfl, ?_⟩) (by assumption) ?_
                      rotate_left 1
                      · ((intro w hSw; (try dsimp only at hSw); go_simp) <;> with_reducible rfl)
                      (try simp only [Act.put, List.setIfInBounds_toArray, List.set_cons_zero, List.set_cons_succ])
                      refine wpAnyH_ready (rs := [10]) (by kernel_rfl) (by simp) ?_
                      refine AllReadyH.cons (o := { dst := none, op := Op.store 22 (Operand.tmp 53) (Operand.tmp 51), type := 0, pos := "tree.go:63", after := #[{ on := 9, ground := Ground.data }, { on := 7, ground := Ground.data }, { on := 7, ground := Ground.chain }, { on := 0, ground := Ground.phase }, { on := 1, ground := Ground.phase }, { on := 2, ground := Ground.phase }, { on := 3, ground := Ground.phase }, { on := 4, ground := Ground.phase }, { on := 5, ground := Ground.phase }, { on := 6, ground := Ground.phase }, { on := 7, ground := Ground.phase }], guard := none }) rfl (fun K hK => ?_) ?_
                      · go_simp
                        refine hK.out _ _ ?_ (fun hNew => ?_)
                        · ((try dsimp only); first | assumption | exact eXs.out _)
                        clear hK K hHeld
                        have hHeld := hNew
                        clear hNew
                        (try simp only [Act.put, List.setIfInBounds_toArray, List.set_cons_zero, List.set_cons_succ])
                        refine wpAnyH_done (by kernel_rfl) ?_ _
                        refine NoPanic.normal ?_
                        have hfin := ent_done HT0.out eR.out eO.out HIl.out eW.out
                        have h1 := rd1_eq HMm.out HF2.out HA2.out HKk.out HNm.out HF3.out HA3.out HIds.out HF4.out HA4.out
                        have h2 := rdF_eq h1 HF5.out HCe.out HF6.out
                        have HFin : Hid (EntRet R A L C l at' B ne es w (.returned (.tuple #[])) (wE.setCell ⟨R, 3, none⟩ (.slice A9 (ne + 1 : Nat) C9))) := Lib.hid (by
                          refine ⟨rfl, ⟨A9, C9, ?_⟩, hfin.2⟩
                          rw [h2, h1]
                          exact hfin.1)
                        clear hfin h1 h2
                        go_wp2_with fail
                        go_end0
                        exact HFin.out
                      exact AllReadyH.nil
                    exact AllReadyH.nil
                  exact AllReadyH.nil
                exact AllReadyH.nil
              exact AllReadyH.nil
            exact AllReadyH.nil
        exact AllReadyH.nil
      exact AllReadyH.nil
    exact AllReadyH.nil
  exact AllReadyH.nil
end Go.Proofs.Ytmcmapgllaopmaa.Cd
end

section
/- ParseTree of any bytes. -/
namespace Go.Proofs.Ytmcmapgllaopmaa.Cd
open Go.RowKit
set_option linter.unusedVariables false

theorem fl_zero {f e : Int} (h : fl f e = 0) : f = 0 ∧ e = 0 := by
  unfold fl at h
  split at h
  · exact ⟨by assumption, h⟩
  · exact absurd h (by assumption)
theorem tkF_zero {f : Int} {a L n : Nat} (h : tkF f a L n = 0) : f = 0 ∧ ¬ (L - a < n) := by
  unfold tkF at h
  split at h
  · exact absurd h (by decide)
  · rename_i h1
    exact ⟨h, fun h2 => h1 ⟨h, h2⟩⟩
theorem tkA_zero {f : Int} {a L n : Nat} (h : tkF f a L n = 0) : tkA f a L n = a + n := by
  unfold tkA
  rw [if_pos h]
/-- an entry that is read well takes 34 bytes or more, and the count is not full -/
theorem rd_step {l : List Int} {at' L cnt : Nat} {prev : Option ByteArray} (h : rdF l at' L cnt prev = 0) : at' + 34 ≤ (rd1 l at' L).pos ∧ cnt ≠ 512 := by
  unfold rdF at h
  obtain ⟨h1, -⟩ := fl_zero h
  have h2 : (rd1 l at' L).f = 0 ∧ cnt ≠ 512 := by
    split at h1
    · exact absurd (fl_zero h1).2 (by decide)
    · exact ⟨h1, by assumption⟩
  refine ⟨?_, h2.2⟩
  have h3 := h2.1
  unfold rd1 at h3 ⊢
  dsimp only at h3 ⊢
  generalize rdM l at' L = m at *
  have e4 := tkF_zero h3
  have e3 := tkF_zero e4.1
  have e2 := tkF_zero e3.1
  have a4 := tkA_zero h3
  have a3 := tkA_zero e4.1
  have a2 := tkA_zero e3.1
  have a1 := tkA_zero e2.1
  omega

/-- what the bytes of a tree's body say: what failed, the entries -/
def pT (l : List Int) (L : Nat) : Nat → Nat → List Fr.Ent → Int × List Fr.Ent
  | 0, _, es => (0, es)
  | n + 1, at', es => if at' = L then (0, es) else if rdF l at' L es.length (lastN es) = 0 then pT l L n (rd1 l at' L).pos (es ++ [⟨(rd1 l at' L).nm, (rd1 l at' L).k, (rd1 l at' L).id⟩]) else (rdF l at' L es.length (lastN es), [])

/-- where the reader is -/
def atOf (w : World) (R : Nat) : Nat := match w.cell? ⟨R, 1, none⟩ with
  | some (.int _ x) => x.toNat
  | _ => 0
theorem Tr.atOf {w : World} {R : Nat} {A : Option Addr} {L C : Nat} {l : List Int} {at' : Nat} {f : Int} {B : Nat} {Ae : Option Addr} {ne Ce : Nat} {es : List Fr.Ent} (h : Tr w R A L C l at' f B Ae ne Ce es) : atOf w R = at' := by
  unfold Cd.atOf
  rw [h.rdr.c1]
  rfl
theorem Tr.below {w w' : World} {R : Nat} {A : Option Addr} {L C : Nat} {l : List Int} {at' : Nat} {f : Int} {B : Nat} {Ae : Option Addr} {ne Ce : Nat} {es : List Fr.Ent} (h : Tr w R A L C l at' f B Ae ne Ce es) (hb : Below w.heap.size w w') : Tr w' R A L C l at' f B Ae ne Ce es :=
  ⟨h.rdr.below hb, own_keep h.own hb, h.hB, Nat.le_trans h.hBs hb.size, h.ids, h.hAB, h.hne⟩

theorem ended_any (R N : Nat) (t : TypeId) (A : Option Addr) (L C : Nat) (l : List Int) (at' : Nat) (f : Int) (E : Nat → Value) (w : World) (h : Rdr w R N t A L C l at' f E) (b : Bool) (hb : ((at' : Int) == (L : Int)) = b) :
    Calls Try.prog 44 #[.pointer (some ⟨R, 0, none⟩)] w fun e w' => e = .returned (.bool b) ∧ Below w.heap.size w w' := by
  have HB := Lib.hid (Below.refl w.heap.size w)
  have h0 := h.c0
  have h1 := h.c1
  clear h
  go_enter Try.func44, Try.ntmps44
  go_wp2
  go_quiet (fail)
  go_wp2
  go_ret
  exact ⟨rfl, below_drewN HB.out _⟩

/-- what ParseTree hands back -/
def PtRet (l : List Int) (L : Nat) (w : World) (e : Ending) (w' : World) : Prop :=
  Below w.heap.size w w' ∧
  (((pT l L (L + 1) 0 []).1 ≠ 0 ∧ e = .returned (.tuple #[.slice none 0 0, .int .i64 (pT l L (L + 1) 0 []).1])) ∨
   ((pT l L (L + 1) 0 []).1 = 0 ∧ (∀ x ∈ (pT l L (L + 1) 0 []).2, x.id.length = 32) ∧ ∃ Ae Ce, e = .returned (.tuple #[.slice Ae (pT l L (L + 1) 0 []).2.length Ce, .int .i64 0]) ∧ w'.ownsRow w.heap.size 87 34 (.slice Ae (pT l L (L + 1) 0 []).2.length Ce) (pT l L (L + 1) 0 []).2.length (entsV (pT l L (L + 1) 0 []).2)))

set_option maxRecDepth 100000 in
theorem parseTree_any (A : Option Addr) (L C : Nat) (l : List Int) (w : World) (h : RdB w A L C l) :
    Calls Try.prog 14 #[.slice A L C] w (PtRet l L w) := by
  have HT0 : Hid (Tr (w.alloc (.cells #[.slice A L C, .int .i64 0, .int .i64 0, .slice none 0 0] 96)) w.heap.size A L C l 0 0 (w.heap.size + 1) none 0 0 []) := Lib.hid (by
    have hb := (Below.refl w.heap.size w).alloc (Nat.le_refl _) (.cells #[.slice A L C, .int .i64 0, .int .i64 0, .slice none 0 0] 96)
    have hr := row_new w #[.slice A L C, .int .i64 0, .int .i64 0, .slice none 0 0] 96
    refine ⟨⟨hr.congr (fun j hj => ?_), by decide, h.below hb, fun x hx h0 => ?_, Nat.zero_le _⟩, ⟨by simp [entsV], .inl ⟨rfl, rfl⟩⟩, Nat.lt_succ_self _, al_lt w _, by simp, fun x hx h0 => ?_, rfl⟩
    · match j, hj with
      | 0, _ => rfl
      | 1, _ => rfl
      | 2, _ => rfl
      | 3, _ => rfl
    · have := (h.cell x hx).1 h0; omega
    · have := (h.cell x hx).1 h0; omega)
  have HB0 : Hid (Below w.heap.size w (w.alloc (.cells #[.slice A L C, .int .i64 0, .int .i64 0, .slice none 0 0] 96))) := Lib.hid ((Below.refl w.heap.size w).alloc (Nat.le_refl _) _)
  clear h
  go_enter Try.func14, Try.ntmps14
  go_wp2_with fail
  go_loopw [9] (fun s wr => ∃ (n at' : Nat) (Ae : Option Addr) (ne Ce : Nat) (es : List Fr.Ent), L - at' < n ∧ ne ≤ 512 ∧ Hid (pT l L n at' es = pT l L (L + 1) 0 []) ∧ Hid (Tr wr w.heap.size A L C l at' 0 (w.heap.size + 1) Ae ne Ce es) ∧ Hid (Below w.heap.size w wr)) (fun _ wr => L - atOf wr w.heap.size)
  case atStart => exact ⟨L + 1, 0, none, 0, 0, [], by omega, by decide, Lib.hid rfl, HT0, HB0⟩
  case round =>
    clear HT0 HB0
    obtain ⟨n, at', Ae, ne, Ce, es, hn, hne, HP, HT, HB⟩ := hrel
    have hat := HT.out.atOf
    have HAt := Lib.hid hat
    clear hat
    obtain ⟨n, rfl⟩ : ∃ m, n = m + 1 := ⟨n - 1, by omega⟩
    have hle := HT.out.rdr.le
    by_cases he : at' = L
    · have HEn := Lib.hid (ended_any w.heap.size 4 96 A L C l at' 0 _ wr HT.out.rdr true (by simp [he]))
      have hp : pT l L (L + 1) 0 [] = (0, es) := by
        rw [← HP.out, pT, if_pos he]
      have HPp := Lib.hid hp
      clear hp he HP
      go_wp2_with fail
      refine HEn.out.mono ?_
      rintro e w1 ⟨rfl, hb⟩
      have HT1 := Lib.hid (HT.out.below hb)
      have HB1 := Lib.hid (HB.out.trans (hb.mono HB.out.size))
      have hc : w1.cell? ⟨w.heap.size, 3, none⟩ = some (.slice Ae ne Ce) := HT1.out.rdr.row.cell (i := 3) (by omega)
      clear hb HT HB HEn
      go_wp2_with fail
      go_ret2
      refine ⟨HB1.out, .inr ?_⟩
      rw [HPp.out]
      refine ⟨rfl, HT1.out.ids, Ae, Ce, ?_, ?_⟩
      · rw [HT1.out.hne]; rfl
      · rw [HT1.out.hne]; exact own_base HT1.out.own (Nat.le_succ _)
    · have HEn := Lib.hid (ended_any w.heap.size 4 96 A L C l at' 0 _ wr HT.out.rdr false (by simp; omega))
      go_wp2_with fail
      refine HEn.out.mono ?_
      rintro e w1 ⟨rfl, hb⟩
      have HT1 := Lib.hid (HT.out.below hb)
      have HB1 := Lib.hid (HB.out.trans (hb.mono HB.out.size))
      clear hb HT HB HEn
      have HEy := Lib.hid (entry_any w.heap.size A L C l at' (w.heap.size + 1) Ae ne Ce es w1 HT1.out hne)
      go_wp2_with fail
      refine HEy.out.mono ?_
      rintro e w2 ⟨rfl, ⟨Ae2, Ce2, ht⟩, hb⟩
      have HT2 := Lib.hid ht
      have HB2 := Lib.hid (HB1.out.trans hb)
      have hln := HT1.out.hne
      clear ht hb HEy HB1
      obtain ⟨f, hf⟩ : ∃ f, f = rdF l at' L ne (lastN es) := ⟨_, rfl⟩
      rw [← hf] at HT2
      have HOk := Lib.hid (ok_any w.heap.size 4 96 A L C l _ f _ w2 HT2.out.rdr)
      have hp := HP.out
      rw [pT, if_neg he, hln, ← hf] at hp
      by_cases h0 : f = 0
      · rw [if_pos h0] at hp
        have hs := rd_step (hf.symm.trans h0)
        have hd : (f == 0) = true := by simp [h0]
        rw [h0] at HT2
        have HP2 := Lib.hid hp
        have HS := Lib.hid hs
        have hle2 := HT2.out.rdr.le
        clear hp hs hf HP hln
        go_wp2_with fail
        refine HOk.out.mono ?_
        rintro e w3 ⟨rfl, rfl⟩
        clear HOk
        go_wp2_with fail
        go_roundw
        case rel => exact ⟨n, _, Ae2, ne + 1, Ce2, _, by have := HS.out.1; omega, by have := HS.out.2; omega, HP2, HT2, HB2⟩
        case measure =>
          have h1 := HAt.out
          have h2 := HT2.out.atOf
          have h3 := HS.out.1
          omega
      · rw [if_neg h0] at hp
        have hd : (f == 0) = false := by simp [h0]
        have HP2 := Lib.hid hp
        have H0 := Lib.hid h0
        have hc := HT2.out.rdr.c2
        clear hp hf HP hln h0
        go_wp2_with fail
        refine HOk.out.mono ?_
        rintro e w3 ⟨rfl, rfl⟩
        clear HOk
        go_wp2_with fail
        go_quiet (fail)
        go_wp2_with fail
        go_ret2
        refine ⟨below_drewN HB2.out _, .inl ?_⟩
        rw [← HP2.out]
        exact ⟨H0.out, rfl⟩
end Go.Proofs.Ytmcmapgllaopmaa.Cd
end
