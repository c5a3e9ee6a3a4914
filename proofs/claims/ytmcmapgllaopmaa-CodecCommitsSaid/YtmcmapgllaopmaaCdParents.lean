/- commitReader.parents: the walk. -/
import Derived.Test.YtmcmapgllaopmaaCdPars
namespace Go.Proofs.Ytmcmapgllaopmaa.Cd
open Go.RowKit
set_option linter.unusedVariables false

/-- the parents told, and the reader behind -/
def ParRet (R : Nat) (A : Option Addr) (L C : Nat) (l : List Int) (at' : Nat) (f : Int) (E : Nat → Value) (w : World) (e : Ending) (w' : World) : Prop :=
  (∀ x ∈ (pa f l at' L).2.2, x.length = 32) ∧ Rdr w' R 3 110 A L C l (pa f l at' L).2.1 (pa f l at' L).1 E ∧ w.grownBy w' (some R) ∧
  ∃ Ai Ci, e = .returned (.slice Ai (pa f l at' L).2.2.length Ci) ∧ w'.ownsRow w.heap.size 37 32 (.slice Ai (pa f l at' L).2.2.length Ci) (pa f l at' L).2.2.length (idsV (pa f l at' L).2.2)

set_option maxRecDepth 100000 in
set_option maxHeartbeats 4000000 in
theorem parents_any (R : Nat) (A : Option Addr) (L C : Nat) (l : List Int) (at' : Nat) (f : Int) (E : Nat → Value) (w : World) (h : Rdr w R 3 110 A L C l at' f E) :
    Calls Try.prog 88 #[.pointer (some ⟨R, 0, none⟩)] w (ParRet R A L C l at' f E w) := by
  have hRl := h.row.lt
  have HAB : Hid (∀ x, A = some x → 0 < L → x.block < w.heap.size) := Lib.hid (fun x hx h0 => (h.rd.cell x hx).1 h0)
  have HNu := Lib.hid (number_r R 3 110 A L C l at' f E 1 w h (by omega))
  obtain ⟨b0, b1⟩ := tkL_one f l at' L h.rd.len h.rd.byte
  have hm : nv (tkL f l at' L 1) = ((paM f l at' L : Nat) : Int) := by unfold paM; omega
  have hmb : paM f l at' L ≤ 255 := by omega
  have hpa : pa f l at' L = pL l L (paM f l at' L) (pa2 f l at' L) (tkA f at' L 1) [] := rfl
  have hpa2 : pa2 f l at' L = if 8 < paM f l at' L then fl (tkF f at' L 1) 4 else tkF f at' L 1 := rfl
  rw [show ((1 : Nat) : Int) = 1 from rfl] at HNu
  rw [hm] at HNu
  clear hm b0 b1 h
  generalize paM f l at' L = m at *
  generalize pa2 f l at' L = F2 at *
  have HPa := Lib.hid hpa
  have HF2 := Lib.hid hpa2
  clear hpa hpa2
  have hz := zero32
  have hZl : (bv (List.replicate 32 0)).toArray.size = 32 := by simp [bv]
  generalize (bv (List.replicate 32 0)).toArray = ZI at *
  have HZl := Lib.hid hZl
  clear hZl
  go_enter Try.func88, Try.ntmps88
  go_wp2_with fail
  refine HNu.out.mono ?_
  rintro e w1 ⟨rfl, hR, hg⟩
  generalize tkA f at' L 1 = A1 at *
  generalize tkF f at' L 1 = F1 at *
  by_cases h8 : 8 < m
  · have hd8 : (8 : Int) < (m : Int) := by omega
    have HFm := Lib.hid (fail_any R 3 110 A L C l A1 F1 4 E w1 hR)
    have HG1 := Lib.hid hg
    have hF := HF2.out
    rw [if_pos h8] at hF
    rw [← hF] at HFm
    clear hR hg HNu hF HF2
    go_wp2_with fail
    refine HFm.out.mono ?_
    rintro e w2 ⟨rfl, hR2, hg2⟩
    have HR := Lib.hid hR2
    have HG := Lib.hid (grown_trans HG1.out hg2)
    clear hR2 hg2 HFm HG1 hd8 h8
    go_wp2_with fail
    go_loopw [4, 5] (fun s4 s5 wr => ∃ (k : Nat) (Ai : Option Addr) (Ci : Nat) (ids : List (List Int)) (fr : Int) (ar : Nat), s5 = .int .i64 k ∧ s4 = .slice Ai k Ci ∧ k ≤ m ∧ Hid (ids.length = k) ∧ Hid (∀ x ∈ ids, x.length = 32) ∧ Hid (pL l L (m - k) fr ar ids = pa f l at' L) ∧ Hid (wr.ownsRow w.heap.size 37 32 (.slice Ai k Ci) k (idsV ids)) ∧ Hid (Rdr wr R 3 110 A L C l ar fr E) ∧ Hid (w.grownBy wr (some R))) (fun _ s5 _ => m - (intOf s5).toNat)
    case atStart => exact ⟨0, none, 0, [], F2, A1, rfl, rfl, by omega, Lib.hid rfl, Lib.hid (by simp), Lib.hid (by rw [HPa.out]; rfl), Lib.hid ⟨by simp [idsV], .inl ⟨rfl, rfl⟩⟩, HR, HG⟩
    case round =>
      clear HR HG
      obtain ⟨k, Ai, Ci, ids, fr, ar, rfl, rfl, hk, HIl, HI32, HP, HO, HR, HG⟩ := hrel
      by_cases hkm : k < m
      · have HOk := Lib.hid (ok_any R 3 110 A L C l ar fr E wr HR.out)
        have hp := HP.out
        obtain ⟨j, hj⟩ : ∃ j, m - k = j + 1 := ⟨m - k - 1, by omega⟩
        rw [hj, pL] at hp
        by_cases h0 : fr = 0
        · have hd : (fr == 0) = true := by simp [h0]
          rw [if_pos h0] at hp
          have HP2 := Lib.hid hp
          have HId := Lib.hid (id_r R 3 110 A L C l ar fr E wr HR.out)
          obtain ⟨p, hpp⟩ : ∃ p, p = idv (tkL fr l ar L 32) := ⟨_, rfl⟩
          rw [← hpp] at HId HP2
          have hpl : p.length = 32 := by
            rw [hpp]
            refine idv_len _ ?_
            unfold tkL
            split
            · rw [List.length_take]; omega
            · simp
          have HPl := Lib.hid hpl
          clear hp h0 hpp hpl HP
          go_wp2_with fail
          refine HOk.out.mono ?_
          rintro e w3 ⟨rfl, rfl⟩
          clear HOk
          go_wp2_with fail
          refine HId.out.mono ?_
          rintro e w4 ⟨rfl, hR4, hg4⟩
          have hbA := (Below.refl w4.heap.size w4).alloc (Nat.le_refl _) (.cells ZI 37)
          have hrow := row_new w4 ZI 37
          rw [HZl.out] at hrow
          have hbl : (bv p).length = 32 := by rw [bv_len, HPl.out]
          have hRw := HR.out.row.lt
          have hszg := hg4.size
          have hwg := HG.out.size
          have hapt : ∀ x, A = some x → 0 < L → x.block ≠ w4.heap.size := fun x hx h0 => by have := HAB.out x hx h0; omega
          have HSz2 : Hid ((Try.prog.info? 37).map (·.size) = some (bv p).toArray.size) := Lib.hid (by rw [List.size_toArray, hbl]; kernel_rfl)
          have HSz1 : Hid ((Try.prog.info? 37).map (·.size) = some (bv p).length) := Lib.hid (by rw [hbl]; kernel_rfl)
          have HOne := Lib.hid (all_oneCell_toArray (bv_one p))
          have HTh : Hid ((w4.alloc (.cells ZI 37)).there w4.heap.size 0 (bv p).toArray.size) := Lib.hid (fun j hj => by
            rw [List.size_toArray, hbl] at hj
            rw [Nat.zero_add]
            exact ⟨by rw [hrow.cell hj]; rfl, hrow.frozen _⟩)
          have HX5 : Hid (((w4.alloc (.cells ZI 37)).setCells w4.heap.size 0 (bv p)).rangeAt w4.heap.size 0 (bv p)) := Lib.hid (fun j v hj => by
            have hl := (List.getElem?_eq_some_iff.1 hj).1
            rw [Nat.zero_add, (row_lay hrow 0 (bv p)).cell (by omega), layF, if_pos (by omega)]
            simp [hj, List.getD])
          have HR5 := Lib.hid (Rdr.laid (X := w4.heap.size) (by omega) (bv p) 0 _ hapt (hR4.below hbA))
          have HO4 := own_grown HO.out hg4 (fun e => by have := (HO.out.lt R e).1; omega)
          have HO5 := Lib.hid (own_grown (own_keep HO4 hbA) (grown_cells _ w4.heap.size (bv p) 0) (fun e => by have := (HO4.lt _ e).2; omega))
          have HG5 : Hid (w.grownBy ((w4.alloc (.cells ZI 37)).setCells w4.heap.size 0 (bv p)) (some R)) := Lib.hid (by
            have h1 := grown_trans HG.out hg4
            have h2 : w4.grownBy (w4.alloc (.cells ZI 37)) (some R) := ⟨hbA.os, hbA.tape, hbA.output, hbA.size, fun i hi _ => hbA.block i hi⟩
            exact grown_laid (by omega) (bv p) 0 _ (grown_trans h1 h2))
          have hX5 : w4.heap.size < ((w4.alloc (.cells ZI 37)).setCells w4.heap.size 0 (bv p)).heap.size := (row_lay hrow 0 (bv p)).lt
          have hRX : R < w4.heap.size := hR4.row.lt
          have hwX : w.heap.size ≤ w4.heap.size := by omega
          have HBl := Lib.hid hbl
          clear hbA hrow hR4 hg4 hapt HO4 HO HR HG HId hRw hszg hwg hbl
          generalize hDP : bv p = DP at *
          have HDP := Lib.hid hDP
          clear hDP
          go_upto_region 9 with (refine wpList_store_mid rfl _ _ _ rfl w4.heap.size 0 DP.toArray rfl rfl HTh.out HSz2.out HOne.out ?_)
          change Code.wp _ _ _ _ ((w4.alloc (.cells ZI 37)).setCells w4.heap.size 0 DP)
          clear HTh HSz2 HOne
          generalize (w4.alloc (.cells ZI 37)).setCells w4.heap.size 0 DP = w5 at *
          generalize hX : w4.heap.size = X at *
          clear hX
          have HRi := rdids_of_own (World.ownsRow.drew HO5.out) HI32.out (by omega) HIl.out
          have HPa2 := Lib.hid (parent_any p HPl.out Ai k Ci ids w5.drew HRi)
          rw [HDP.out] at HPa2
          obtain ⟨c, hc⟩ : ∃ c, c = cp p ids := ⟨_, rfl⟩
          rw [← hc] at HPa2 HP2
          have dX : Hid (w5.drew.rangeAt X 0 DP) := Lib.hid HX5.out
          have dR := Lib.hid (HR5.out.drewN 1)
          have dO := Lib.hid HO5.out.drew
          have dG : Hid (w.grownBy w5.drew (some R)) := Lib.hid ⟨HG5.out.os, HG5.out.tape, HG5.out.output, HG5.out.size, HG5.out.block⟩
          have hXs : X < w5.drew.heap.size := hX5
          clear hc HRi HX5 HR5 HO5 HG5 hX5
          refine wp_region_noPanic ?_
          refine wp_region_held_drew (S := (fun wS => wS.rangeAt X 0 DP)) (by kernel_rfl) ?_ (fun hHeld => ?_)
          · ((try dsimp only); exact dX.out)
          refine wpAnyH_take (i := 0) (oi := { dst := some 32, op := Op.move (Operand.tmp 0), type := 108, pos := "commit.go:91", after := #[], guard := none }) (v := ?_) rfl (by kernel_rfl) (by kernel_rfl) (by kernel_rfl) (fun _ _ _ h => h) (Or.inl ⟨by rfl, ?_⟩) (by assumption) ?_
          rotate_left 1
          · ((intro w hSw; (try dsimp only at hSw); go_simp) <;> with_reducible rfl)
          (try simp only [Act.put, List.setIfInBounds_toArray, List.set_cons_zero, List.set_cons_succ])
          refine wpAnyH_take (i := 1) (oi := { dst := some 33, op := Op.nilCheck (Operand.tmp 32), type := 0, pos := "commit.go:91", after := #[{ on := 0, ground := Ground.data }], guard := none }) (v := ?_) rfl (by kernel_rfl) (by kernel_rfl) (by kernel_rfl) (fun _ _ _ h => h) (Or.inl ⟨by rfl, ?_⟩) (by assumption) ?_
          rotate_left 1
          · ((intro w hSw; (try dsimp only at hSw); go_simp) <;> with_reducible rfl)
          (try simp only [Act.put, List.setIfInBounds_toArray, List.set_cons_zero, List.set_cons_succ])
          refine wpAnyH_take (i := 2) (oi := { dst := some 34, op := Op.fieldAddr 110 (Operand.tmp 33) 0, type := 0, pos := "commit.go:91", after := #[{ on := 1, ground := Ground.data }], guard := none }) (v := ?_) rfl (by kernel_rfl) (by kernel_rfl) (by kernel_rfl) (fun _ _ _ h => h) (Or.inl ⟨by rfl, ?_⟩) (by assumption) ?_
          rotate_left 1
          · ((intro w hSw; (try dsimp only at hSw); go_simp) <;> with_reducible rfl)
          (try simp only [Act.put, List.setIfInBounds_toArray, List.set_cons_zero, List.set_cons_succ])
          refine' wpAnyH_take (i := 3) (oi := { dst := some 35, op := Op.load 37 (Operand.tmp 6), type := 37, pos := "commit.go:91", after := #[], guard := none }) (v := _) rfl (by kernel_rfl) (by kernel_rfl) (by kernel_rfl) (fun _ _ _ h => h) (yieldsIf_load_mid (by rfl) _ _ rfl _ _ rfl DP _ (fun w hSw => hSw) Try.underlying37 rfl HSz1.out) (by assumption) ?_
          (try simp only [Act.put, List.setIfInBounds_toArray, List.set_cons_zero, List.set_cons_succ])
          refine wpAnyH_take (i := 4) (oi := { dst := some 36, op := Op.move (Operand.tmp 4), type := 38, pos := "commit.go:91", after := #[], guard := none }) (v := ?_) rfl (by kernel_rfl) (by kernel_rfl) (by kernel_rfl) (fun _ _ _ h => h) (Or.inl ⟨by rfl, ?_⟩) (by assumption) ?_
          rotate_left 1
          · ((intro w hSw; (try dsimp only at hSw); go_simp) <;> with_reducible rfl)
          (try simp only [Act.put, List.setIfInBounds_toArray, List.set_cons_zero, List.set_cons_succ])
          refine wpAnyH_ready (rs := [5]) (by kernel_rfl) (by simp) ?_
          refine AllReadyH.cons (o := { dst := some 37, op := Op.call { callee := Callee.value (Operand.func 87), args := #[Operand.tmp 35, Operand.tmp 36], argTypes := #[37, 38] }, type := 25, pos := "commit.go:91", after := #[{ on := 3, ground := Ground.data }, { on := 4, ground := Ground.data }], guard := none }) rfl (fun K hK => ?_) ?_
          · go_simp
            refine HPa2.out.mono ?_
            rintro e wB ⟨rfl, hb⟩
            have eX := Lib.hid (range_below hb dX.out hXs)
            have eR := Lib.hid (dR.out.below hb)
            have eO := Lib.hid (own_keep dO.out hb)
            have eG : Hid (w.grownBy wB (some R)) := Lib.hid (grown_trans dG.out ⟨hb.os, hb.tape, hb.output, hb.size, fun i hi _ => hb.block i hi⟩)
            have eXs := Nat.lt_of_lt_of_le hXs hb.size
            clear dX dR dO dG hXs hb HPa2
            have dX := eX
            have dR := eR
            have dO := eO
            have dG := eG
            have hXs := eXs
            clear eX eR eO eG eXs
            have HFm := Lib.hid (fail_any R 3 110 A L C l _ _ c E wB dR.out)
            (try go_wp2_with fail)
            refine hK.out _ _ ?_ (fun hNew => ?_)
            · ((try dsimp only); exact dX.out)
            clear hK K hHeld
            have hHeld := hNew
            clear hNew
            (try simp only [Act.put, List.setIfInBounds_toArray, List.set_cons_zero, List.set_cons_succ])
            refine wpAnyH_ready (rs := [6]) (by kernel_rfl) (by simp) ?_
            refine AllReadyH.cons (o := { dst := some 38, op := Op.call { callee := Callee.value (Operand.func 85), args := #[Operand.tmp 34, Operand.tmp 37], argTypes := #[94, 25] }, type := 0, pos := "commit.go:91", after := #[{ on := 2, ground := Ground.data }, { on := 5, ground := Ground.data }, { on := 5, ground := Ground.chain }], guard := none }) rfl (fun K hK => ?_) ?_
            · go_simp
              refine HFm.out.mono ?_
              rintro e wC ⟨rfl, hR, hg⟩
              have eX := Lib.hid (range_grown dX.out hg hXs (by omega))
              have eR := Lib.hid hR
              have eO := Lib.hid (own_grown dO.out hg (fun e => by have := (dO.out.lt R e).1; omega))
              have eG := Lib.hid (grown_trans dG.out hg)
              have eXs := Nat.lt_of_lt_of_le hXs hg.size
              clear dX dR dO dG hXs hR hg HFm
              have dX := eX
              have dR := eR
              have dO := eO
              have dG := eG
              have hXs := eXs
              clear eX eR eO eG eXs
              (try go_wp2_with fail)
              refine hK.out _ _ ?_ (fun hNew => ?_)
              · ((try dsimp only); exact dX.out)
              clear hK K hHeld
              have hHeld := hNew
              clear hNew
              (try simp only [Act.put, List.setIfInBounds_toArray, List.set_cons_zero, List.set_cons_succ])
              refine wpAnyH_done (by kernel_rfl) ?_ _
              refine NoPanic.normal ?_
              clear hHeld
              have hn := new_id wC p 37
              rw [HDP.out] at hn
              have HN : Hid (∀ j u, (bv p)[j]? = some u → (wC.alloc (.cells DP.toArray 37)).cell? ((⟨wC.heap.size, 0, none⟩ : Addr).add j) = some u) := Lib.hid (fun j u hj => hn j u (by rw [← HDP.out]; exact hj))
              have hA := (Below.refl wC.heap.size wC).alloc (Nat.le_refl _) (.cells DP.toArray 37)
              have aO := Lib.hid (own_keep dO.out hA)
              have aR := Lib.hid (dR.out.below hA)
              have aG : Hid (w.grownBy (wC.alloc (.cells DP.toArray 37)) (some R)) := Lib.hid (grown_trans dG.out ⟨hA.os, hA.tape, hA.output, hA.size, fun i hi _ => hA.block i hi⟩)
              have aB : Hid (w.heap.size ≤ (wC.alloc (.cells DP.toArray 37)).heap.size) := Lib.hid aG.out.size
              have HBp : Hid ((bv p).length = 32) := Lib.hid (by rw [HDP.out]; exact HBl.out)
              clear hn hA dO dR dG
              go_wp2_with (first
                | (refine wpList_load_mid rfl _ _ rfl X 0 rfl DP _ dX.out Try.underlying37 rfl HSz1.out ?_)
                | (refine wpList_build_id _ rfl (.tmp 40) rfl DP rfl HBl.out ?_)
                | (at_builtin; refine wpList_append_id _ rfl (.tmp 39) (.tmp 41) rfl w.heap.size (.slice Ai k Ci) k ids rfl aO.out wC.heap.size p rfl HN.out HBp.out (by omega) aB.out ?_))
              intro A9 C9 wE hoE hgE
              have eB : Below w.heap.size (wC.alloc (.cells DP.toArray 37)) wE := (Below.refl _ _).grown hgE aB.out (fun j hj => (aO.out.lt j hj).1)
              have eR := Lib.hid (aR.out.belowB eB hRl HAB.out)
              have eG : Hid (w.grownBy wE (some R)) := Lib.hid ⟨eB.os.trans aG.out.os, eB.tape.trans aG.out.tape, eB.output.trans aG.out.output, Nat.le_trans aG.out.size eB.size, fun i hi hne => (eB.block i hi).trans (aG.out.block i hi hne)⟩
              have eO := Lib.hid hoE
              clear hoE hgE eB aO aR aG aB HN
              go_wp2_with fail
              go_roundw
              case rel => exact ⟨k + 1, A9, C9, ids ++ [p], _, _, by go_num, rfl, by omega, Lib.hid (by simp [HIl.out]), Lib.hid (fun y hy => by
                rcases List.mem_append.1 hy with hy | hy
                · exact HI32.out y hy
                · rw [List.mem_singleton.1 hy]; exact HPl.out), Lib.hid (by rw [show m - (k + 1) = j by omega]; exact HP2.out), eO, eR, eG⟩
              case measure => simp [intOf]; omega
            exact AllReadyH.nil
          exact AllReadyH.nil
        · have hd : (fr == 0) = false := by simp [h0]
          rw [if_neg h0] at hp
          have HP2 := Lib.hid hp
          clear hp h0 HP
          go_wp2_with fail
          refine HOk.out.mono ?_
          rintro e w3 ⟨rfl, rfl⟩
          clear HOk
          go_wp2_with fail
          go_ret
          unfold ParRet
          rw [← HP2.out]
          dsimp only
          exact ⟨HI32.out, HR.out, HG.out, Ai, Ci, by rw [HIl.out]; rfl, by rw [HIl.out]; exact HO.out⟩
      · have hp := HP.out
        rw [show m - k = 0 by omega, pL] at hp
        have HP2 := Lib.hid hp
        clear hp HP
        go_wp2_with fail
        go_ret
        unfold ParRet
        rw [← HP2.out]
        dsimp only
        exact ⟨HI32.out, HR.out, HG.out, Ai, Ci, by rw [HIl.out]; rfl, by rw [HIl.out]; exact HO.out⟩
  · have hd8 : ¬ (8 : Int) < (m : Int) := by omega
    have hF := HF2.out
    rw [if_neg h8] at hF
    rw [← hF] at hR
    have HR := Lib.hid hR
    have HG := Lib.hid hg
    clear hR hg HNu hF HF2
    go_wp2_with fail
    go_loopw [4, 5] (fun s4 s5 wr => ∃ (k : Nat) (Ai : Option Addr) (Ci : Nat) (ids : List (List Int)) (fr : Int) (ar : Nat), s5 = .int .i64 k ∧ s4 = .slice Ai k Ci ∧ k ≤ m ∧ Hid (ids.length = k) ∧ Hid (∀ x ∈ ids, x.length = 32) ∧ Hid (pL l L (m - k) fr ar ids = pa f l at' L) ∧ Hid (wr.ownsRow w.heap.size 37 32 (.slice Ai k Ci) k (idsV ids)) ∧ Hid (Rdr wr R 3 110 A L C l ar fr E) ∧ Hid (w.grownBy wr (some R))) (fun _ s5 _ => m - (intOf s5).toNat)
    case atStart => exact ⟨0, none, 0, [], F2, A1, rfl, rfl, by omega, Lib.hid rfl, Lib.hid (by simp), Lib.hid (by rw [HPa.out]; rfl), Lib.hid ⟨by simp [idsV], .inl ⟨rfl, rfl⟩⟩, HR, HG⟩
    case round =>
      clear HR HG
      obtain ⟨k, Ai, Ci, ids, fr, ar, rfl, rfl, hk, HIl, HI32, HP, HO, HR, HG⟩ := hrel
      by_cases hkm : k < m
      · have HOk := Lib.hid (ok_any R 3 110 A L C l ar fr E wr HR.out)
        have hp := HP.out
        obtain ⟨j, hj⟩ : ∃ j, m - k = j + 1 := ⟨m - k - 1, by omega⟩
        rw [hj, pL] at hp
        by_cases h0 : fr = 0
        · have hd : (fr == 0) = true := by simp [h0]
          rw [if_pos h0] at hp
          have HP2 := Lib.hid hp
          have HId := Lib.hid (id_r R 3 110 A L C l ar fr E wr HR.out)
          obtain ⟨p, hpp⟩ : ∃ p, p = idv (tkL fr l ar L 32) := ⟨_, rfl⟩
          rw [← hpp] at HId HP2
          have hpl : p.length = 32 := by
            rw [hpp]
            refine idv_len _ ?_
            unfold tkL
            split
            · rw [List.length_take]; omega
            · simp
          have HPl := Lib.hid hpl
          clear hp h0 hpp hpl HP
          go_wp2_with fail
          refine HOk.out.mono ?_
          rintro e w3 ⟨rfl, rfl⟩
          clear HOk
          go_wp2_with fail
          refine HId.out.mono ?_
          rintro e w4 ⟨rfl, hR4, hg4⟩
          have hbA := (Below.refl w4.heap.size w4).alloc (Nat.le_refl _) (.cells ZI 37)
          have hrow := row_new w4 ZI 37
          rw [HZl.out] at hrow
          have hbl : (bv p).length = 32 := by rw [bv_len, HPl.out]
          have hRw := HR.out.row.lt
          have hszg := hg4.size
          have hwg := HG.out.size
          have hapt : ∀ x, A = some x → 0 < L → x.block ≠ w4.heap.size := fun x hx h0 => by have := HAB.out x hx h0; omega
          have HSz2 : Hid ((Try.prog.info? 37).map (·.size) = some (bv p).toArray.size) := Lib.hid (by rw [List.size_toArray, hbl]; kernel_rfl)
          have HSz1 : Hid ((Try.prog.info? 37).map (·.size) = some (bv p).length) := Lib.hid (by rw [hbl]; kernel_rfl)
          have HOne := Lib.hid (all_oneCell_toArray (bv_one p))
          have HTh : Hid ((w4.alloc (.cells ZI 37)).there w4.heap.size 0 (bv p).toArray.size) := Lib.hid (fun j hj => by
            rw [List.size_toArray, hbl] at hj
            rw [Nat.zero_add]
            exact ⟨by rw [hrow.cell hj]; rfl, hrow.frozen _⟩)
          have HX5 : Hid (((w4.alloc (.cells ZI 37)).setCells w4.heap.size 0 (bv p)).rangeAt w4.heap.size 0 (bv p)) := Lib.hid (fun j v hj => by
            have hl := (List.getElem?_eq_some_iff.1 hj).1
            rw [Nat.zero_add, (row_lay hrow 0 (bv p)).cell (by omega), layF, if_pos (by omega)]
            simp [hj, List.getD])
          have HR5 := Lib.hid (Rdr.laid (X := w4.heap.size) (by omega) (bv p) 0 _ hapt (hR4.below hbA))
          have HO4 := own_grown HO.out hg4 (fun e => by have := (HO.out.lt R e).1; omega)
          have HO5 := Lib.hid (own_grown (own_keep HO4 hbA) (grown_cells _ w4.heap.size (bv p) 0) (fun e => by have := (HO4.lt _ e).2; omega))
          have HG5 : Hid (w.grownBy ((w4.alloc (.cells ZI 37)).setCells w4.heap.size 0 (bv p)) (some R)) := Lib.hid (by
            have h1 := grown_trans HG.out hg4
            have h2 : w4.grownBy (w4.alloc (.cells ZI 37)) (some R) := ⟨hbA.os, hbA.tape, hbA.output, hbA.size, fun i hi _ => hbA.block i hi⟩
            exact grown_laid (by omega) (bv p) 0 _ (grown_trans h1 h2))
          have hX5 : w4.heap.size < ((w4.alloc (.cells ZI 37)).setCells w4.heap.size 0 (bv p)).heap.size := (row_lay hrow 0 (bv p)).lt
          have hRX : R < w4.heap.size := hR4.row.lt
          have hwX : w.heap.size ≤ w4.heap.size := by omega
          have HBl := Lib.hid hbl
          clear hbA hrow hR4 hg4 hapt HO4 HO HR HG HId hRw hszg hwg hbl
          generalize hDP : bv p = DP at *
          have HDP := Lib.hid hDP
          clear hDP
          go_upto_region 9 with (refine wpList_store_mid rfl _ _ _ rfl w4.heap.size 0 DP.toArray rfl rfl HTh.out HSz2.out HOne.out ?_)
          change Code.wp _ _ _ _ ((w4.alloc (.cells ZI 37)).setCells w4.heap.size 0 DP)
          clear HTh HSz2 HOne
          generalize (w4.alloc (.cells ZI 37)).setCells w4.heap.size 0 DP = w5 at *
          generalize hX : w4.heap.size = X at *
          clear hX
          have HRi := rdids_of_own (World.ownsRow.drew HO5.out) HI32.out (by omega) HIl.out
          have HPa2 := Lib.hid (parent_any p HPl.out Ai k Ci ids w5.drew HRi)
          rw [HDP.out] at HPa2
          obtain ⟨c, hc⟩ : ∃ c, c = cp p ids := ⟨_, rfl⟩
          rw [← hc] at HPa2 HP2
          have dX : Hid (w5.drew.rangeAt X 0 DP) := Lib.hid HX5.out
          have dR := Lib.hid (HR5.out.drewN 1)
          have dO := Lib.hid HO5.out.drew
          have dG : Hid (w.grownBy w5.drew (some R)) := Lib.hid ⟨HG5.out.os, HG5.out.tape, HG5.out.output, HG5.out.size, HG5.out.block⟩
          have hXs : X < w5.drew.heap.size := hX5
          clear hc HRi HX5 HR5 HO5 HG5 hX5
          refine wp_region_noPanic ?_
          refine wp_region_held_drew (S := (fun wS => wS.rangeAt X 0 DP)) (by kernel_rfl) ?_ (fun hHeld => ?_)
          · ((try dsimp only); exact dX.out)
          refine wpAnyH_take (i := 0) (oi := { dst := some 32, op := Op.move (Operand.tmp 0), type := 108, pos := "commit.go:91", after := #[], guard := none }) (v := ?_) rfl (by kernel_rfl) (by kernel_rfl) (by kernel_rfl) (fun _ _ _ h => h) (Or.inl ⟨by rfl, ?_⟩) (by assumption) ?_
          rotate_left 1
          · ((intro w hSw; (try dsimp only at hSw); go_simp) <;> with_reducible rfl)
          (try simp only [Act.put, List.setIfInBounds_toArray, List.set_cons_zero, List.set_cons_succ])
          refine wpAnyH_take (i := 1) (oi := { dst := some 33, op := Op.nilCheck (Operand.tmp 32), type := 0, pos := "commit.go:91", after := #[{ on := 0, ground := Ground.data }], guard := none }) (v := ?_) rfl (by kernel_rfl) (by kernel_rfl) (by kernel_rfl) (fun _ _ _ h => h) (Or.inl ⟨by rfl, ?_⟩) (by assumption) ?_
          rotate_left 1
          · ((intro w hSw; (try dsimp only at hSw); go_simp) <;> with_reducible rfl)
          (try simp only [Act.put, List.setIfInBounds_toArray, List.set_cons_zero, List.set_cons_succ])
          refine wpAnyH_take (i := 2) (oi := { dst := some 34, op := Op.fieldAddr 110 (Operand.tmp 33) 0, type := 0, pos := "commit.go:91", after := #[{ on := 1, ground := Ground.data }], guard := none }) (v := ?_) rfl (by kernel_rfl) (by kernel_rfl) (by kernel_rfl) (fun _ _ _ h => h) (Or.inl ⟨by rfl, ?_⟩) (by assumption) ?_
          rotate_left 1
          · ((intro w hSw; (try dsimp only at hSw); go_simp) <;> with_reducible rfl)
          (try simp only [Act.put, List.setIfInBounds_toArray, List.set_cons_zero, List.set_cons_succ])
          refine' wpAnyH_take (i := 3) (oi := { dst := some 35, op := Op.load 37 (Operand.tmp 6), type := 37, pos := "commit.go:91", after := #[], guard := none }) (v := _) rfl (by kernel_rfl) (by kernel_rfl) (by kernel_rfl) (fun _ _ _ h => h) (yieldsIf_load_mid (by rfl) _ _ rfl _ _ rfl DP _ (fun w hSw => hSw) Try.underlying37 rfl HSz1.out) (by assumption) ?_
          (try simp only [Act.put, List.setIfInBounds_toArray, List.set_cons_zero, List.set_cons_succ])
          refine wpAnyH_take (i := 4) (oi := { dst := some 36, op := Op.move (Operand.tmp 4), type := 38, pos := "commit.go:91", after := #[], guard := none }) (v := ?_) rfl (by kernel_rfl) (by kernel_rfl) (by kernel_rfl) (fun _ _ _ h => h) (Or.inl ⟨by rfl, ?_⟩) (by assumption) ?_
          rotate_left 1
          · ((intro w hSw; (try dsimp only at hSw); go_simp) <;> with_reducible rfl)
          (try simp only [Act.put, List.setIfInBounds_toArray, List.set_cons_zero, List.set_cons_succ])
          refine wpAnyH_ready (rs := [5]) (by kernel_rfl) (by simp) ?_
          refine AllReadyH.cons (o := { dst := some 37, op := Op.call { callee := Callee.value (Operand.func 87), args := #[Operand.tmp 35, Operand.tmp 36], argTypes := #[37, 38] }, type := 25, pos := "commit.go:91", after := #[{ on := 3, ground := Ground.data }, { on := 4, ground := Ground.data }], guard := none }) rfl (fun K hK => ?_) ?_
          · go_simp
            refine HPa2.out.mono ?_
            rintro e wB ⟨rfl, hb⟩
            have eX := Lib.hid (range_below hb dX.out hXs)
            have eR := Lib.hid (dR.out.below hb)
            have eO := Lib.hid (own_keep dO.out hb)
            have eG : Hid (w.grownBy wB (some R)) := Lib.hid (grown_trans dG.out ⟨hb.os, hb.tape, hb.output, hb.size, fun i hi _ => hb.block i hi⟩)
            have eXs := Nat.lt_of_lt_of_le hXs hb.size
            clear dX dR dO dG hXs hb HPa2
            have dX := eX
            have dR := eR
            have dO := eO
            have dG := eG
            have hXs := eXs
            clear eX eR eO eG eXs
            have HFm := Lib.hid (fail_any R 3 110 A L C l _ _ c E wB dR.out)
            (try go_wp2_with fail)
            refine hK.out _ _ ?_ (fun hNew => ?_)
            · ((try dsimp only); exact dX.out)
            clear hK K hHeld
            have hHeld := hNew
            clear hNew
            (try simp only [Act.put, List.setIfInBounds_toArray, List.set_cons_zero, List.set_cons_succ])
            refine wpAnyH_ready (rs := [6]) (by kernel_rfl) (by simp) ?_
            refine AllReadyH.cons (o := { dst := some 38, op := Op.call { callee := Callee.value (Operand.func 85), args := #[Operand.tmp 34, Operand.tmp 37], argTypes := #[94, 25] }, type := 0, pos := "commit.go:91", after := #[{ on := 2, ground := Ground.data }, { on := 5, ground := Ground.data }, { on := 5, ground := Ground.chain }], guard := none }) rfl (fun K hK => ?_) ?_
            · go_simp
              refine HFm.out.mono ?_
              rintro e wC ⟨rfl, hR, hg⟩
              have eX := Lib.hid (range_grown dX.out hg hXs (by omega))
              have eR := Lib.hid hR
              have eO := Lib.hid (own_grown dO.out hg (fun e => by have := (dO.out.lt R e).1; omega))
              have eG := Lib.hid (grown_trans dG.out hg)
              have eXs := Nat.lt_of_lt_of_le hXs hg.size
              clear dX dR dO dG hXs hR hg HFm
              have dX := eX
              have dR := eR
              have dO := eO
              have dG := eG
              have hXs := eXs
              clear eX eR eO eG eXs
              (try go_wp2_with fail)
              refine hK.out _ _ ?_ (fun hNew => ?_)
              · ((try dsimp only); exact dX.out)
              clear hK K hHeld
              have hHeld := hNew
              clear hNew
              (try simp only [Act.put, List.setIfInBounds_toArray, List.set_cons_zero, List.set_cons_succ])
              refine wpAnyH_done (by kernel_rfl) ?_ _
              refine NoPanic.normal ?_
              clear hHeld
              have hn := new_id wC p 37
              rw [HDP.out] at hn
              have HN : Hid (∀ j u, (bv p)[j]? = some u → (wC.alloc (.cells DP.toArray 37)).cell? ((⟨wC.heap.size, 0, none⟩ : Addr).add j) = some u) := Lib.hid (fun j u hj => hn j u (by rw [← HDP.out]; exact hj))
              have hA := (Below.refl wC.heap.size wC).alloc (Nat.le_refl _) (.cells DP.toArray 37)
              have aO := Lib.hid (own_keep dO.out hA)
              have aR := Lib.hid (dR.out.below hA)
              have aG : Hid (w.grownBy (wC.alloc (.cells DP.toArray 37)) (some R)) := Lib.hid (grown_trans dG.out ⟨hA.os, hA.tape, hA.output, hA.size, fun i hi _ => hA.block i hi⟩)
              have aB : Hid (w.heap.size ≤ (wC.alloc (.cells DP.toArray 37)).heap.size) := Lib.hid aG.out.size
              have HBp : Hid ((bv p).length = 32) := Lib.hid (by rw [HDP.out]; exact HBl.out)
              clear hn hA dO dR dG
              go_wp2_with (first
                | (refine wpList_load_mid rfl _ _ rfl X 0 rfl DP _ dX.out Try.underlying37 rfl HSz1.out ?_)
                | (refine wpList_build_id _ rfl (.tmp 40) rfl DP rfl HBl.out ?_)
                | (at_builtin; refine wpList_append_id _ rfl (.tmp 39) (.tmp 41) rfl w.heap.size (.slice Ai k Ci) k ids rfl aO.out wC.heap.size p rfl HN.out HBp.out (by omega) aB.out ?_))
              intro A9 C9 wE hoE hgE
              have eB : Below w.heap.size (wC.alloc (.cells DP.toArray 37)) wE := (Below.refl _ _).grown hgE aB.out (fun j hj => (aO.out.lt j hj).1)
              have eR := Lib.hid (aR.out.belowB eB hRl HAB.out)
              have eG : Hid (w.grownBy wE (some R)) := Lib.hid ⟨eB.os.trans aG.out.os, eB.tape.trans aG.out.tape, eB.output.trans aG.out.output, Nat.le_trans aG.out.size eB.size, fun i hi hne => (eB.block i hi).trans (aG.out.block i hi hne)⟩
              have eO := Lib.hid hoE
              clear hoE hgE eB aO aR aG aB HN
              go_wp2_with fail
              go_roundw
              case rel => exact ⟨k + 1, A9, C9, ids ++ [p], _, _, by go_num, rfl, by omega, Lib.hid (by simp [HIl.out]), Lib.hid (fun y hy => by
                rcases List.mem_append.1 hy with hy | hy
                · exact HI32.out y hy
                · rw [List.mem_singleton.1 hy]; exact HPl.out), Lib.hid (by rw [show m - (k + 1) = j by omega]; exact HP2.out), eO, eR, eG⟩
              case measure => simp [intOf]; omega
            exact AllReadyH.nil
          exact AllReadyH.nil
        · have hd : (fr == 0) = false := by simp [h0]
          rw [if_neg h0] at hp
          have HP2 := Lib.hid hp
          clear hp h0 HP
          go_wp2_with fail
          refine HOk.out.mono ?_
          rintro e w3 ⟨rfl, rfl⟩
          clear HOk
          go_wp2_with fail
          go_ret
          unfold ParRet
          rw [← HP2.out]
          dsimp only
          exact ⟨HI32.out, HR.out, HG.out, Ai, Ci, by rw [HIl.out]; rfl, by rw [HIl.out]; exact HO.out⟩
      · have hp := HP.out
        rw [show m - k = 0 by omega, pL] at hp
        have HP2 := Lib.hid hp
        clear hp HP
        go_wp2_with fail
        go_ret
        unfold ParRet
        rw [← HP2.out]
        dsimp only
        exact ⟨HI32.out, HR.out, HG.out, Ai, Ci, by rw [HIl.out]; rfl, by rw [HIl.out]; exact HO.out⟩
end Go.Proofs.Ytmcmapgllaopmaa.Cd
