/- Texts of one's own, merged: CdREc, CdOne, CdSameC. -/
import Derived.Test.YtmcmapgllaopmaaMg
import Derived.Test.YtmcmapgllaopmaaMi

section
/- The document's EncodeCommit at any commit. -/
namespace Go.Proofs.Ytmcmapgllaopmaa.Cd
open Go.RowKit
set_option linter.unusedVariables false

theorem step_append_own (w : World) {ops : Array Oper} {o : Oper} {a : Act} {K : Act → World → Prop} {Q : Exit → Act → World → Prop} {E : Prop} (hgd : o.guard = none) (s x : Operand)
    (ho : o.op = .call { callee := .builtin .append, args := #[s, x], argTypes := #[23, 23] })
    (B : Nat) (v : Value) (n : Nat) (d : List Int) (hs : a.eval s = v) (hown : w.ownsRow B 5 1 v n (bv d))
    (ad : Addr) (m c : Nat) (news : List Value) (hx : a.eval x = .slice (some ad) m c) (hl : news.length = m * 1) (hnews : ∀ j u, news[j]? = some u → w.cell? (ad.add j) = some u) (h1 : ∀ u ∈ news, u.oneCell' = true)
    (h63 : n + m ≤ maxLen) (hbytes : (n + m) * 1 ≤ 140737488355328) (hbase : B ≤ w.heap.size)
    (h : ∀ v' w', w'.ownsRow B 5 1 v' (n + m) (bv d ++ news) → w.grownBy w' v.ownBlock → K (a.put o.dst v') w') : if Region.wanted o (yielded ops a.tmps) = true then Oper.wp Try.prog o a w K Q else E := by
  have hw : Region.wanted o (yielded ops a.tmps) = true := by simp [Region.wanted, hgd]
  rw [if_pos hw]
  obtain ⟨i0, hi, hz0, hz1, hz2⟩ := info_parts info5
  exact wp_append_own w s x 23 ho B 5 i0 (.int .u8 0) 1 1 Try.underlying23 hi hz0 hz1 hz2 rfl (by decide) v n (bv d) hs hown ad m c news hx hl hnews h1 h63 hbytes hbase (fun v' w' h2 h3 _ => h v' w' h2 h3)
theorem step_append_str (w : World) {ops : Array Oper} {o : Oper} {a : Act} {K : Act → World → Prop} {Q : Exit → Act → World → Prop} {E : Prop} (hgd : o.guard = none) (sl x : Operand)
    (ho : o.op = .call { callee := .builtin .append, args := #[sl, x], argTypes := #[23, 9] })
    (B : Nat) (v : Value) (n : Nat) (xs : List Value) (hs : a.eval sl = v) (hown : w.ownsRow B 5 1 v n xs) (s : ByteArray) (hx : a.eval x = .string s)
    (h63 : n + s.size ≤ maxLen) (hbytes : n + s.size ≤ 140737488355328) (hbase : B ≤ w.heap.size)
    (h : ∀ v' w', w'.ownsRow B 5 1 v' (n + s.size) (xs ++ Lib.strCells s) → w.grownBy w' v.ownBlock → K (a.put o.dst v') w') : if Region.wanted o (yielded ops a.tmps) = true then Oper.wp Try.prog o a w K Q else E := by
  have hw : Region.wanted o (yielded ops a.tmps) = true := by simp [Region.wanted, hgd]
  rw [if_pos hw]
  obtain ⟨i0, hi, hz0, hz1, hz2⟩ := info_parts info5
  obtain ⟨v', w', hr, h2, h3, h4⟩ := Lib.run_append_own_string (P := Try.prog) w B 23 9 o.type 5 i0 Try.underlying23 Try.underlying9 hi hz0 hz1 hz2 v n xs hown s h63 hbytes hbase
  unfold Oper.wp execOp
  simp only [ho, resolve, invoke, builtin, Sem.run_bind, Sem.run_pure, Result.andThen_ok, List.map_toArray, List.map_cons, List.map_nil, hs, hx, hr]
  exact h v' w' h2 h3

set_option maxRecDepth 100000 in
set_option maxHeartbeats 4000000 in
theorem rencodeCommit_any (tr : List Int) (hl : tr.length = 32) (A : Option Addr) (n C : Nat) (ids : List (List Int)) (au : ByteArray) (tm : Int) (ms : ByteArray) (w : World) (h : RdIds w A n C ids) :
    Calls Try.prog 18 #[.agg (cm tr (.slice A n C) au tm ms).toArray] w (EcRet tr ids au tm ms w) := by
  obtain ⟨i0, hi, hz0, hz1, hz2⟩ := info_parts info5
  have hX := cm_row w tr (.slice A n C) au tm ms hl
  have hb0 := (Below.refl w.heap.size w).alloc (Nat.le_refl _) (.cells (cm tr (.slice A n C) au tm ms).toArray 40)
  have HLt : Hid (∀ x, A = some x → 0 < n → x.block < w.heap.size) := Lib.hid (fun x hx h0 => by
    obtain ⟨g, o, h1, h2, -⟩ := h.cell h0
    rw [h1] at hx
    obtain rfl := Option.some.inj hx
    exact h2)
  have HI := Lib.hid (h.below hb0)
  have HB := Lib.hid hb0
  have HX := Lib.hid hX
  have HRg := Lib.hid (cm_range hX hl)
  have HSz := Lib.hid (show (Try.prog.info? 40).map (·.size) = some (cm tr (.slice A n C) au tm ms).length by rw [cm_len _ _ _ _ _ hl]; kernel_rfl)
  have HCk := Lib.hid (wrong_any tr hl A n C ids au tm ms _ (h.below hb0))
  have hcap := h.cap
  have hmax := h.max
  have hbig := h.big
  have HLn := Lib.hid h.len
  have HI0 := Lib.hid h.ids
  have hz32 := zero32
  have HTl := Lib.hid hl
  clear hX hb0 h
  generalize hZI : (bv (List.replicate 32 0)).toArray = ZI at *
  have hZl : ZI.size = 32 := by rw [← hZI]; simp [bv]
  have HZl := Lib.hid hZl
  clear hZl hZI
  generalize hCM : cm tr (.slice A n C) au tm ms = CM at *
  clear hCM
  go_enter Try.func18, Try.ntmps18
  have hag : (Value.agg CM.toArray).cells = CM.toArray := rfl
  go_upto_region 1 with (fail)
  generalize w.alloc (.cells CM.toArray 40) = w1 at *
  obtain ⟨X, hX⟩ : ∃ X, X = w.heap.size := ⟨_, rfl⟩
  rw [← hX] at HX HRg HB HLt ⊢
  have HXw := Lib.hid hX
  clear hX hag
  obtain ⟨E, hE⟩ : ∃ E, E = wE tr ids au ms := ⟨_, rfl⟩
  rw [← hE] at HCk
  have HE := Lib.hid hE
  have hXs := HX.out.lt
  clear hE
  go_wp2_with (refine wpList_load_mid rfl _ _ rfl X 0 rfl CM _ HRg.out Try.underlying40 rfl HSz.out ?_)
  refine HCk.out.mono ?_
  rintro e w2 ⟨rfl, hb⟩
  have HI2 := Lib.hid (HI.out.below hb)
  have HB2 := Lib.hid (HB.out.trans (hb.mono (Nat.le_of_lt hXs)))
  have HX2 := Lib.hid (World.rowIs.of_block HX.out (hb.block X hXs))
  clear hb HI HB HX HRg HSz HCk hXs
  by_cases h0 : E = 0
  · have hE0 : (E != 0) = false := by simp [h0]
    have H0 := Lib.hid (HE.out.symm.trans h0)
    have hwz := wE_zero H0.out
    have hn8 : n ≤ 8 := by have := hwz.1; have := HLn.out; omega
    have ha1 := hwz.2.1
    have hm1 := hwz.2.2
    have hXB : X ≤ w2.heap.size := Nat.le_of_lt HX2.out.lt
    have HTr : Hid (w2.drew.rangeAt X 0 (bv tr)) := Lib.hid ((World.rangeAt_drew _ _ _ _).2 (cm_tree HX2.out HTl.out))
    have HSt : Hid ((Try.prog.info? 37).map (·.size) = some (bv tr).length) := Lib.hid (by rw [bv_len, HTl.out]; kernel_rfl)
    have hwn : IntKind.u8.wrap (n : Int) = (n : Int) := IntWalk.u8_in _ (by omega)
    have dX := Lib.hid (row_drew HX2.out)
    have dI : Hid (RdIds w2.drew A n C ids) := Lib.hid ⟨HI2.out.cap, HI2.out.max, HI2.out.big, HI2.out.len, HI2.out.ids, HI2.out.cell⟩
    have dB := Lib.hid HB2.out.drew
    have dS : Hid (w2.drew.rangeAt X 0 (bv tr) ∧ w2.drew.cell? ⟨X, 32, none⟩ = some (.slice A n C)) := Lib.hid ⟨HTr.out, dX.out.cell (i := 32) (by omega)⟩
    have HB0 := Lib.hid (Below.refl w2.drew.heap.size w2.drew)
    clear h0 hwz HI2 HX2 HB2 HTr
    go_wp2_with fail
    refine wp_region_noPanic ?_
    refine wp_region_held_drew (S := (fun wS => wS.rangeAt X 0 (bv tr) ∧ wS.cell? ⟨X, 32, none⟩ = some (.slice A n C))) (by kernel_rfl) ?_ (fun hHeld => ?_)
    · ((try dsimp only); exact ⟨dS.out.1, dS.out.2⟩)
    refine wpAnyH_take (i := 0) (oi := { dst := some 12, op := Op.fieldAddr 40 (Operand.tmp 1) 0, type := 0, pos := "ref.go:161", after := #[], guard := none }) (v := ?_) rfl (by kernel_rfl) (by kernel_rfl) (by kernel_rfl) (fun _ _ _ h => h) (Or.inl ⟨by rfl, ?_⟩) (by assumption) ?_
    rotate_left 1
    · ((intro w hSw; (try dsimp only at hSw); go_simp) <;> with_reducible rfl)
    (try simp only [Act.put, List.setIfInBounds_toArray, List.set_cons_zero, List.set_cons_succ])
    refine' wpAnyH_take (i := 1) (oi := { dst := some 13, op := Op.load 37 (Operand.tmp 12), type := 37, pos := "ref.go:161", after := #[{ on := 0, ground := Ground.data }], guard := none }) (v := _) rfl (by kernel_rfl) (by kernel_rfl) (by kernel_rfl) (fun _ _ _ h => h) (yieldsIf_load_mid (by rfl) _ _ rfl _ _ rfl (bv tr) _ (fun w hSw => hSw.1) Try.underlying37 rfl HSt.out) (by assumption) ?_
    (try simp only [Act.put, List.setIfInBounds_toArray, List.set_cons_zero, List.set_cons_succ])
    refine wpAnyH_take (i := 3) (oi := { dst := some 15, op := Op.fieldAddr 40 (Operand.tmp 1) 1, type := 0, pos := "ref.go:161", after := #[], guard := none }) (v := ?_) rfl (by kernel_rfl) (by kernel_rfl) (by kernel_rfl) (fun _ _ _ h => h) (Or.inl ⟨by rfl, ?_⟩) (by assumption) ?_
    rotate_left 1
    · ((intro w hSw; (try dsimp only at hSw); go_simp) <;> with_reducible rfl)
    (try simp only [Act.put, List.setIfInBounds_toArray, List.set_cons_zero, List.set_cons_succ])
    refine wpAnyH_take (i := 4) (oi := { dst := some 16, op := Op.load 38 (Operand.tmp 15), type := 38, pos := "ref.go:161", after := #[{ on := 3, ground := Ground.data }], guard := none }) (v := ?_) rfl (by kernel_rfl) (by kernel_rfl) (by kernel_rfl) (fun _ _ _ h => h) (Or.inl ⟨by rfl, ?_⟩) (by assumption) ?_
    rotate_left 1
    · ((intro w hSw; (try dsimp only at hSw); go_simp) <;> with_reducible rfl)
    (try simp only [Act.put, List.setIfInBounds_toArray, List.set_cons_zero, List.set_cons_succ])
    refine wpAnyH_take (i := 5) (oi := { dst := some 17, op := Op.call { callee := Callee.builtin Builtin.len, args := #[Operand.tmp 16], argTypes := #[38] }, type := 3, pos := "ref.go:161", after := #[{ on := 4, ground := Ground.data }], guard := none }) (v := ?_) rfl (by kernel_rfl) (by kernel_rfl) (by kernel_rfl) (fun _ _ _ h => h) (Or.inl ⟨by rfl, ?_⟩) (by assumption) ?_
    rotate_left 1
    · ((intro w hSw; (try dsimp only at hSw); go_simp) <;> with_reducible rfl)
    (try simp only [Act.put, List.setIfInBounds_toArray, List.set_cons_zero, List.set_cons_succ])
    refine wpAnyH_take (i := 6) (oi := { dst := some 18, op := Op.convert 3 5 (Operand.tmp 17), type := 5, pos := "ref.go:161", after := #[{ on := 5, ground := Ground.data }], guard := none }) (v := ?_) rfl (by kernel_rfl) (by kernel_rfl) (by kernel_rfl) (fun _ _ _ h => h) (Or.inl ⟨by rfl, ?_⟩) (by assumption) ?_
    rotate_left 1
    · ((intro w hSw; (try dsimp only at hSw); go_simp) <;> with_reducible rfl)
    (try simp only [Act.put, List.setIfInBounds_toArray, List.set_cons_zero, List.set_cons_succ])
    refine wpAnyH_ready (rs := [2, 7]) (by kernel_rfl) (by simp) ?_
    refine AllReadyH.cons (o := { dst := some 14, op := Op.call { callee := Callee.value (Operand.func 43), args := #[Operand.const (Value.slice none 0 0), Operand.tmp 13], argTypes := #[23, 37] }, type := 23, pos := "ref.go:161", after := #[{ on := 1, ground := Ground.data }], guard := none }) rfl (fun K hK => ?_) ?_
    · go_simp
      refine (put_k _ _ 0 (bv []) tr HTl.out w2.drew (Nat.le_refl _) (own_none' _ _) (by decide)).mono ?_
      rintro e wP ⟨vP, rfl, ho, hb, hk⟩
      have dO : Hid (wP.ownsRow w2.drew.heap.size 5 1 vP 32 (bv tr)) := Lib.hid (own_eq ho (by simp [bv]) (by omega))
      have eB := Lib.hid (dB.out.trans (hb.mono hXB))
      have eX := Lib.hid (dX.out.of_block (hb.block X dX.out.lt))
      have eI := Lib.hid (dI.out.below hb)
      have eS : Hid (wP.rangeAt X 0 (bv tr) ∧ wP.cell? ⟨X, 32, none⟩ = some (.slice A n C)) := Lib.hid ⟨cm_tree eX.out HTl.out, eX.out.cell (i := 32) (by omega)⟩
      have hP : X ≤ wP.heap.size := Nat.le_trans hXB hb.size
      have hwP : w2.heap.size ≤ wP.heap.size := hb.size
      clear dB dX dI dS ho hb hk
      have dB := eB
      have dX := eX
      have dI := eI
      have dS := eS
      clear eB eX eI eS
      (try go_wp2_with fail)
      refine hK.out _ _ ?_ (fun hNew => ?_)
      · ((try dsimp only); exact ⟨dS.out.1, dS.out.2⟩)
      clear hK K hHeld
      have hHeld := hNew
      clear hNew
      (try simp only [Act.put, List.setIfInBounds_toArray, List.set_cons_zero, List.set_cons_succ])
      refine wpAnyH_ready (rs := [7]) (by kernel_rfl) (by simp) ?_
      refine AllReadyH.cons (o := { dst := some 19, op := Op.buildSlice 23 1 #[(0, Operand.tmp 18)], type := 23, pos := "ref.go:161", after := #[{ on := 6, ground := Ground.data }], guard := none }) rfl (fun K hK => ?_) ?_
      · go_simp
        have hb := (Below.refl wP.heap.size wP).alloc (Nat.le_refl _) (.cells (bv [(n : Int)]).toArray 5)
        have eO := Lib.hid (own_base (own_keep dO.out hb) hXB)
        have dN := Lib.hid (new_cells [(n : Int)] wP 5)
        have eB := Lib.hid (dB.out.trans (hb.mono hP))
        have eX := Lib.hid (dX.out.of_block (hb.block X dX.out.lt))
        have eI := Lib.hid (dI.out.below hb)
        have eS : Hid ((wP.alloc (.cells (bv [(n : Int)]).toArray 5)).rangeAt X 0 (bv tr) ∧ (wP.alloc (.cells (bv [(n : Int)]).toArray 5)).cell? ⟨X, 32, none⟩ = some (.slice A n C)) := Lib.hid ⟨cm_tree eX.out HTl.out, eX.out.cell (i := 32) (by omega)⟩
        have hC : X ≤ (wP.alloc (.cells (bv [(n : Int)]).toArray 5)).heap.size := Nat.le_trans hP hb.size
        clear dO dB dX dI dS hb
        have dO := eO
        have dB := eB
        have dX := eX
        have dI := eI
        have dS := eS
        clear eO eB eX eI eS
        change K _ (wP.alloc (.cells (bv [(n : Int)]).toArray 5))
        generalize wP.alloc (.cells (bv [(n : Int)]).toArray 5) = wC at *
        generalize wP.heap.size = Z at *
        (try go_wp2_with fail)
        refine hK.out _ _ ?_ (fun hNew => ?_)
        · ((try dsimp only); exact ⟨dS.out.1, dS.out.2⟩)
        clear hK K hHeld
        have hHeld := hNew
        clear hNew
        (try simp only [Act.put, List.setIfInBounds_toArray, List.set_cons_zero, List.set_cons_succ])
        refine wpAnyH_ready (rs := [8]) (by kernel_rfl) (by simp) ?_
        refine AllReadyH.cons (o := { dst := some 20, op := Op.call { callee := Callee.builtin Builtin.append, args := #[Operand.tmp 14, Operand.tmp 19], argTypes := #[23, 23] }, type := 23, pos := "ref.go:161", after := #[{ on := 2, ground := Ground.data }, { on := 7, ground := Ground.data }, { on := 2, ground := Ground.chain }], guard := none }) rfl (fun K hK => ?_) ?_
        · refine step_append_own _ rfl _ _ rfl X _ 32 tr rfl dO.out ⟨Z, 0, none⟩ 1 1 (bv [(n : Int)]) rfl rfl dN.out (bv_one _) (by unfold maxLen; omega) (by omega) hC ?_
          intro v4 w4 ho hg
          have hb4 := below_grown hC dO.out hg
          have hk4 := KeptT.own dO.out hg
          have eO : Hid (w4.ownsRow X 5 1 v4 (33 + 0 * 32) (bv (tr ++ (n : Int) :: (ids.take 0).flatten))) := Lib.hid (own_eq ho (by simp [bv]) (by omega))
          have eX := Lib.hid (hk4.row dX.out (by decide))
          have eI := Lib.hid (dI.out.belowB hb4 HLt.out)
          have eB := Lib.hid (dB.out.trans hb4)
          have eS : Hid (w4.rangeAt X 0 (bv tr) ∧ w4.cell? ⟨X, 32, none⟩ = some (.slice A n C)) := Lib.hid ⟨cm_tree eX.out HTl.out, eX.out.cell (i := 32) (by omega)⟩
          clear dO dN dX dI dB dS ho hg hb4 hk4
          have HO4 := eO
          have HX4 := eX
          have HI4 := eI
          have HB4 := eB
          have dS := eS
          clear eO eX eI eB eS
          (try go_wp2_with fail)
          refine hK.out _ _ ?_ (fun hNew => ?_)
          · ((try dsimp only); exact ⟨dS.out.1, dS.out.2⟩)
          clear hK K hHeld
          have hHeld := hNew
          clear hNew
          (try simp only [Act.put, List.setIfInBounds_toArray, List.set_cons_zero, List.set_cons_succ])
          refine wpAnyH_take (i := 9) (oi := { dst := some 5, op := Op.assign (Operand.tmp 20), type := 23, pos := "ref.go:161", after := #[{ on := 8, ground := Ground.data }, { on := 8, ground := Ground.chain }, { on := 0, ground := Ground.phase }, { on := 1, ground := Ground.phase }, { on := 2, ground := Ground.phase }, { on := 3, ground := Ground.phase }, { on := 4, ground := Ground.phase }, { on := 5, ground := Ground.phase }, { on := 6, ground := Ground.phase }, { on := 7, ground := Ground.phase }, { on := 8, ground := Ground.phase }], guard := none }) (v := ?_) rfl (by kernel_rfl) (by kernel_rfl) (by kernel_rfl) (fun _ _ _ h => h) (Or.inl ⟨by rfl, ?_⟩) (by assumption) ?_
          rotate_left 1
          · ((intro w hSw; (try dsimp only at hSw); go_simp) <;> with_reducible rfl)
          (try simp only [Act.put, List.setIfInBounds_toArray, List.set_cons_zero, List.set_cons_succ])
          refine wpAnyH_done (by kernel_rfl) ?_ _
          refine NoPanic.normal ?_
          clear hHeld
          have hc32 := dS.out.2
          go_wp2_with fail
          clear hc32 dS
          go_loopw [5, 6] (fun b i wr => ∃ k : Nat, i = .int .i64 k ∧ k ≤ n ∧ Hid (wr.ownsRow X 5 1 b (33 + k * 32) (bv (tr ++ (n : Int) :: (ids.take k).flatten))) ∧ Hid (RdIds wr A n C ids) ∧ Hid (wr.rowIs X 40 36 (cmF tr (.slice A n C) au tm ms)) ∧ Hid (Below X w wr)) (fun _ i _ => n - (intOf i).toNat)
          case atStart => exact ⟨0, rfl, Nat.zero_le _, HO4, HI4, HX4, HB4⟩
          case round =>
            clear HO4 HI4 HX4 HB4
            obtain ⟨k, rfl, hk, HO, HI, HX, HB⟩ := hrel
            have hXw : X < wr.heap.size := HX.out.lt
            by_cases hlt : k < n
            · obtain ⟨g, o, rfl, hg, hc⟩ := HI.out.cell (by omega)
              have hpl := HI.out.ids _ (getD_mem (k := k) (by have := HLn.out; omega))
              have hpr := hc k hlt
              have hfs := flat_step ids k (by have := HLn.out; omega)
              obtain ⟨p, hp⟩ : ∃ p, p = ids.getD k [] := ⟨_, rfl⟩
              rw [← hp] at hpl hpr hfs
              have Hpl := Lib.hid hpl
              have HPr := Lib.hid hpr
              have HFs := Lib.hid hfs
              have HES : Hid ((Try.prog.info? 37).map (·.size) = some (bv p).length) := Lib.hid (by rw [bv_len, hpl]; kernel_rfl)
              have hcx : wr.cell? ⟨X, 32, none⟩ = some (.slice (some ⟨g, o, none⟩) n C) := HX.out.cell (i := 32) (by omega)
              have hk0 : (0 : Int) ≤ (k : Int) := by omega
              have hk1 : (k : Int) < (n : Int) := by omega
              have hkn : k < n := hlt
              have hXl2 : X ≤ wr.heap.size := Nat.le_of_lt hXw
              have HPu := Lib.hid (put_k X _ (33 + k * 32) _ p hpl wr hXl2 HO.out (by omega))
              clear hpl hpr hp hc hfs hg
              generalize hDP : bv p = DP at *
              have HDP := Lib.hid hDP
              clear hDP
              go_wp2_with (refine wpList_load_mid rfl _ _ rfl g (o + k * 32) rfl DP _ HPr.out Try.underlying37 rfl HES.out ?_)
              refine HPu.out.mono ?_
              rintro e w6 ⟨v6, rfl, ho, hb6, hk6⟩
              have HO6 : Hid (w6.ownsRow X 5 1 v6 (33 + (k + 1) * 32) (bv (tr ++ (n : Int) :: (ids.take (k + 1)).flatten))) := Lib.hid (own_eq ho (by rw [HFs.out, ← HDP.out]; simp [bv]) (by omega))
              have HI6 := Lib.hid (HI.out.belowB hb6 HLt.out)
              have HX6 := Lib.hid (hk6.row HX.out (by decide))
              have HB6 := Lib.hid (HB.out.trans hb6)
              clear ho hb6 hk6 HO HI HX HB HPr HPu hcx
              go_wp2_with fail
              go_roundw
              case rel => exact ⟨k + 1, by go_num, by omega, HO6, HI6, HX6, HB6⟩
              case measure => simp [intOf]; omega
            · have ek : k = n := by omega
              have hd2 : decide ((k : Int) < (n : Int)) = false := by simp; omega
              have hd3 : ¬ k < n := hlt
              have hfl : (ids.take k).flatten = ids.flatten := by rw [ek, List.take_of_length_le (by have := HLn.out; omega)]
              have ho0 := HO.out
              rw [hfl] at ho0
              have HO0 := Lib.hid ho0
              have hc32 : wr.cell? ⟨X, 32, none⟩ = some (.slice A n C) := HX.out.cell (i := 32) (by omega)
              have hXl : X ≤ wr.heap.size := Nat.le_of_lt hXw
              have dX := Lib.hid (row_drew HX.out)
              have dO := Lib.hid (own_drew HO0.out)
              have dB := Lib.hid HB.out.drew
              have dS : Hid (wr.drew.cell? ⟨X, 33, none⟩ = some (.string au)) := Lib.hid (dX.out.cell (i := 33) (by omega))
              have hkk : k ≤ 8 := by omega
              clear hfl ho0 HO HI HX HB HO0 ek
              go_wp2_with fail
              clear hc32
              refine wp_region_noPanic ?_
              refine wp_region_held_drew (S := (fun wS => wS.cell? ⟨X, 33, none⟩ = some (.string au))) (by kernel_rfl) ?_ (fun hHeld => ?_)
              · ((try dsimp only); exact dS.out)
              refine wpAnyH_take (i := 0) (oi := { dst := some 35, op := Op.move (Operand.tmp 5), type := 23, pos := "ref.go:165", after := #[], guard := none }) (v := ?_) rfl (by kernel_rfl) (by kernel_rfl) (by kernel_rfl) (fun _ _ _ h => h) (Or.inl ⟨by rfl, ?_⟩) (by assumption) ?_
              rotate_left 1
              · ((intro w hSw; (try dsimp only at hSw); go_simp) <;> with_reducible rfl)
              (try simp only [Act.put, List.setIfInBounds_toArray, List.set_cons_zero, List.set_cons_succ])
              refine wpAnyH_take (i := 1) (oi := { dst := some 36, op := Op.fieldAddr 40 (Operand.tmp 1) 2, type := 0, pos := "ref.go:165", after := #[], guard := none }) (v := ?_) rfl (by kernel_rfl) (by kernel_rfl) (by kernel_rfl) (fun _ _ _ h => h) (Or.inl ⟨by rfl, ?_⟩) (by assumption) ?_
              rotate_left 1
              · ((intro w hSw; (try dsimp only at hSw); go_simp) <;> with_reducible rfl)
              (try simp only [Act.put, List.setIfInBounds_toArray, List.set_cons_zero, List.set_cons_succ])
              refine wpAnyH_take (i := 2) (oi := { dst := some 37, op := Op.load 9 (Operand.tmp 36), type := 9, pos := "ref.go:165", after := #[{ on := 1, ground := Ground.data }], guard := none }) (v := ?_) rfl (by kernel_rfl) (by kernel_rfl) (by kernel_rfl) (fun _ _ _ h => h) (Or.inl ⟨by rfl, ?_⟩) (by assumption) ?_
              rotate_left 1
              · ((intro w hSw; (try dsimp only at hSw); go_simp) <;> with_reducible rfl)
              (try simp only [Act.put, List.setIfInBounds_toArray, List.set_cons_zero, List.set_cons_succ])
              refine wpAnyH_take (i := 3) (oi := { dst := some 38, op := Op.call { callee := Callee.builtin Builtin.len, args := #[Operand.tmp 37], argTypes := #[9] }, type := 3, pos := "ref.go:165", after := #[{ on := 2, ground := Ground.data }], guard := none }) (v := ?_) rfl (by kernel_rfl) (by kernel_rfl) (by kernel_rfl) (fun _ _ _ h => h) (Or.inl ⟨by rfl, ?_⟩) (by assumption) ?_
              rotate_left 1
              · ((intro w hSw; (try dsimp only at hSw); go_simp) <;> with_reducible rfl)
              (try simp only [Act.put, List.setIfInBounds_toArray, List.set_cons_zero, List.set_cons_succ])
              refine wpAnyH_take (i := 4) (oi := { dst := some 39, op := Op.convert 3 105 (Operand.tmp 38), type := 105, pos := "ref.go:165", after := #[{ on := 3, ground := Ground.data }], guard := none }) (v := ?_) rfl (by kernel_rfl) (by kernel_rfl) (by kernel_rfl) (fun _ _ _ h => h) (Or.inl ⟨by rfl, ?_⟩) (by assumption) ?_
              rotate_left 1
              · ((intro w hSw; (try dsimp only at hSw); go_simp) <;> with_reducible rfl)
              (try simp only [Act.put, List.setIfInBounds_toArray, List.set_cons_zero, List.set_cons_succ])
              refine wpAnyH_take (i := 6) (oi := { dst := some 41, op := Op.fieldAddr 40 (Operand.tmp 1) 2, type := 0, pos := "ref.go:165", after := #[], guard := none }) (v := ?_) rfl (by kernel_rfl) (by kernel_rfl) (by kernel_rfl) (fun _ _ _ h => h) (Or.inl ⟨by rfl, ?_⟩) (by assumption) ?_
              rotate_left 1
              · ((intro w hSw; (try dsimp only at hSw); go_simp) <;> with_reducible rfl)
              (try simp only [Act.put, List.setIfInBounds_toArray, List.set_cons_zero, List.set_cons_succ])
              refine wpAnyH_take (i := 7) (oi := { dst := some 42, op := Op.load 9 (Operand.tmp 41), type := 9, pos := "ref.go:165", after := #[{ on := 6, ground := Ground.data }], guard := none }) (v := ?_) rfl (by kernel_rfl) (by kernel_rfl) (by kernel_rfl) (fun _ _ _ h => h) (Or.inl ⟨by rfl, ?_⟩) (by assumption) ?_
              rotate_left 1
              · ((intro w hSw; (try dsimp only at hSw); go_simp) <;> with_reducible rfl)
              (try simp only [Act.put, List.setIfInBounds_toArray, List.set_cons_zero, List.set_cons_succ])
              refine wpAnyH_ready (rs := [5]) (by kernel_rfl) (by simp) ?_
              refine AllReadyH.cons (o := { dst := some 40, op := Op.call { callee := Callee.value (Operand.func 53), args := #[Operand.tmp 35, Operand.const (Value.int IntKind.i64 2), Operand.tmp 39], argTypes := #[23, 3, 105] }, type := 23, pos := "ref.go:165", after := #[{ on := 0, ground := Ground.data }, { on := 4, ground := Ground.data }], guard := none }) rfl (fun K hK => ?_) ?_
              · go_simp
                have HNr := Lib.hid (rnum_k X _ (33 + k * 32) _ (au.size : Int) 2 wr.drew hXl dO.out (by omega) (by omega) (by omega) (by omega))
                rw [show ((2 : Nat) : Int) = 2 from rfl] at HNr
                rw [show IntKind.u64.wrap (au.size : Int) = (au.size : Int) from by rw [IntKind.wrap_u64]; omega]
                refine HNr.out.mono ?_
                clear HNr
                rintro e wN ⟨vN, rfl, ho, hb, hk⟩
                have eO := Lib.hid ho
                have eX := Lib.hid (hk.row dX.out (by decide))
                have eB := Lib.hid (dB.out.trans hb)
                have eS : Hid (wN.cell? ⟨X, 33, none⟩ = some (.string au)) := Lib.hid (eX.out.cell (i := 33) (by omega))
                have hNl : X ≤ wN.heap.size := Nat.le_of_lt eX.out.lt
                clear dO dX dB dS ho hb hk
                have dO := eO
                have dX := eX
                have dB := eB
                have dS := eS
                clear eO eX eB eS
                (try go_wp2_with fail)
                refine hK.out _ _ ?_ (fun hNew => ?_)
                · ((try dsimp only); exact dS.out)
                clear hK K hHeld
                have hHeld := hNew
                clear hNew
                (try simp only [Act.put, List.setIfInBounds_toArray, List.set_cons_zero, List.set_cons_succ])
                refine wpAnyH_ready (rs := [8]) (by kernel_rfl) (by simp) ?_
                refine AllReadyH.cons (o := { dst := some 43, op := Op.call { callee := Callee.builtin Builtin.append, args := #[Operand.tmp 40, Operand.tmp 42], argTypes := #[23, 9] }, type := 23, pos := "ref.go:165", after := #[{ on := 5, ground := Ground.data }, { on := 7, ground := Ground.data }, { on := 5, ground := Ground.chain }], guard := none }) rfl (fun K hK => ?_) ?_
                · refine step_append_str _ rfl _ _ rfl X _ ((33 + k * 32) + 2) _ rfl dO.out au rfl (by unfold maxLen; omega) (by omega) hNl ?_
                  intro vT wT ho hg
                  have hb := below_grown hNl dO.out hg
                  have hk := KeptT.own dO.out hg
                  have eO := Lib.hid ho
                  have eX := Lib.hid (hk.row dX.out (by decide))
                  have eB := Lib.hid (dB.out.trans hb)
                  have eS : Hid (wT.cell? ⟨X, 33, none⟩ = some (.string au)) := Lib.hid (eX.out.cell (i := 33) (by omega))
                  clear dO dX dB dS ho hg hb hk hNl
                  have dO := eO
                  have dX := eX
                  have dB := eB
                  have dS := eS
                  clear eO eX eB eS
                  (try go_wp2_with fail)
                  refine hK.out _ _ ?_ (fun hNew => ?_)
                  · ((try dsimp only); exact dS.out)
                  clear hK K hHeld
                  have hHeld := hNew
                  clear hNew
                  (try simp only [Act.put, List.setIfInBounds_toArray, List.set_cons_zero, List.set_cons_succ])
                  refine wpAnyH_take (i := 9) (oi := { dst := some 5, op := Op.assign (Operand.tmp 43), type := 23, pos := "ref.go:165", after := #[{ on := 8, ground := Ground.data }, { on := 8, ground := Ground.chain }, { on := 0, ground := Ground.phase }, { on := 1, ground := Ground.phase }, { on := 2, ground := Ground.phase }, { on := 3, ground := Ground.phase }, { on := 4, ground := Ground.phase }, { on := 5, ground := Ground.phase }, { on := 6, ground := Ground.phase }, { on := 7, ground := Ground.phase }, { on := 8, ground := Ground.phase }], guard := none }) (v := ?_) rfl (by kernel_rfl) (by kernel_rfl) (by kernel_rfl) (fun _ _ _ h => h) (Or.inl ⟨by rfl, ?_⟩) (by assumption) ?_
                  rotate_left 1
                  · ((intro w hSw; (try dsimp only at hSw); go_simp) <;> with_reducible rfl)
                  (try simp only [Act.put, List.setIfInBounds_toArray, List.set_cons_zero, List.set_cons_succ])
                  refine wpAnyH_done (by kernel_rfl) ?_ _
                  refine NoPanic.normal ?_
                  clear hHeld
                  have hX7 : X ≤ wT.heap.size := Nat.le_of_lt dX.out.lt
                  have hc34 : wT.cell? ⟨X, 34, none⟩ = some (.int .i64 tm) := dX.out.cell (i := 34) (by omega)
                  have hu0 : 0 ≤ IntKind.u64.wrap tm ∧ IntKind.u64.wrap tm < 18446744073709551616 := by rw [IntKind.wrap_u64]; omega
                  have HNb := Lib.hid (rnum_k X vT (33 + k * 32 + 2 + au.size) _ (IntKind.u64.wrap tm) 8 wT hX7 dO.out (by omega) hu0.1 hu0.2 (by omega))
                  rw [show ((8 : Nat) : Int) = 8 from rfl] at HNb
                  clear hu0 dS
                  go_wp2_with fail
                  refine HNb.out.mono ?_
                  rintro e w8 ⟨v8, rfl, ho, hb, hk8⟩
                  have eO := Lib.hid (own_drew ho)
                  have eX := Lib.hid (row_drew (hk8.row dX.out (by decide)))
                  have eB := Lib.hid (dB.out.trans hb).drew
                  have hXl8 : X ≤ w8.drew.heap.size := Nat.le_of_lt eX.out.lt
                  have dS : Hid (w8.drew.cell? ⟨X, 35, none⟩ = some (.string ms)) := Lib.hid (eX.out.cell (i := 35) (by omega))
                  clear dO dX dB ho hb hk8 HNb hc34
                  have dO := eO
                  have dX := eX
                  have dB := eB
                  clear eO eX eB
                  go_wp2_with fail
                  refine wp_region_noPanic ?_
                  refine wp_region_held_drew (S := (fun wS => wS.cell? ⟨X, 35, none⟩ = some (.string ms))) (by kernel_rfl) ?_ (fun hHeld => ?_)
                  · ((try dsimp only); exact dS.out)
                  refine wpAnyH_take (i := 0) (oi := { dst := some 49, op := Op.move (Operand.tmp 5), type := 23, pos := "ref.go:167", after := #[], guard := none }) (v := ?_) rfl (by kernel_rfl) (by kernel_rfl) (by kernel_rfl) (fun _ _ _ h => h) (Or.inl ⟨by rfl, ?_⟩) (by assumption) ?_
                  rotate_left 1
                  · ((intro w hSw; (try dsimp only at hSw); go_simp) <;> with_reducible rfl)
                  (try simp only [Act.put, List.setIfInBounds_toArray, List.set_cons_zero, List.set_cons_succ])
                  refine wpAnyH_take (i := 1) (oi := { dst := some 50, op := Op.fieldAddr 40 (Operand.tmp 1) 4, type := 0, pos := "ref.go:167", after := #[], guard := none }) (v := ?_) rfl (by kernel_rfl) (by kernel_rfl) (by kernel_rfl) (fun _ _ _ h => h) (Or.inl ⟨by rfl, ?_⟩) (by assumption) ?_
                  rotate_left 1
                  · ((intro w hSw; (try dsimp only at hSw); go_simp) <;> with_reducible rfl)
                  (try simp only [Act.put, List.setIfInBounds_toArray, List.set_cons_zero, List.set_cons_succ])
                  refine wpAnyH_take (i := 2) (oi := { dst := some 51, op := Op.load 9 (Operand.tmp 50), type := 9, pos := "ref.go:167", after := #[{ on := 1, ground := Ground.data }], guard := none }) (v := ?_) rfl (by kernel_rfl) (by kernel_rfl) (by kernel_rfl) (fun _ _ _ h => h) (Or.inl ⟨by rfl, ?_⟩) (by assumption) ?_
                  rotate_left 1
                  · ((intro w hSw; (try dsimp only at hSw); go_simp) <;> with_reducible rfl)
                  (try simp only [Act.put, List.setIfInBounds_toArray, List.set_cons_zero, List.set_cons_succ])
                  refine wpAnyH_take (i := 3) (oi := { dst := some 52, op := Op.call { callee := Callee.builtin Builtin.len, args := #[Operand.tmp 51], argTypes := #[9] }, type := 3, pos := "ref.go:167", after := #[{ on := 2, ground := Ground.data }], guard := none }) (v := ?_) rfl (by kernel_rfl) (by kernel_rfl) (by kernel_rfl) (fun _ _ _ h => h) (Or.inl ⟨by rfl, ?_⟩) (by assumption) ?_
                  rotate_left 1
                  · ((intro w hSw; (try dsimp only at hSw); go_simp) <;> with_reducible rfl)
                  (try simp only [Act.put, List.setIfInBounds_toArray, List.set_cons_zero, List.set_cons_succ])
                  refine wpAnyH_take (i := 4) (oi := { dst := some 53, op := Op.convert 3 105 (Operand.tmp 52), type := 105, pos := "ref.go:167", after := #[{ on := 3, ground := Ground.data }], guard := none }) (v := ?_) rfl (by kernel_rfl) (by kernel_rfl) (by kernel_rfl) (fun _ _ _ h => h) (Or.inl ⟨by rfl, ?_⟩) (by assumption) ?_
                  rotate_left 1
                  · ((intro w hSw; (try dsimp only at hSw); go_simp) <;> with_reducible rfl)
                  (try simp only [Act.put, List.setIfInBounds_toArray, List.set_cons_zero, List.set_cons_succ])
                  refine wpAnyH_take (i := 6) (oi := { dst := some 55, op := Op.fieldAddr 40 (Operand.tmp 1) 4, type := 0, pos := "ref.go:167", after := #[], guard := none }) (v := ?_) rfl (by kernel_rfl) (by kernel_rfl) (by kernel_rfl) (fun _ _ _ h => h) (Or.inl ⟨by rfl, ?_⟩) (by assumption) ?_
                  rotate_left 1
                  · ((intro w hSw; (try dsimp only at hSw); go_simp) <;> with_reducible rfl)
                  (try simp only [Act.put, List.setIfInBounds_toArray, List.set_cons_zero, List.set_cons_succ])
                  refine wpAnyH_take (i := 7) (oi := { dst := some 56, op := Op.load 9 (Operand.tmp 55), type := 9, pos := "ref.go:167", after := #[{ on := 6, ground := Ground.data }], guard := none }) (v := ?_) rfl (by kernel_rfl) (by kernel_rfl) (by kernel_rfl) (fun _ _ _ h => h) (Or.inl ⟨by rfl, ?_⟩) (by assumption) ?_
                  rotate_left 1
                  · ((intro w hSw; (try dsimp only at hSw); go_simp) <;> with_reducible rfl)
                  (try simp only [Act.put, List.setIfInBounds_toArray, List.set_cons_zero, List.set_cons_succ])
                  refine wpAnyH_ready (rs := [5]) (by kernel_rfl) (by simp) ?_
                  refine AllReadyH.cons (o := { dst := some 54, op := Op.call { callee := Callee.value (Operand.func 53), args := #[Operand.tmp 49, Operand.const (Value.int IntKind.i64 2), Operand.tmp 53], argTypes := #[23, 3, 105] }, type := 23, pos := "ref.go:167", after := #[{ on := 0, ground := Ground.data }, { on := 4, ground := Ground.data }], guard := none }) rfl (fun K hK => ?_) ?_
                  · go_simp
                    have HNr := Lib.hid (rnum_k X _ (33 + k * 32 + 2 + au.size + 8) _ (ms.size : Int) 2 w8.drew hXl8 dO.out (by omega) (by omega) (by omega) (by omega))
                    rw [show ((2 : Nat) : Int) = 2 from rfl] at HNr
                    rw [show IntKind.u64.wrap (ms.size : Int) = (ms.size : Int) from by rw [IntKind.wrap_u64]; omega]
                    refine HNr.out.mono ?_
                    clear HNr
                    rintro e wM ⟨vM, rfl, ho, hb, hk⟩
                    have eO := Lib.hid ho
                    have eX := Lib.hid (hk.row dX.out (by decide))
                    have eB := Lib.hid (dB.out.trans hb)
                    have eS : Hid (wM.cell? ⟨X, 35, none⟩ = some (.string ms)) := Lib.hid (eX.out.cell (i := 35) (by omega))
                    have hMl : X ≤ wM.heap.size := Nat.le_of_lt eX.out.lt
                    clear dO dX dB dS ho hb hk
                    have dO := eO
                    have dX := eX
                    have dB := eB
                    have dS := eS
                    clear eO eX eB eS
                    (try go_wp2_with fail)
                    refine hK.out _ _ ?_ (fun hNew => ?_)
                    · ((try dsimp only); exact dS.out)
                    clear hK K hHeld
                    have hHeld := hNew
                    clear hNew
                    (try simp only [Act.put, List.setIfInBounds_toArray, List.set_cons_zero, List.set_cons_succ])
                    refine wpAnyH_ready (rs := [8]) (by kernel_rfl) (by simp) ?_
                    refine AllReadyH.cons (o := { dst := some 57, op := Op.call { callee := Callee.builtin Builtin.append, args := #[Operand.tmp 54, Operand.tmp 56], argTypes := #[23, 9] }, type := 23, pos := "ref.go:167", after := #[{ on := 5, ground := Ground.data }, { on := 7, ground := Ground.data }, { on := 5, ground := Ground.chain }], guard := none }) rfl (fun K hK => ?_) ?_
                    · refine step_append_str _ rfl _ _ rfl X _ ((33 + k * 32 + 2 + au.size + 8) + 2) _ rfl dO.out ms rfl (by unfold maxLen; omega) (by omega) hMl ?_
                      intro vU wU ho hg
                      have hb := below_grown hMl dO.out hg
                      have hk := KeptT.own dO.out hg
                      have eO := Lib.hid ho
                      have eX := Lib.hid (hk.row dX.out (by decide))
                      have eB := Lib.hid (dB.out.trans hb)
                      have eS : Hid (wU.cell? ⟨X, 35, none⟩ = some (.string ms)) := Lib.hid (eX.out.cell (i := 35) (by omega))
                      clear dO dX dB dS ho hg hb hk hMl
                      have dO := eO
                      have dX := eX
                      have dB := eB
                      have dS := eS
                      clear eO eX eB eS
                      (try go_wp2_with fail)
                      refine hK.out _ _ ?_ (fun hNew => ?_)
                      · ((try dsimp only); exact dS.out)
                      clear hK K hHeld
                      have hHeld := hNew
                      clear hNew
                      (try simp only [Act.put, List.setIfInBounds_toArray, List.set_cons_zero, List.set_cons_succ])
                      refine wpAnyH_take (i := 9) (oi := { dst := some 2, op := Op.assign (Operand.tmp 57), type := 23, pos := "ref.go:167", after := #[{ on := 8, ground := Ground.data }, { on := 8, ground := Ground.chain }, { on := 0, ground := Ground.phase }, { on := 1, ground := Ground.phase }, { on := 2, ground := Ground.phase }, { on := 3, ground := Ground.phase }, { on := 4, ground := Ground.phase }, { on := 5, ground := Ground.phase }, { on := 6, ground := Ground.phase }, { on := 7, ground := Ground.phase }, { on := 8, ground := Ground.phase }], guard := none }) (v := ?_) rfl (by kernel_rfl) (by kernel_rfl) (by kernel_rfl) (fun _ _ _ h => h) (Or.inl ⟨by rfl, ?_⟩) (by assumption) ?_
                      rotate_left 1
                      · ((intro w hSw; (try dsimp only at hSw); go_simp) <;> with_reducible rfl)
                      (try simp only [Act.put, List.setIfInBounds_toArray, List.set_cons_zero, List.set_cons_succ])
                      refine wpAnyH_take (i := 10) (oi := { dst := some 3, op := Op.assign (Operand.const (Value.int IntKind.i64 0)), type := 3, pos := "ref.go:167", after := #[{ on := 9, ground := Ground.chain }, { on := 0, ground := Ground.phase }, { on := 1, ground := Ground.phase }, { on := 2, ground := Ground.phase }, { on := 3, ground := Ground.phase }, { on := 4, ground := Ground.phase }, { on := 5, ground := Ground.phase }, { on := 6, ground := Ground.phase }, { on := 7, ground := Ground.phase }, { on := 8, ground := Ground.phase }, { on := 9, ground := Ground.phase }], guard := none }) (v := ?_) rfl (by kernel_rfl) (by kernel_rfl) (by kernel_rfl) (fun _ _ _ h => h) (Or.inl ⟨by rfl, ?_⟩) (by assumption) ?_
                      rotate_left 1
                      · ((intro w hSw; (try dsimp only at hSw); go_simp) <;> with_reducible rfl)
                      (try simp only [Act.put, List.setIfInBounds_toArray, List.set_cons_zero, List.set_cons_succ])
                      refine wpAnyH_done (by kernel_rfl) ?_ _
                      refine NoPanic.normal ?_
                      clear hHeld
                      have HR : Hid (ecR tr ids au tm ms = cmB tr ids au tm ms) := Lib.hid (by unfold ecR; rw [if_pos H0.out])
                      have HLc : Hid ((cmB tr ids au tm ms).length = 33 + k * 32 + 2 + au.size + 8 + 2 + ms.size) := Lib.hid (by
                        have hfl := flat_len ids HI0.out
                        have h1 := HTl.out
                        have h2 := HLn.out
                        simp only [cmB, List.length_append, List.length_cons, hfl, be_length, sv_len]
                        omega)
                      have HO9 : Hid (wU.ownsRow X 5 1 vU (cmB tr ids au tm ms).length (bv (cmB tr ids au tm ms))) := Lib.hid (own_eq dO.out (by rw [← sv_cells, ← sv_cells]; simp [cmB, bv, HLn.out]) (by rw [HLc.out]))
                      have HB9 := dB
                      clear dO dX dB dS
                      go_wp2_with fail
                      go_ret2
                      refine ⟨by rw [← HXw.out]; exact HB9.out, vU, ?_, ?_⟩
                      · rw [H0.out]; rfl
                      · rw [HR.out, ← HXw.out]; exact HO9.out
                    exact AllReadyH.nil
                  exact AllReadyH.nil
                exact AllReadyH.nil
              exact AllReadyH.nil
        exact AllReadyH.nil
      exact AllReadyH.nil
    refine AllReadyH.cons (o := { dst := some 19, op := Op.buildSlice 23 1 #[(0, Operand.tmp 18)], type := 23, pos := "ref.go:161", after := #[{ on := 6, ground := Ground.data }], guard := none }) rfl (fun K hK => ?_) ?_
    · go_simp
      have hb := (Below.refl w2.drew.heap.size w2.drew).alloc (Nat.le_refl _) (.cells (bv [(n : Int)]).toArray 5)
      have dN := Lib.hid (new_cells [(n : Int)] w2.drew 5)
      have hZl := al_lt w2.drew (.cells (bv [(n : Int)]).toArray 5)
      have eB := Lib.hid (dB.out.trans (hb.mono hXB))
      have eX := Lib.hid (dX.out.of_block (hb.block X dX.out.lt))
      have eI := Lib.hid (dI.out.below hb)
      have eS : Hid ((w2.drew.alloc (.cells (bv [(n : Int)]).toArray 5)).rangeAt X 0 (bv tr) ∧ (w2.drew.alloc (.cells (bv [(n : Int)]).toArray 5)).cell? ⟨X, 32, none⟩ = some (.slice A n C)) := Lib.hid ⟨cm_tree eX.out HTl.out, eX.out.cell (i := 32) (by omega)⟩
      have hQ : X ≤ (w2.drew.alloc (.cells (bv [(n : Int)]).toArray 5)).heap.size := Nat.le_trans hXB hb.size
      clear dB dX dI dS hb
      have dB := eB
      have dX := eX
      have dI := eI
      have dS := eS
      clear eB eX eI eS
      change K _ (w2.drew.alloc (.cells (bv [(n : Int)]).toArray 5))
      generalize w2.drew.alloc (.cells (bv [(n : Int)]).toArray 5) = wQ at *
      change w2.heap.size < wQ.heap.size at hZl
      have dN : Hid (∀ j u, (bv [(n : Int)])[j]? = some u → wQ.cell? ((⟨w2.heap.size, 0, none⟩ : Addr).add j) = some u) := dN
      (try go_wp2_with fail)
      refine hK.out _ _ ?_ (fun hNew => ?_)
      · ((try dsimp only); exact ⟨dS.out.1, dS.out.2⟩)
      clear hK K hHeld
      have hHeld := hNew
      clear hNew
      (try simp only [Act.put, List.setIfInBounds_toArray, List.set_cons_zero, List.set_cons_succ])
      refine wpAnyH_ready (rs := [2]) (by kernel_rfl) (by simp) ?_
      refine AllReadyH.cons (o := { dst := some 14, op := Op.call { callee := Callee.value (Operand.func 43), args := #[Operand.const (Value.slice none 0 0), Operand.tmp 13], argTypes := #[23, 37] }, type := 23, pos := "ref.go:161", after := #[{ on := 1, ground := Ground.data }], guard := none }) rfl (fun K hK => ?_) ?_
      · go_simp
        refine (put_k _ _ 0 (bv []) tr HTl.out wQ (Nat.le_refl _) (own_none' _ _) (by decide)).mono ?_
        rintro e wC ⟨vP, rfl, ho, hb, hk⟩
        have dO : Hid (wC.ownsRow X 5 1 vP 32 (bv tr)) := Lib.hid (own_base (own_eq ho (by simp [bv]) (by omega)) hQ)
        have eN : Hid (∀ j u, (bv [(n : Int)])[j]? = some u → wC.cell? ((⟨w2.heap.size, 0, none⟩ : Addr).add j) = some u) := Lib.hid (fun j u hj => by
          rw [Addr.add_mid]
          have h1 := dN.out j u hj
          rw [Addr.add_mid] at h1
          exact (hb.cell (p := ⟨w2.heap.size, 0 + j, none⟩) hZl).trans h1)
        have eB := Lib.hid (dB.out.trans (hb.mono hQ))
        have eX := Lib.hid (dX.out.of_block (hb.block X dX.out.lt))
        have eI := Lib.hid (dI.out.below hb)
        have eS : Hid (wC.rangeAt X 0 (bv tr) ∧ wC.cell? ⟨X, 32, none⟩ = some (.slice A n C)) := Lib.hid ⟨cm_tree eX.out HTl.out, eX.out.cell (i := 32) (by omega)⟩
        have hC : X ≤ wC.heap.size := Nat.le_trans hQ hb.size
        clear dB dX dI dS ho hb hk dN hZl
        have dN := eN
        have dB := eB
        have dX := eX
        have dI := eI
        have dS := eS
        clear eB eX eI eS eN
        generalize w2.heap.size = Z at *
        (try go_wp2_with fail)
        refine hK.out _ _ ?_ (fun hNew => ?_)
        · ((try dsimp only); exact ⟨dS.out.1, dS.out.2⟩)
        clear hK K hHeld
        have hHeld := hNew
        clear hNew
        (try simp only [Act.put, List.setIfInBounds_toArray, List.set_cons_zero, List.set_cons_succ])
        refine wpAnyH_ready (rs := [8]) (by kernel_rfl) (by simp) ?_
        refine AllReadyH.cons (o := { dst := some 20, op := Op.call { callee := Callee.builtin Builtin.append, args := #[Operand.tmp 14, Operand.tmp 19], argTypes := #[23, 23] }, type := 23, pos := "ref.go:161", after := #[{ on := 2, ground := Ground.data }, { on := 7, ground := Ground.data }, { on := 2, ground := Ground.chain }], guard := none }) rfl (fun K hK => ?_) ?_
        · refine step_append_own _ rfl _ _ rfl X _ 32 tr rfl dO.out ⟨Z, 0, none⟩ 1 1 (bv [(n : Int)]) rfl rfl dN.out (bv_one _) (by unfold maxLen; omega) (by omega) hC ?_
          intro v4 w4 ho hg
          have hb4 := below_grown hC dO.out hg
          have hk4 := KeptT.own dO.out hg
          have eO : Hid (w4.ownsRow X 5 1 v4 (33 + 0 * 32) (bv (tr ++ (n : Int) :: (ids.take 0).flatten))) := Lib.hid (own_eq ho (by simp [bv]) (by omega))
          have eX := Lib.hid (hk4.row dX.out (by decide))
          have eI := Lib.hid (dI.out.belowB hb4 HLt.out)
          have eB := Lib.hid (dB.out.trans hb4)
          have eS : Hid (w4.rangeAt X 0 (bv tr) ∧ w4.cell? ⟨X, 32, none⟩ = some (.slice A n C)) := Lib.hid ⟨cm_tree eX.out HTl.out, eX.out.cell (i := 32) (by omega)⟩
          clear dO dN dX dI dB dS ho hg hb4 hk4
          have HO4 := eO
          have HX4 := eX
          have HI4 := eI
          have HB4 := eB
          have dS := eS
          clear eO eX eI eB eS
          (try go_wp2_with fail)
          refine hK.out _ _ ?_ (fun hNew => ?_)
          · ((try dsimp only); exact ⟨dS.out.1, dS.out.2⟩)
          clear hK K hHeld
          have hHeld := hNew
          clear hNew
          (try simp only [Act.put, List.setIfInBounds_toArray, List.set_cons_zero, List.set_cons_succ])
          refine wpAnyH_take (i := 9) (oi := { dst := some 5, op := Op.assign (Operand.tmp 20), type := 23, pos := "ref.go:161", after := #[{ on := 8, ground := Ground.data }, { on := 8, ground := Ground.chain }, { on := 0, ground := Ground.phase }, { on := 1, ground := Ground.phase }, { on := 2, ground := Ground.phase }, { on := 3, ground := Ground.phase }, { on := 4, ground := Ground.phase }, { on := 5, ground := Ground.phase }, { on := 6, ground := Ground.phase }, { on := 7, ground := Ground.phase }, { on := 8, ground := Ground.phase }], guard := none }) (v := ?_) rfl (by kernel_rfl) (by kernel_rfl) (by kernel_rfl) (fun _ _ _ h => h) (Or.inl ⟨by rfl, ?_⟩) (by assumption) ?_
          rotate_left 1
          · ((intro w hSw; (try dsimp only at hSw); go_simp) <;> with_reducible rfl)
          (try simp only [Act.put, List.setIfInBounds_toArray, List.set_cons_zero, List.set_cons_succ])
          refine wpAnyH_done (by kernel_rfl) ?_ _
          refine NoPanic.normal ?_
          clear hHeld
          have hc32 := dS.out.2
          go_wp2_with fail
          clear hc32 dS
          go_loopw [5, 6] (fun b i wr => ∃ k : Nat, i = .int .i64 k ∧ k ≤ n ∧ Hid (wr.ownsRow X 5 1 b (33 + k * 32) (bv (tr ++ (n : Int) :: (ids.take k).flatten))) ∧ Hid (RdIds wr A n C ids) ∧ Hid (wr.rowIs X 40 36 (cmF tr (.slice A n C) au tm ms)) ∧ Hid (Below X w wr)) (fun _ i _ => n - (intOf i).toNat)
          case atStart => exact ⟨0, rfl, Nat.zero_le _, HO4, HI4, HX4, HB4⟩
          case round =>
            clear HO4 HI4 HX4 HB4
            obtain ⟨k, rfl, hk, HO, HI, HX, HB⟩ := hrel
            have hXw : X < wr.heap.size := HX.out.lt
            by_cases hlt : k < n
            · obtain ⟨g, o, rfl, hg, hc⟩ := HI.out.cell (by omega)
              have hpl := HI.out.ids _ (getD_mem (k := k) (by have := HLn.out; omega))
              have hpr := hc k hlt
              have hfs := flat_step ids k (by have := HLn.out; omega)
              obtain ⟨p, hp⟩ : ∃ p, p = ids.getD k [] := ⟨_, rfl⟩
              rw [← hp] at hpl hpr hfs
              have Hpl := Lib.hid hpl
              have HPr := Lib.hid hpr
              have HFs := Lib.hid hfs
              have HES : Hid ((Try.prog.info? 37).map (·.size) = some (bv p).length) := Lib.hid (by rw [bv_len, hpl]; kernel_rfl)
              have hcx : wr.cell? ⟨X, 32, none⟩ = some (.slice (some ⟨g, o, none⟩) n C) := HX.out.cell (i := 32) (by omega)
              have hk0 : (0 : Int) ≤ (k : Int) := by omega
              have hk1 : (k : Int) < (n : Int) := by omega
              have hkn : k < n := hlt
              have hXl2 : X ≤ wr.heap.size := Nat.le_of_lt hXw
              have HPu := Lib.hid (put_k X _ (33 + k * 32) _ p hpl wr hXl2 HO.out (by omega))
              clear hpl hpr hp hc hfs hg
              generalize hDP : bv p = DP at *
              have HDP := Lib.hid hDP
              clear hDP
              go_wp2_with (refine wpList_load_mid rfl _ _ rfl g (o + k * 32) rfl DP _ HPr.out Try.underlying37 rfl HES.out ?_)
              refine HPu.out.mono ?_
              rintro e w6 ⟨v6, rfl, ho, hb6, hk6⟩
              have HO6 : Hid (w6.ownsRow X 5 1 v6 (33 + (k + 1) * 32) (bv (tr ++ (n : Int) :: (ids.take (k + 1)).flatten))) := Lib.hid (own_eq ho (by rw [HFs.out, ← HDP.out]; simp [bv]) (by omega))
              have HI6 := Lib.hid (HI.out.belowB hb6 HLt.out)
              have HX6 := Lib.hid (hk6.row HX.out (by decide))
              have HB6 := Lib.hid (HB.out.trans hb6)
              clear ho hb6 hk6 HO HI HX HB HPr HPu hcx
              go_wp2_with fail
              go_roundw
              case rel => exact ⟨k + 1, by go_num, by omega, HO6, HI6, HX6, HB6⟩
              case measure => simp [intOf]; omega
            · have ek : k = n := by omega
              have hd2 : decide ((k : Int) < (n : Int)) = false := by simp; omega
              have hd3 : ¬ k < n := hlt
              have hfl : (ids.take k).flatten = ids.flatten := by rw [ek, List.take_of_length_le (by have := HLn.out; omega)]
              have ho0 := HO.out
              rw [hfl] at ho0
              have HO0 := Lib.hid ho0
              have hc32 : wr.cell? ⟨X, 32, none⟩ = some (.slice A n C) := HX.out.cell (i := 32) (by omega)
              have hXl : X ≤ wr.heap.size := Nat.le_of_lt hXw
              have dX := Lib.hid (row_drew HX.out)
              have dO := Lib.hid (own_drew HO0.out)
              have dB := Lib.hid HB.out.drew
              have dS : Hid (wr.drew.cell? ⟨X, 33, none⟩ = some (.string au)) := Lib.hid (dX.out.cell (i := 33) (by omega))
              have hkk : k ≤ 8 := by omega
              clear hfl ho0 HO HI HX HB HO0 ek
              go_wp2_with fail
              clear hc32
              refine wp_region_noPanic ?_
              refine wp_region_held_drew (S := (fun wS => wS.cell? ⟨X, 33, none⟩ = some (.string au))) (by kernel_rfl) ?_ (fun hHeld => ?_)
              · ((try dsimp only); exact dS.out)
              refine wpAnyH_take (i := 0) (oi := { dst := some 35, op := Op.move (Operand.tmp 5), type := 23, pos := "ref.go:165", after := #[], guard := none }) (v := ?_) rfl (by kernel_rfl) (by kernel_rfl) (by kernel_rfl) (fun _ _ _ h => h) (Or.inl ⟨by rfl, ?_⟩) (by assumption) ?_
              rotate_left 1
              · ((intro w hSw; (try dsimp only at hSw); go_simp) <;> with_reducible rfl)
              (try simp only [Act.put, List.setIfInBounds_toArray, List.set_cons_zero, List.set_cons_succ])
              refine wpAnyH_take (i := 1) (oi := { dst := some 36, op := Op.fieldAddr 40 (Operand.tmp 1) 2, type := 0, pos := "ref.go:165", after := #[], guard := none }) (v := ?_) rfl (by kernel_rfl) (by kernel_rfl) (by kernel_rfl) (fun _ _ _ h => h) (Or.inl ⟨by rfl, ?_⟩) (by assumption) ?_
              rotate_left 1
              · ((intro w hSw; (try dsimp only at hSw); go_simp) <;> with_reducible rfl)
              (try simp only [Act.put, List.setIfInBounds_toArray, List.set_cons_zero, List.set_cons_succ])
              refine wpAnyH_take (i := 2) (oi := { dst := some 37, op := Op.load 9 (Operand.tmp 36), type := 9, pos := "ref.go:165", after := #[{ on := 1, ground := Ground.data }], guard := none }) (v := ?_) rfl (by kernel_rfl) (by kernel_rfl) (by kernel_rfl) (fun _ _ _ h => h) (Or.inl ⟨by rfl, ?_⟩) (by assumption) ?_
              rotate_left 1
              · ((intro w hSw; (try dsimp only at hSw); go_simp) <;> with_reducible rfl)
              (try simp only [Act.put, List.setIfInBounds_toArray, List.set_cons_zero, List.set_cons_succ])
              refine wpAnyH_take (i := 3) (oi := { dst := some 38, op := Op.call { callee := Callee.builtin Builtin.len, args := #[Operand.tmp 37], argTypes := #[9] }, type := 3, pos := "ref.go:165", after := #[{ on := 2, ground := Ground.data }], guard := none }) (v := ?_) rfl (by kernel_rfl) (by kernel_rfl) (by kernel_rfl) (fun _ _ _ h => h) (Or.inl ⟨by rfl, ?_⟩) (by assumption) ?_
              rotate_left 1
              · ((intro w hSw; (try dsimp only at hSw); go_simp) <;> with_reducible rfl)
              (try simp only [Act.put, List.setIfInBounds_toArray, List.set_cons_zero, List.set_cons_succ])
              refine wpAnyH_take (i := 4) (oi := { dst := some 39, op := Op.convert 3 105 (Operand.tmp 38), type := 105, pos := "ref.go:165", after := #[{ on := 3, ground := Ground.data }], guard := none }) (v := ?_) rfl (by kernel_rfl) (by kernel_rfl) (by kernel_rfl) (fun _ _ _ h => h) (Or.inl ⟨by rfl, ?_⟩) (by assumption) ?_
              rotate_left 1
              · ((intro w hSw; (try dsimp only at hSw); go_simp) <;> with_reducible rfl)
              (try simp only [Act.put, List.setIfInBounds_toArray, List.set_cons_zero, List.set_cons_succ])
              refine wpAnyH_take (i := 6) (oi := { dst := some 41, op := Op.fieldAddr 40 (Operand.tmp 1) 2, type := 0, pos := "ref.go:165", after := #[], guard := none }) (v := ?_) rfl (by kernel_rfl) (by kernel_rfl) (by kernel_rfl) (fun _ _ _ h => h) (Or.inl ⟨by rfl, ?_⟩) (by assumption) ?_
              rotate_left 1
              · ((intro w hSw; (try dsimp only at hSw); go_simp) <;> with_reducible rfl)
              (try simp only [Act.put, List.setIfInBounds_toArray, List.set_cons_zero, List.set_cons_succ])
              refine wpAnyH_take (i := 7) (oi := { dst := some 42, op := Op.load 9 (Operand.tmp 41), type := 9, pos := "ref.go:165", after := #[{ on := 6, ground := Ground.data }], guard := none }) (v := ?_) rfl (by kernel_rfl) (by kernel_rfl) (by kernel_rfl) (fun _ _ _ h => h) (Or.inl ⟨by rfl, ?_⟩) (by assumption) ?_
              rotate_left 1
              · ((intro w hSw; (try dsimp only at hSw); go_simp) <;> with_reducible rfl)
              (try simp only [Act.put, List.setIfInBounds_toArray, List.set_cons_zero, List.set_cons_succ])
              refine wpAnyH_ready (rs := [5]) (by kernel_rfl) (by simp) ?_
              refine AllReadyH.cons (o := { dst := some 40, op := Op.call { callee := Callee.value (Operand.func 53), args := #[Operand.tmp 35, Operand.const (Value.int IntKind.i64 2), Operand.tmp 39], argTypes := #[23, 3, 105] }, type := 23, pos := "ref.go:165", after := #[{ on := 0, ground := Ground.data }, { on := 4, ground := Ground.data }], guard := none }) rfl (fun K hK => ?_) ?_
              · go_simp
                have HNr := Lib.hid (rnum_k X _ (33 + k * 32) _ (au.size : Int) 2 wr.drew hXl dO.out (by omega) (by omega) (by omega) (by omega))
                rw [show ((2 : Nat) : Int) = 2 from rfl] at HNr
                rw [show IntKind.u64.wrap (au.size : Int) = (au.size : Int) from by rw [IntKind.wrap_u64]; omega]
                refine HNr.out.mono ?_
                clear HNr
                rintro e wN ⟨vN, rfl, ho, hb, hk⟩
                have eO := Lib.hid ho
                have eX := Lib.hid (hk.row dX.out (by decide))
                have eB := Lib.hid (dB.out.trans hb)
                have eS : Hid (wN.cell? ⟨X, 33, none⟩ = some (.string au)) := Lib.hid (eX.out.cell (i := 33) (by omega))
                have hNl : X ≤ wN.heap.size := Nat.le_of_lt eX.out.lt
                clear dO dX dB dS ho hb hk
                have dO := eO
                have dX := eX
                have dB := eB
                have dS := eS
                clear eO eX eB eS
                (try go_wp2_with fail)
                refine hK.out _ _ ?_ (fun hNew => ?_)
                · ((try dsimp only); exact dS.out)
                clear hK K hHeld
                have hHeld := hNew
                clear hNew
                (try simp only [Act.put, List.setIfInBounds_toArray, List.set_cons_zero, List.set_cons_succ])
                refine wpAnyH_ready (rs := [8]) (by kernel_rfl) (by simp) ?_
                refine AllReadyH.cons (o := { dst := some 43, op := Op.call { callee := Callee.builtin Builtin.append, args := #[Operand.tmp 40, Operand.tmp 42], argTypes := #[23, 9] }, type := 23, pos := "ref.go:165", after := #[{ on := 5, ground := Ground.data }, { on := 7, ground := Ground.data }, { on := 5, ground := Ground.chain }], guard := none }) rfl (fun K hK => ?_) ?_
                · refine step_append_str _ rfl _ _ rfl X _ ((33 + k * 32) + 2) _ rfl dO.out au rfl (by unfold maxLen; omega) (by omega) hNl ?_
                  intro vT wT ho hg
                  have hb := below_grown hNl dO.out hg
                  have hk := KeptT.own dO.out hg
                  have eO := Lib.hid ho
                  have eX := Lib.hid (hk.row dX.out (by decide))
                  have eB := Lib.hid (dB.out.trans hb)
                  have eS : Hid (wT.cell? ⟨X, 33, none⟩ = some (.string au)) := Lib.hid (eX.out.cell (i := 33) (by omega))
                  clear dO dX dB dS ho hg hb hk hNl
                  have dO := eO
                  have dX := eX
                  have dB := eB
                  have dS := eS
                  clear eO eX eB eS
                  (try go_wp2_with fail)
                  refine hK.out _ _ ?_ (fun hNew => ?_)
                  · ((try dsimp only); exact dS.out)
                  clear hK K hHeld
                  have hHeld := hNew
                  clear hNew
                  (try simp only [Act.put, List.setIfInBounds_toArray, List.set_cons_zero, List.set_cons_succ])
                  refine wpAnyH_take (i := 9) (oi := { dst := some 5, op := Op.assign (Operand.tmp 43), type := 23, pos := "ref.go:165", after := #[{ on := 8, ground := Ground.data }, { on := 8, ground := Ground.chain }, { on := 0, ground := Ground.phase }, { on := 1, ground := Ground.phase }, { on := 2, ground := Ground.phase }, { on := 3, ground := Ground.phase }, { on := 4, ground := Ground.phase }, { on := 5, ground := Ground.phase }, { on := 6, ground := Ground.phase }, { on := 7, ground := Ground.phase }, { on := 8, ground := Ground.phase }], guard := none }) (v := ?_) rfl (by kernel_rfl) (by kernel_rfl) (by kernel_rfl) (fun _ _ _ h => h) (Or.inl ⟨by rfl, ?_⟩) (by assumption) ?_
                  rotate_left 1
                  · ((intro w hSw; (try dsimp only at hSw); go_simp) <;> with_reducible rfl)
                  (try simp only [Act.put, List.setIfInBounds_toArray, List.set_cons_zero, List.set_cons_succ])
                  refine wpAnyH_done (by kernel_rfl) ?_ _
                  refine NoPanic.normal ?_
                  clear hHeld
                  have hX7 : X ≤ wT.heap.size := Nat.le_of_lt dX.out.lt
                  have hc34 : wT.cell? ⟨X, 34, none⟩ = some (.int .i64 tm) := dX.out.cell (i := 34) (by omega)
                  have hu0 : 0 ≤ IntKind.u64.wrap tm ∧ IntKind.u64.wrap tm < 18446744073709551616 := by rw [IntKind.wrap_u64]; omega
                  have HNb := Lib.hid (rnum_k X vT (33 + k * 32 + 2 + au.size) _ (IntKind.u64.wrap tm) 8 wT hX7 dO.out (by omega) hu0.1 hu0.2 (by omega))
                  rw [show ((8 : Nat) : Int) = 8 from rfl] at HNb
                  clear hu0 dS
                  go_wp2_with fail
                  refine HNb.out.mono ?_
                  rintro e w8 ⟨v8, rfl, ho, hb, hk8⟩
                  have eO := Lib.hid (own_drew ho)
                  have eX := Lib.hid (row_drew (hk8.row dX.out (by decide)))
                  have eB := Lib.hid (dB.out.trans hb).drew
                  have hXl8 : X ≤ w8.drew.heap.size := Nat.le_of_lt eX.out.lt
                  have dS : Hid (w8.drew.cell? ⟨X, 35, none⟩ = some (.string ms)) := Lib.hid (eX.out.cell (i := 35) (by omega))
                  clear dO dX dB ho hb hk8 HNb hc34
                  have dO := eO
                  have dX := eX
                  have dB := eB
                  clear eO eX eB
                  go_wp2_with fail
                  refine wp_region_noPanic ?_
                  refine wp_region_held_drew (S := (fun wS => wS.cell? ⟨X, 35, none⟩ = some (.string ms))) (by kernel_rfl) ?_ (fun hHeld => ?_)
                  · ((try dsimp only); exact dS.out)
                  refine wpAnyH_take (i := 0) (oi := { dst := some 49, op := Op.move (Operand.tmp 5), type := 23, pos := "ref.go:167", after := #[], guard := none }) (v := ?_) rfl (by kernel_rfl) (by kernel_rfl) (by kernel_rfl) (fun _ _ _ h => h) (Or.inl ⟨by rfl, ?_⟩) (by assumption) ?_
                  rotate_left 1
                  · ((intro w hSw; (try dsimp only at hSw); go_simp) <;> with_reducible rfl)
                  (try simp only [Act.put, List.setIfInBounds_toArray, List.set_cons_zero, List.set_cons_succ])
                  refine wpAnyH_take (i := 1) (oi := { dst := some 50, op := Op.fieldAddr 40 (Operand.tmp 1) 4, type := 0, pos := "ref.go:167", after := #[], guard := none }) (v := ?_) rfl (by kernel_rfl) (by kernel_rfl) (by kernel_rfl) (fun _ _ _ h => h) (Or.inl ⟨by rfl, ?_⟩) (by assumption) ?_
                  rotate_left 1
                  · ((intro w hSw; (try dsimp only at hSw); go_simp) <;> with_reducible rfl)
                  (try simp only [Act.put, List.setIfInBounds_toArray, List.set_cons_zero, List.set_cons_succ])
                  refine wpAnyH_take (i := 2) (oi := { dst := some 51, op := Op.load 9 (Operand.tmp 50), type := 9, pos := "ref.go:167", after := #[{ on := 1, ground := Ground.data }], guard := none }) (v := ?_) rfl (by kernel_rfl) (by kernel_rfl) (by kernel_rfl) (fun _ _ _ h => h) (Or.inl ⟨by rfl, ?_⟩) (by assumption) ?_
                  rotate_left 1
                  · ((intro w hSw; (try dsimp only at hSw); go_simp) <;> with_reducible rfl)
                  (try simp only [Act.put, List.setIfInBounds_toArray, List.set_cons_zero, List.set_cons_succ])
                  refine wpAnyH_take (i := 3) (oi := { dst := some 52, op := Op.call { callee := Callee.builtin Builtin.len, args := #[Operand.tmp 51], argTypes := #[9] }, type := 3, pos := "ref.go:167", after := #[{ on := 2, ground := Ground.data }], guard := none }) (v := ?_) rfl (by kernel_rfl) (by kernel_rfl) (by kernel_rfl) (fun _ _ _ h => h) (Or.inl ⟨by rfl, ?_⟩) (by assumption) ?_
                  rotate_left 1
                  · ((intro w hSw; (try dsimp only at hSw); go_simp) <;> with_reducible rfl)
                  (try simp only [Act.put, List.setIfInBounds_toArray, List.set_cons_zero, List.set_cons_succ])
                  refine wpAnyH_take (i := 4) (oi := { dst := some 53, op := Op.convert 3 105 (Operand.tmp 52), type := 105, pos := "ref.go:167", after := #[{ on := 3, ground := Ground.data }], guard := none }) (v := ?_) rfl (by kernel_rfl) (by kernel_rfl) (by kernel_rfl) (fun _ _ _ h => h) (Or.inl ⟨by rfl, ?_⟩) (by assumption) ?_
                  rotate_left 1
                  · ((intro w hSw; (try dsimp only at hSw); go_simp) <;> with_reducible rfl)
                  (try simp only [Act.put, List.setIfInBounds_toArray, List.set_cons_zero, List.set_cons_succ])
                  refine wpAnyH_take (i := 6) (oi := { dst := some 55, op := Op.fieldAddr 40 (Operand.tmp 1) 4, type := 0, pos := "ref.go:167", after := #[], guard := none }) (v := ?_) rfl (by kernel_rfl) (by kernel_rfl) (by kernel_rfl) (fun _ _ _ h => h) (Or.inl ⟨by rfl, ?_⟩) (by assumption) ?_
                  rotate_left 1
                  · ((intro w hSw; (try dsimp only at hSw); go_simp) <;> with_reducible rfl)
                  (try simp only [Act.put, List.setIfInBounds_toArray, List.set_cons_zero, List.set_cons_succ])
                  refine wpAnyH_take (i := 7) (oi := { dst := some 56, op := Op.load 9 (Operand.tmp 55), type := 9, pos := "ref.go:167", after := #[{ on := 6, ground := Ground.data }], guard := none }) (v := ?_) rfl (by kernel_rfl) (by kernel_rfl) (by kernel_rfl) (fun _ _ _ h => h) (Or.inl ⟨by rfl, ?_⟩) (by assumption) ?_
                  rotate_left 1
                  · ((intro w hSw; (try dsimp only at hSw); go_simp) <;> with_reducible rfl)
                  (try simp only [Act.put, List.setIfInBounds_toArray, List.set_cons_zero, List.set_cons_succ])
                  refine wpAnyH_ready (rs := [5]) (by kernel_rfl) (by simp) ?_
                  refine AllReadyH.cons (o := { dst := some 54, op := Op.call { callee := Callee.value (Operand.func 53), args := #[Operand.tmp 49, Operand.const (Value.int IntKind.i64 2), Operand.tmp 53], argTypes := #[23, 3, 105] }, type := 23, pos := "ref.go:167", after := #[{ on := 0, ground := Ground.data }, { on := 4, ground := Ground.data }], guard := none }) rfl (fun K hK => ?_) ?_
                  · go_simp
                    have HNr := Lib.hid (rnum_k X _ (33 + k * 32 + 2 + au.size + 8) _ (ms.size : Int) 2 w8.drew hXl8 dO.out (by omega) (by omega) (by omega) (by omega))
                    rw [show ((2 : Nat) : Int) = 2 from rfl] at HNr
                    rw [show IntKind.u64.wrap (ms.size : Int) = (ms.size : Int) from by rw [IntKind.wrap_u64]; omega]
                    refine HNr.out.mono ?_
                    clear HNr
                    rintro e wM ⟨vM, rfl, ho, hb, hk⟩
                    have eO := Lib.hid ho
                    have eX := Lib.hid (hk.row dX.out (by decide))
                    have eB := Lib.hid (dB.out.trans hb)
                    have eS : Hid (wM.cell? ⟨X, 35, none⟩ = some (.string ms)) := Lib.hid (eX.out.cell (i := 35) (by omega))
                    have hMl : X ≤ wM.heap.size := Nat.le_of_lt eX.out.lt
                    clear dO dX dB dS ho hb hk
                    have dO := eO
                    have dX := eX
                    have dB := eB
                    have dS := eS
                    clear eO eX eB eS
                    (try go_wp2_with fail)
                    refine hK.out _ _ ?_ (fun hNew => ?_)
                    · ((try dsimp only); exact dS.out)
                    clear hK K hHeld
                    have hHeld := hNew
                    clear hNew
                    (try simp only [Act.put, List.setIfInBounds_toArray, List.set_cons_zero, List.set_cons_succ])
                    refine wpAnyH_ready (rs := [8]) (by kernel_rfl) (by simp) ?_
                    refine AllReadyH.cons (o := { dst := some 57, op := Op.call { callee := Callee.builtin Builtin.append, args := #[Operand.tmp 54, Operand.tmp 56], argTypes := #[23, 9] }, type := 23, pos := "ref.go:167", after := #[{ on := 5, ground := Ground.data }, { on := 7, ground := Ground.data }, { on := 5, ground := Ground.chain }], guard := none }) rfl (fun K hK => ?_) ?_
                    · refine step_append_str _ rfl _ _ rfl X _ ((33 + k * 32 + 2 + au.size + 8) + 2) _ rfl dO.out ms rfl (by unfold maxLen; omega) (by omega) hMl ?_
                      intro vU wU ho hg
                      have hb := below_grown hMl dO.out hg
                      have hk := KeptT.own dO.out hg
                      have eO := Lib.hid ho
                      have eX := Lib.hid (hk.row dX.out (by decide))
                      have eB := Lib.hid (dB.out.trans hb)
                      have eS : Hid (wU.cell? ⟨X, 35, none⟩ = some (.string ms)) := Lib.hid (eX.out.cell (i := 35) (by omega))
                      clear dO dX dB dS ho hg hb hk hMl
                      have dO := eO
                      have dX := eX
                      have dB := eB
                      have dS := eS
                      clear eO eX eB eS
                      (try go_wp2_with fail)
                      refine hK.out _ _ ?_ (fun hNew => ?_)
                      · ((try dsimp only); exact dS.out)
                      clear hK K hHeld
                      have hHeld := hNew
                      clear hNew
                      (try simp only [Act.put, List.setIfInBounds_toArray, List.set_cons_zero, List.set_cons_succ])
                      refine wpAnyH_take (i := 9) (oi := { dst := some 2, op := Op.assign (Operand.tmp 57), type := 23, pos := "ref.go:167", after := #[{ on := 8, ground := Ground.data }, { on := 8, ground := Ground.chain }, { on := 0, ground := Ground.phase }, { on := 1, ground := Ground.phase }, { on := 2, ground := Ground.phase }, { on := 3, ground := Ground.phase }, { on := 4, ground := Ground.phase }, { on := 5, ground := Ground.phase }, { on := 6, ground := Ground.phase }, { on := 7, ground := Ground.phase }, { on := 8, ground := Ground.phase }], guard := none }) (v := ?_) rfl (by kernel_rfl) (by kernel_rfl) (by kernel_rfl) (fun _ _ _ h => h) (Or.inl ⟨by rfl, ?_⟩) (by assumption) ?_
                      rotate_left 1
                      · ((intro w hSw; (try dsimp only at hSw); go_simp) <;> with_reducible rfl)
                      (try simp only [Act.put, List.setIfInBounds_toArray, List.set_cons_zero, List.set_cons_succ])
                      refine wpAnyH_take (i := 10) (oi := { dst := some 3, op := Op.assign (Operand.const (Value.int IntKind.i64 0)), type := 3, pos := "ref.go:167", after := #[{ on := 9, ground := Ground.chain }, { on := 0, ground := Ground.phase }, { on := 1, ground := Ground.phase }, { on := 2, ground := Ground.phase }, { on := 3, ground := Ground.phase }, { on := 4, ground := Ground.phase }, { on := 5, ground := Ground.phase }, { on := 6, ground := Ground.phase }, { on := 7, ground := Ground.phase }, { on := 8, ground := Ground.phase }, { on := 9, ground := Ground.phase }], guard := none }) (v := ?_) rfl (by kernel_rfl) (by kernel_rfl) (by kernel_rfl) (fun _ _ _ h => h) (Or.inl ⟨by rfl, ?_⟩) (by assumption) ?_
                      rotate_left 1
                      · ((intro w hSw; (try dsimp only at hSw); go_simp) <;> with_reducible rfl)
                      (try simp only [Act.put, List.setIfInBounds_toArray, List.set_cons_zero, List.set_cons_succ])
                      refine wpAnyH_done (by kernel_rfl) ?_ _
                      refine NoPanic.normal ?_
                      clear hHeld
                      have HR : Hid (ecR tr ids au tm ms = cmB tr ids au tm ms) := Lib.hid (by unfold ecR; rw [if_pos H0.out])
                      have HLc : Hid ((cmB tr ids au tm ms).length = 33 + k * 32 + 2 + au.size + 8 + 2 + ms.size) := Lib.hid (by
                        have hfl := flat_len ids HI0.out
                        have h1 := HTl.out
                        have h2 := HLn.out
                        simp only [cmB, List.length_append, List.length_cons, hfl, be_length, sv_len]
                        omega)
                      have HO9 : Hid (wU.ownsRow X 5 1 vU (cmB tr ids au tm ms).length (bv (cmB tr ids au tm ms))) := Lib.hid (own_eq dO.out (by rw [← sv_cells, ← sv_cells]; simp [cmB, bv, HLn.out]) (by rw [HLc.out]))
                      have HB9 := dB
                      clear dO dX dB dS
                      go_wp2_with fail
                      go_ret2
                      refine ⟨by rw [← HXw.out]; exact HB9.out, vU, ?_, ?_⟩
                      · rw [H0.out]; rfl
                      · rw [HR.out, ← HXw.out]; exact HO9.out
                    exact AllReadyH.nil
                  exact AllReadyH.nil
                exact AllReadyH.nil
              exact AllReadyH.nil
        exact AllReadyH.nil
      exact AllReadyH.nil
    exact AllReadyH.nil
  · have hE0 : (E != 0) = true := by simp [h0]
    have H0 : Hid (ecR tr ids au tm ms = []) := Lib.hid (by unfold ecR; rw [if_neg (fun e => h0 (HE.out.trans e))])
    clear h0
    go_wp2_with fail
    go_ret2
    refine ⟨by rw [← HXw.out]; exact HB2.out, .slice none 0 0, ?_, ?_⟩
    · rw [← HE.out]; rfl
    · rw [H0.out]; exact own_nil _ _
end Go.Proofs.Ytmcmapgllaopmaa.Cd
end

section
/- What EncodeTree and ParseTree hand back, told in one way. -/
namespace Go.Proofs.Ytmcmapgllaopmaa.Cd
open Go.RowKit
set_option linter.unusedVariables false

/-- the bytes told: none where there is an error -/
def eR (es : List Fr.Ent) : List Int := if eE es = 0 then eB es else []
theorem et_one {es : List Fr.Ent} {w : World} {e : Ending} {w' : World} (h : EtRet es w e w') : Below w.heap.size w w' ∧ ∃ v, e = .returned (.tuple #[v, .int .i64 (eE es)]) ∧ w'.ownsRow w.heap.size 5 1 v (eR es).length (bv (eR es)) := by
  obtain ⟨hb, ⟨hne, rfl⟩ | ⟨hz, v, rfl, ho⟩⟩ := h
  · refine ⟨hb, _, rfl, ?_⟩
    unfold eR
    rw [if_neg hne]
    exact own_nil _ _
  · refine ⟨hb, v, by rw [hz], ?_⟩
    unfold eR
    rw [if_pos hz]
    exact ho

theorem tkL_len (f : Int) (l : List Int) (a L n : Nat) : (tkL f l a L n).length ≤ l.length := by
  unfold tkL
  split
  · rw [List.length_take, List.length_drop]; omega
  · simp
theorem pT_err (l : List Int) (L : Nat) : ∀ (n p : Nat) (es : List Fr.Ent), (pT l L n p es).1 ≠ 0 → (pT l L n p es).2 = []
  | 0, p, es, h => by rw [pT] at h; exact absurd rfl h
  | n + 1, p, es, h => by
    rw [pT] at h ⊢
    by_cases h1 : p = L
    · rw [if_pos h1] at h; exact absurd rfl h
    · rw [if_neg h1] at h ⊢
      by_cases h2 : rdF l p L es.length (lastN es) = 0
      · rw [if_pos h2] at h ⊢
        exact pT_err l L n _ _ h
      · rw [if_neg h2]
theorem pT_ok (l : List Int) (L : Nat) : ∀ (n p : Nat) (es : List Fr.Ent), es.length ≤ 512 → (∀ x ∈ es, x.name.size ≤ l.length) → (pT l L n p es).2.length ≤ 512 ∧ ∀ x ∈ (pT l L n p es).2, x.name.size ≤ l.length
  | 0, p, es, h, hx => by rw [pT]; exact ⟨h, hx⟩
  | n + 1, p, es, h, hx => by
    rw [pT]
    by_cases h1 : p = L
    · rw [if_pos h1]; exact ⟨h, hx⟩
    · rw [if_neg h1]
      by_cases h2 : rdF l p L es.length (lastN es) = 0
      · rw [if_pos h2]
        have h3 := (rd_step h2).2
        refine pT_ok l L n _ _ (by rw [List.length_append, List.length_singleton]; omega) (fun x hm => ?_)
        rcases List.mem_append.1 hm with hm | hm
        · exact hx x hm
        · rw [List.mem_singleton.1 hm]
          show (rd1 l p L).nm.size ≤ l.length
          unfold rd1
          rw [sb_size]
          exact tkL_len _ _ _ _ _
      · rw [if_neg h2]
        exact ⟨by simp, by simp⟩

theorem pt_one {l : List Int} {L : Nat} {w : World} {e : Ending} {w' : World} (hl : l.length ≤ 1000000) (h : PtRet l L w e w') : Below w.heap.size w w' ∧ ∃ Ae Ce, e = .returned (.tuple #[.slice Ae (pT l L (L + 1) 0 []).2.length Ce, .int .i64 (pT l L (L + 1) 0 []).1]) ∧ RdE w' Ae (pT l L (L + 1) 0 []).2.length Ce (pT l L (L + 1) 0 []).2 := by
  obtain ⟨hb, ⟨hne, rfl⟩ | ⟨hz, hid, Ae, Ce, rfl, ho⟩⟩ := h
  · refine ⟨hb, none, 0, ?_, ?_⟩
    · rw [pT_err l L _ _ _ hne]; rfl
    · rw [pT_err l L _ _ _ hne]; exact RdE.nil _
  · have hok := pT_ok l L (L + 1) 0 [] (by simp) (by simp)
    refine ⟨hb, Ae, Ce, by rw [hz], RdE.of_own ho (fun x hx => ⟨hid x hx, ?_⟩) (by omega) rfl⟩
    have := hok.2 x hx
    omega
theorem conv_eq (s : ByteArray) : (s.toList == s.toList) = true := by simp
end Go.Proofs.Ytmcmapgllaopmaa.Cd
end

section
/- Commits are compared; the same commit is the same. -/
namespace Go.Proofs.Ytmcmapgllaopmaa.Cd
open Go.RowKit
set_option linter.unusedVariables false

theorem size_alloc (w : World) (o : Obj) : (w.alloc o).heap.size = w.heap.size + 1 := by show (w.heap.push o).size = w.heap.size + 1; simp
set_option maxRecDepth 100000 in
set_option maxHeartbeats 1000000 in
theorem sameCommit_any (tr : List Int) (hl : tr.length = 32) (A : Option Addr) (n C : Nat) (A' : Option Addr) (C' : Nat) (ids : List (List Int)) (au : ByteArray) (tm : Int) (ms : ByteArray) (w : World) (h : RdIds w A n C ids) (h' : RdIds w A' n C' ids) :
    Calls Try.prog 21 #[.agg (cm tr (.slice A n C) au tm ms).toArray, .agg (cm tr (.slice A' n C') au tm ms).toArray] w fun e w' => e = .returned (.bool true) ∧ Below w.heap.size w w' := by
  have hX := cm_row w tr (.slice A n C) au tm ms hl
  have hY := cm_row (w.alloc (.cells (cm tr (.slice A n C) au tm ms).toArray 40)) tr (.slice A' n C') au tm ms hl
  have hb0 := (Below.refl w.heap.size w).alloc (Nat.le_refl _) (.cells (cm tr (.slice A n C) au tm ms).toArray 40)
  have hb1 := hb0.alloc (al_le w (.cells (cm tr (.slice A n C) au tm ms).toArray 40)) (.cells (cm tr (.slice A' n C') au tm ms).toArray 40)
  have hbX := ((Below.refl _ (w.alloc (.cells (cm tr (.slice A n C) au tm ms).toArray 40))).alloc (Nat.le_refl _) (.cells (cm tr (.slice A' n C') au tm ms).toArray 40))
  have hX2 := hX.of_block (hbX.block _ hX.lt)
  have hs1 : (w.alloc (.cells (cm tr (.slice A n C) au tm ms).toArray 40)).heap.size = w.heap.size + 1 := size_alloc _ _
  rw [hs1] at hY
  have HI := Lib.hid (h.below hb1)
  have HJ := Lib.hid (h'.below hb1)
  have HB := Lib.hid hb1
  have HX := Lib.hid hX2
  have HY := Lib.hid hY
  have HT1 := Lib.hid (cm_tree hX2 hl)
  have HT2 := Lib.hid (cm_tree hY hl)
  have HSz := Lib.hid (show (Try.prog.info? 37).map (·.size) = some (bv tr).length by rw [bv_len, hl]; kernel_rfl)
  have hq : ∀ W, (Op.equalIn 10000 37 (.agg (bv tr).toArray) (.agg (bv tr).toArray)).run Try.prog W = .ok (decide (tr = tr)) W := fun W => ids_eq tr tr hl hl W
  rw [decide_eq_true rfl] at hq
  have hcap := h.cap
  have hmax := h.max
  have hcap2 := h'.cap
  have hmax2 := h'.max
  have hbig := h.big
  have HLn := Lib.hid h.len
  clear hX hY hX2 hb0 hb1 hbX hs1 h h'
  generalize hCM : cm tr (.slice A n C) au tm ms = CM at *
  generalize hCN : cm tr (.slice A' n C') au tm ms = CN at *
  clear hCM hCN
  generalize hDI : bv tr = DI at *
  clear hDI
  go_enter Try.func21, Try.ntmps21
  have hag : (Value.agg CM.toArray).cells = CM.toArray := rfl
  have hag2 : (Value.agg CN.toArray).cells = CN.toArray := rfl
  go_upto_region 1 with (fail)
  generalize (w.alloc (.cells CM.toArray 40)).alloc (.cells CN.toArray 40) = w1 at *
  obtain ⟨X, hXe⟩ : ∃ X, X = w.heap.size := ⟨_, rfl⟩
  rw [← hXe] at HX HY HT1 HT2 ⊢
  obtain ⟨Y, hYe⟩ : ∃ Y, Y = X + 1 := ⟨_, rfl⟩
  rw [← hYe] at HY HT2 ⊢
  have HXw := Lib.hid hXe
  have HYw := Lib.hid hYe
  clear hXe hYe hag hag2
  have hx32 : w1.cell? ⟨X, 32, none⟩ = some (.slice A n C) := HX.out.cell (i := 32) (by omega)
  have hx33 : w1.cell? ⟨X, 33, none⟩ = some (.string au) := HX.out.cell (i := 33) (by omega)
  have hx34 : w1.cell? ⟨X, 34, none⟩ = some (.int .i64 tm) := HX.out.cell (i := 34) (by omega)
  have hx35 : w1.cell? ⟨X, 35, none⟩ = some (.string ms) := HX.out.cell (i := 35) (by omega)
  have hy32 : w1.cell? ⟨Y, 32, none⟩ = some (.slice A' n C') := HY.out.cell (i := 32) (by omega)
  have hy33 : w1.cell? ⟨Y, 33, none⟩ = some (.string au) := HY.out.cell (i := 33) (by omega)
  have hy34 : w1.cell? ⟨Y, 34, none⟩ = some (.int .i64 tm) := HY.out.cell (i := 34) (by omega)
  have hy35 : w1.cell? ⟨Y, 35, none⟩ = some (.string ms) := HY.out.cell (i := 35) (by omega)
  go_wp2_with (first | refine wpList_load_mid rfl _ _ rfl X 0 rfl DI _ HT1.out Try.underlying37 rfl HSz.out ?_ | refine wpList_load_mid rfl _ _ rfl Y 0 rfl DI _ HT2.out Try.underlying37 rfl HSz.out ?_)
  clear hx32 hx33 hx34 hx35 hy32 hy33 hy34 hy35 HT1 HT2 hq HSz
  go_loopw [5] (fun s wr => ∃ k : Nat, s = .int .i64 k ∧ k ≤ n ∧ Hid (RdIds wr A n C ids) ∧ Hid (RdIds wr A' n C' ids) ∧ Hid (wr.rowIs X 40 36 (cmF tr (.slice A n C) au tm ms)) ∧ Hid (wr.rowIs Y 40 36 (cmF tr (.slice A' n C') au tm ms)) ∧ Hid (Below w.heap.size w wr)) (fun s _ => n - (intOf s).toNat)
  case atStart => exact ⟨0, rfl, Nat.zero_le _, HI, HJ, HX, HY, HB⟩
  case round =>
    clear HI HJ HX HY HB
    obtain ⟨k, rfl, hk, HI, HJ, HX, HY, HB⟩ := hrel
    have hx32 : wr.cell? ⟨X, 32, none⟩ = some (.slice A n C) := HX.out.cell (i := 32) (by omega)
    by_cases hlt : k < n
    · obtain ⟨g, o, rfl, hg, hcc⟩ := HI.out.cell (by omega)
      obtain ⟨g2, o2, rfl, hg2, hcc2⟩ := HJ.out.cell (by omega)
      have hpl := HI.out.ids _ (getD_mem (k := k) (by have := HLn.out; omega))
      have hx1 := hcc k hlt
      have hx2 := hcc2 k hlt
      have heq := fun W => ids_eq (ids.getD k []) (ids.getD k []) hpl hpl W
      rw [decide_eq_true rfl] at heq
      have hS1 : Hid ((Try.prog.info? 37).map (·.size) = some (bv (ids.getD k [])).length) := Lib.hid (by rw [bv_len, hpl]; kernel_rfl)
      generalize bv (ids.getD k []) = EL at *
      have hk0 : (0 : Int) ≤ (k : Int) := by omega
      have hk1 : (k : Int) < (n : Int) := by omega
      have hkn : k < n := hlt
      have hx32 : wr.cell? ⟨X, 32, none⟩ = some (.slice (some ⟨g, o, none⟩) n C) := hx32
      have HId : Hid (RdIds wr.drew (some ⟨g, o, none⟩) n C ids) := Lib.hid ⟨HI.out.cap, HI.out.max, HI.out.big, HI.out.len, HI.out.ids, HI.out.cell⟩
      have HJd : Hid (RdIds wr.drew (some ⟨g2, o2, none⟩) n C' ids) := Lib.hid ⟨HJ.out.cap, HJ.out.max, HJ.out.big, HJ.out.len, HJ.out.ids, HJ.out.cell⟩
      have HXd := Lib.hid (row_drew HX.out)
      have HYd := Lib.hid (row_drew HY.out)
      have HBd := Lib.hid HB.out.drew
      have dS : Hid ((wr.drew.cell? ⟨X, 32, none⟩ = some (.slice (some ⟨g, o, none⟩) n C) ∧ wr.drew.cell? ⟨Y, 32, none⟩ = some (.slice (some ⟨g2, o2, none⟩) n C')) ∧ wr.drew.rangeAt g (o + k * 32) EL ∧ wr.drew.rangeAt g2 (o2 + k * 32) EL) := Lib.hid ⟨⟨HXd.out.cell (i := 32) (by omega), HYd.out.cell (i := 32) (by omega)⟩, (World.rangeAt_drew _ _ _ _).2 hx1, (World.rangeAt_drew _ _ _ _).2 hx2⟩
      clear hx1 hx2 hcc hcc2 hpl HI HJ HX HY HB hg hg2
      go_wp2_with fail
      clear hx32
      refine wp_region_noPanic ?_
      refine wp_region_held_drew (S := (fun wS => (wS.cell? ⟨X, 32, none⟩ = some (.slice (some ⟨g, o, none⟩) n C) ∧ wS.cell? ⟨Y, 32, none⟩ = some (.slice (some ⟨g2, o2, none⟩) n C')) ∧ wS.rangeAt g (o + k * 32) EL ∧ wS.rangeAt g2 (o2 + k * 32) EL)) (by kernel_rfl) ?_ (fun hHeld => ?_)
      · ((try dsimp only); exact dS.out)
      refine wpAnyH_take (i := 0) (oi := { dst := some 48, op := Op.fieldAddr 40 (Operand.tmp 2) 1, type := 0, pos := "ref.go:486", after := #[], guard := none }) (v := ?_) rfl (by kernel_rfl) (by kernel_rfl) (by kernel_rfl) (fun _ _ _ h => h) (Or.inl ⟨by rfl, ?_⟩) (by assumption) ?_
      rotate_left 1
      · ((intro w hSw; (try dsimp only at hSw); go_simp) <;> with_reducible rfl)
      (try simp only [Act.put, List.setIfInBounds_toArray, List.set_cons_zero, List.set_cons_succ])
      refine wpAnyH_take (i := 1) (oi := { dst := some 49, op := Op.load 38 (Operand.tmp 48), type := 38, pos := "ref.go:486", after := #[{ on := 0, ground := Ground.data }], guard := none }) (v := ?_) rfl (by kernel_rfl) (by kernel_rfl) (by kernel_rfl) (fun _ _ _ h => h) (Or.inl ⟨by rfl, ?_⟩) (by assumption) ?_
      rotate_left 1
      · ((intro w hSw; (try dsimp only at hSw); go_simp) <;> with_reducible rfl)
      (try simp only [Act.put, List.setIfInBounds_toArray, List.set_cons_zero, List.set_cons_succ])
      refine wpAnyH_take (i := 2) (oi := { dst := some 50, op := Op.move (Operand.tmp 5), type := 3, pos := "ref.go:486", after := #[], guard := none }) (v := ?_) rfl (by kernel_rfl) (by kernel_rfl) (by kernel_rfl) (fun _ _ _ h => h) (Or.inl ⟨by rfl, ?_⟩) (by assumption) ?_
      rotate_left 1
      · ((intro w hSw; (try dsimp only at hSw); go_simp) <;> with_reducible rfl)
      (try simp only [Act.put, List.setIfInBounds_toArray, List.set_cons_zero, List.set_cons_succ])
      refine wpAnyH_take (i := 3) (oi := { dst := some 51, op := Op.indexAddr 38 (Operand.tmp 49) (Operand.tmp 50), type := 0, pos := "ref.go:486", after := #[{ on := 1, ground := Ground.data }, { on := 2, ground := Ground.data }], guard := none }) (v := ?_) rfl (by kernel_rfl) (by kernel_rfl) (by kernel_rfl) (fun _ _ _ h => h) (Or.inl ⟨by rfl, ?_⟩) (by assumption) ?_
      rotate_left 1
      · ((intro w hSw; (try dsimp only at hSw); go_simp) <;> with_reducible rfl)
      (try simp only [Act.put, List.setIfInBounds_toArray, List.set_cons_zero, List.set_cons_succ])
      refine' wpAnyH_take (i := 4) (oi := { dst := some 52, op := Op.load 37 (Operand.tmp 51), type := 37, pos := "ref.go:486", after := #[{ on := 3, ground := Ground.data }], guard := none }) (v := _) rfl (by kernel_rfl) (by kernel_rfl) (by kernel_rfl) (fun _ _ _ h => h) (yieldsIf_load_mid (by rfl) _ _ rfl _ _ rfl EL _ (fun w hSw => hSw.2.1) Try.underlying37 rfl hS1.out) (by assumption) ?_
      (try simp only [Act.put, List.setIfInBounds_toArray, List.set_cons_zero, List.set_cons_succ])
      refine wpAnyH_take (i := 5) (oi := { dst := some 53, op := Op.fieldAddr 40 (Operand.tmp 3) 1, type := 0, pos := "ref.go:486", after := #[], guard := none }) (v := ?_) rfl (by kernel_rfl) (by kernel_rfl) (by kernel_rfl) (fun _ _ _ h => h) (Or.inl ⟨by rfl, ?_⟩) (by assumption) ?_
      rotate_left 1
      · ((intro w hSw; (try dsimp only at hSw); go_simp) <;> with_reducible rfl)
      (try simp only [Act.put, List.setIfInBounds_toArray, List.set_cons_zero, List.set_cons_succ])
      refine wpAnyH_take (i := 6) (oi := { dst := some 54, op := Op.load 38 (Operand.tmp 53), type := 38, pos := "ref.go:486", after := #[{ on := 5, ground := Ground.data }], guard := none }) (v := ?_) rfl (by kernel_rfl) (by kernel_rfl) (by kernel_rfl) (fun _ _ _ h => h) (Or.inl ⟨by rfl, ?_⟩) (by assumption) ?_
      rotate_left 1
      · ((intro w hSw; (try dsimp only at hSw); go_simp) <;> with_reducible rfl)
      (try simp only [Act.put, List.setIfInBounds_toArray, List.set_cons_zero, List.set_cons_succ])
      refine wpAnyH_take (i := 7) (oi := { dst := some 55, op := Op.move (Operand.tmp 5), type := 3, pos := "ref.go:486", after := #[], guard := none }) (v := ?_) rfl (by kernel_rfl) (by kernel_rfl) (by kernel_rfl) (fun _ _ _ h => h) (Or.inl ⟨by rfl, ?_⟩) (by assumption) ?_
      rotate_left 1
      · ((intro w hSw; (try dsimp only at hSw); go_simp) <;> with_reducible rfl)
      (try simp only [Act.put, List.setIfInBounds_toArray, List.set_cons_zero, List.set_cons_succ])
      refine wpAnyH_take (i := 8) (oi := { dst := some 56, op := Op.indexAddr 38 (Operand.tmp 54) (Operand.tmp 55), type := 0, pos := "ref.go:486", after := #[{ on := 6, ground := Ground.data }, { on := 7, ground := Ground.data }], guard := none }) (v := ?_) rfl (by kernel_rfl) (by kernel_rfl) (by kernel_rfl) (fun _ _ _ h => h) (Or.inl ⟨by rfl, ?_⟩) (by assumption) ?_
      rotate_left 1
      · ((intro w hSw; (try dsimp only at hSw); go_simp) <;> with_reducible rfl)
      (try simp only [Act.put, List.setIfInBounds_toArray, List.set_cons_zero, List.set_cons_succ])
      refine' wpAnyH_take (i := 9) (oi := { dst := some 57, op := Op.load 37 (Operand.tmp 56), type := 37, pos := "ref.go:486", after := #[{ on := 8, ground := Ground.data }], guard := none }) (v := _) rfl (by kernel_rfl) (by kernel_rfl) (by kernel_rfl) (fun _ _ _ h => h) (yieldsIf_load_mid (by rfl) _ _ rfl _ _ rfl EL _ (fun w hSw => hSw.2.2) Try.underlying37 rfl hS1.out) (by assumption) ?_
      (try simp only [Act.put, List.setIfInBounds_toArray, List.set_cons_zero, List.set_cons_succ])
      refine wpAnyH_take (i := 10) (oi := { dst := some 58, op := Op.binOp BinOp.neq 37 (Operand.tmp 52) (Operand.tmp 57) 37, type := 4, pos := "ref.go:486", after := #[{ on := 4, ground := Ground.data }, { on := 9, ground := Ground.data }], guard := none }) (v := ?_) rfl (by kernel_rfl) (by kernel_rfl) (by kernel_rfl) (fun _ _ _ h => h) (Or.inl ⟨by rfl, ?_⟩) (by assumption) ?_
      rotate_left 1
      · ((intro w hSw; (try dsimp only at hSw); go_simp) <;> with_reducible rfl)
      (try simp only [Act.put, List.setIfInBounds_toArray, List.set_cons_zero, List.set_cons_succ])
      refine wpAnyH_done (by kernel_rfl) ?_ _
      refine NoPanic.normal ?_
      skip
      go_wp2_with fail
      go_roundw
      case rel => exact ⟨k + 1, by go_num, by omega, HId, HJd, HXd, HYd, HBd⟩
      case measure => simp [intOf]; omega
    · have hd : decide ((k : Int) < (n : Int)) = false := by simp; omega
      have hd2 : ¬ k < n := hlt
      go_wp2_with fail
      go_ret
      exact ⟨rfl, HB.out⟩
end Go.Proofs.Ytmcmapgllaopmaa.Cd
end
