/- Texts of one's own, merged: CdCb, CdCuId, CdREntry, CdRParse, CdKeep. -/
import Derived.Test.YtmcmapgllaopmaaMe

section
/- The document's place in bytes: pieces. -/
namespace Go.Proofs.Ytmcmapgllaopmaa.Cd
open Go.RowKit
set_option linter.unusedVariables false

theorem step_append_rd (w : World) {ops : Array Oper} {o : Oper} {a : Act} {K : Act → World → Prop} {Q : Exit → Act → World → Prop} {E : Prop} (hgd : o.guard = none) (s x : Operand)
    (ho : o.op = .call { callee := .builtin .append, args := #[s, x], argTypes := #[23, 23] })
    (B : Nat) (v : Value) (n : Nat) (d : List Int) (hs : a.eval s = v) (hown : w.ownsRow B 5 1 v n (bv d))
    (A : Option Addr) (m c : Nat) (l : List Int) (hx : a.eval x = .slice A m c) (hsl : RdB w A m c l)
    (hbytes : (n + m) * 1 ≤ 140737488355328) (hbase : B ≤ w.heap.size)
    (h : ∀ A' C' w', w'.ownsRow B 5 1 (.slice A' (n + m) C') (n + m) (bv (d ++ l)) → Below B w w' → K (a.put o.dst (.slice A' (n + m) C')) w') :
    if Region.wanted o (yielded ops a.tmps) = true then Oper.wp Try.prog o a w K Q else E := by
  have hw : Region.wanted o (yielded ops a.tmps) = true := by simp [Region.wanted, hgd]
  rw [if_pos hw]
  obtain ⟨i0, hi, hz0, hz1, hz2⟩ := info_parts info5
  have key : ∃ A' C' w', (Builtin.append_ #[23, 23] o.type #[v, .slice A m c]).run Try.prog w = .ok (.slice A' (n + m) C') w' ∧ w'.ownsRow B 5 1 (.slice A' (n + m) C') (n + m) (bv (d ++ l)) ∧ Below B w w' := by
    cases A with
    | none =>
      have hc := hsl.none rfl
      have hm : m = 0 := by have := hsl.cap; omega
      subst hm hc
      obtain rfl : l = [] := List.eq_nil_of_length_eq_zero hsl.len
      obtain ⟨A', C', rfl⟩ := own_slice' hown
      refine ⟨A', C', w, run_append_owned_none (P := Try.prog) w B 23 o.type 5 i0 1 Try.underlying23 hi _ _ _ hown, ?_, Below.refl B w⟩
      rw [List.append_nil]
      exact hown
    | some y =>
      obtain ⟨-, hcc⟩ := hsl.cell y rfl
      have hll := hsl.len
      have hnw : ∀ j u, (bv l)[j]? = some u → w.cell? (y.add j) = some u := by
        intro j u hj
        have hj1 := (List.getElem?_eq_some_iff.1 hj).1
        rw [bv, List.length_map, hll] at hj1
        rw [hcc j hj1, ← hj]
        simp [bv, hll, hj1]
      obtain ⟨v', w', hr, h2, h3, h4⟩ := run_append_own (P := Try.prog) w B 23 o.type 5 i0 (.int .u8 0) 1 1 Try.underlying23 hi hz0 hz1 hz2 rfl (by decide) v n (bv d) hown y m c (bv l) (by rw [bv, List.length_map, hll]; omega) hnw (bv_one l) (by unfold maxLen; omega) hbytes hbase
      obtain ⟨A', C', rfl⟩ := own_slice' h2
      exact ⟨A', C', w', hr, by rw [show bv (d ++ l) = bv d ++ bv l from by simp [bv]]; exact h2, below_grown hbase hown h3⟩
  obtain ⟨A', C', w', hr, h2, h3⟩ := key
  unfold Oper.wp execOp
  simp only [ho, resolve, invoke, builtin, Sem.run_bind, Sem.run_pure, Result.andThen_ok, List.map_toArray, List.map_cons, List.map_nil, hs, hx, hr]
  exact h A' C' w' h2 h3

/-- the bytes told, a row of one's own, and the place behind -/
def CbRet (R : Nat) (A : Option Addr) (L C : Nat) (l : List Int) (p : Nat) (cut : Bool) (n : Nat) (w : World) (e : Ending) (w' : World) : Prop :=
  ∃ A' C', e = .returned (.slice A' (cuB cut l p n L).length C') ∧ w'.ownsRow w.heap.size 5 1 (.slice A' (cuB cut l p n L).length C') (cuB cut l p n L).length (bv (cuB cut l p n L)) ∧ Cu w' R A L C l (cuP cut p n L) (cuC cut p n L) ∧ w.grownBy w' (some R)
theorem own_nil (w : World) (B : Nat) : w.ownsRow B 5 1 (.slice none 0 0) 0 (bv []) := ⟨by simp [bv], .inl ⟨rfl, rfl⟩⟩

set_option maxRecDepth 100000 in
set_option maxHeartbeats 1000000 in
theorem cbytes_r (R : Nat) (A : Option Addr) (L C : Nat) (l : List Int) (p : Nat) (cut : Bool) (n : Nat) (w : World) (h : Cu w R A L C l p cut) (hn : n ≤ 16777216) :
    Calls Try.prog 56 #[.pointer (some ⟨R, 0, none⟩), .int .i64 n] w (CbRet R A L C l p cut n w) := by
  have H := Lib.hid h
  have hle := h.le
  have hRl := h.row.lt
  have hbig := h.rd.big
  have hcap := h.rd.cap
  have hmax := h.rd.max
  have hc0 := h.c0
  have hc1 := h.c1
  have hc2 := h.c2
  have hf2 : w.frozen? ⟨R, 2, none⟩ = false := h.row.frozen 2
  have hf1 : w.frozen? ⟨R, 1, none⟩ = false := h.row.frozen 1
  clear h
  by_cases hcc : cuC cut p n L = true
  · have HS := Lib.hid (fun k => (H.out.drewN k).setC true)
    have HC := Lib.hid hcc
    cases cut with
    | true =>
      go_enter Try.func56, Try.ntmps56
      go_wp2
      go_quiet (fail)
      go_wp2
      go_ret
      refine ⟨none, 0, ?_, ?_, ?_, grown_setN w R _ 2 _⟩
      · rw [(cu_yes HC.out l).2]; rfl
      · rw [(cu_yes HC.out l).2]; exact own_nil _ _
      · rw [(cu_yes HC.out l).1, HC.out]; exact HS.out _
    | false =>
      have hd : decide ((L : Int) - (p : Int) < (n : Int)) = true := by
        have : decide (L - p < n) = true := by simpa [cuC] using hcc
        have := of_decide_eq_true this
        simp; omega
      clear hcc
      go_enter Try.func56, Try.ntmps56
      go_wp2
      go_quiet (fail)
      go_wp2
      go_ret
      refine ⟨none, 0, ?_, ?_, ?_, grown_setN w R _ 2 _⟩
      · rw [(cu_yes HC.out l).2]; rfl
      · rw [(cu_yes HC.out l).2]; exact own_nil _ _
      · rw [(cu_yes HC.out l).1, HC.out]; exact HS.out _
  · have hcf : cuC cut p n L = false := by simpa using hcc
    have hcut : cut = false := by
      cases cut with
      | false => rfl
      | true => exact absurd rfl hcc
    subst hcut
    have hlt : ¬ L - p < n := by
      have : decide (L - p < n) = false := by simpa [cuC] using hcf
      exact of_decide_eq_false this
    have HC := Lib.hid hcf
    clear hcc hcf
    have hd : decide ((L : Int) - (p : Int) < (n : Int)) = false := by simp; omega
    obtain ⟨q, hq⟩ : ∃ q, q = p + n := ⟨_, rfl⟩
    have hqe : (p : Int) + (n : Int) = (q : Int) := by omega
    have HQ := Lib.hid hq
    have z1 : (0 : Int) ≤ (p : Int) := by omega
    have z2 : (q : Int) ≤ (L : Int) := by omega
    have z3 : (q : Int) ≤ (C : Int) := by omega
    have z4 : (p : Int) ≤ (q : Int) := by omega
    have w1' : IntKind.i64.wrap (q : Int) = (q : Int) := IntWalk.i64_in _ (by omega)
    have w2' : IntKind.i64.wrap (p : Int) = (p : Int) := IntWalk.i64_in _ (by omega)
    have w3' : q - p = n := by omega
    clear hq
    go_enter Try.func56, Try.ntmps56
    go_wp2
    go_quiet (fail)
    go_wp2_with fail
    have HS0 := Lib.hid (H.out.drewN nq)
    have HG0 := Lib.hid (grown_drewN w R nq)
    have HB0 : Hid (w.heap.size = (w.drewN nq).heap.size) := Lib.hid rfl
    clear H hc0 hc1 hc2 hf1 hf2
    generalize w.drewN nq = w1 at *
    have hc0 := HS0.out.c0
    have hc1 := HS0.out.c1
    have dC : Hid (w1.drew.cell? ⟨R, 0, none⟩ = some (.slice A L C) ∧ w1.drew.cell? ⟨R, 1, none⟩ = some (.int .i64 (p : Int))) := Lib.hid ⟨hc0, hc1⟩
    obtain ⟨A2, hA2⟩ : ∃ A2, A2 = (if C = p then A else A.map (fun x => x.add p)) := ⟨_, rfl⟩
    have HRd := Lib.hid (rd_cut (HS0.out.drewN 1).rd p n (by omega) hle A2 hA2)
    have hcut2 := hA2.symm
    clear hA2
    refine wp_region_noPanic ?_
    refine wp_region_held_drew (S := (fun wS => wS.cell? ⟨R, 0, none⟩ = some (.slice A L C) ∧ wS.cell? ⟨R, 1, none⟩ = some (.int .i64 (p : Int)))) (by kernel_rfl) ?_ (fun hHeld => ?_)
    · ((try dsimp only); exact ⟨dC.out.1, dC.out.2⟩)
    refine wpAnyH_take (i := 1) (oi := { dst := some 28, op := Op.move (Operand.tmp 0), type := 97, pos := "ref.go:93", after := #[], guard := none }) (v := ?_) rfl (by kernel_rfl) (by kernel_rfl) (by kernel_rfl) (fun _ _ _ h => h) (Or.inl ⟨by rfl, ?_⟩) (by assumption) ?_
    rotate_left 1
    · ((intro w hSw; (try dsimp only at hSw); go_simp) <;> with_reducible rfl)
    (try simp only [Act.put, List.setIfInBounds_toArray, List.set_cons_zero, List.set_cons_succ])
    refine wpAnyH_take (i := 2) (oi := { dst := some 29, op := Op.nilCheck (Operand.tmp 28), type := 0, pos := "ref.go:93", after := #[{ on := 1, ground := Ground.data }], guard := none }) (v := ?_) rfl (by kernel_rfl) (by kernel_rfl) (by kernel_rfl) (fun _ _ _ h => h) (Or.inl ⟨by rfl, ?_⟩) (by assumption) ?_
    rotate_left 1
    · ((intro w hSw; (try dsimp only at hSw); go_simp) <;> with_reducible rfl)
    (try simp only [Act.put, List.setIfInBounds_toArray, List.set_cons_zero, List.set_cons_succ])
    refine wpAnyH_take (i := 3) (oi := { dst := some 30, op := Op.fieldAddr 99 (Operand.tmp 29) 0, type := 0, pos := "ref.go:93", after := #[{ on := 2, ground := Ground.data }], guard := none }) (v := ?_) rfl (by kernel_rfl) (by kernel_rfl) (by kernel_rfl) (fun _ _ _ h => h) (Or.inl ⟨by rfl, ?_⟩) (by assumption) ?_
    rotate_left 1
    · ((intro w hSw; (try dsimp only at hSw); go_simp) <;> with_reducible rfl)
    (try simp only [Act.put, List.setIfInBounds_toArray, List.set_cons_zero, List.set_cons_succ])
    refine wpAnyH_take (i := 4) (oi := { dst := some 31, op := Op.load 23 (Operand.tmp 30), type := 23, pos := "ref.go:93", after := #[{ on := 3, ground := Ground.data }], guard := none }) (v := ?_) rfl (by kernel_rfl) (by kernel_rfl) (by kernel_rfl) (fun _ _ _ h => h) (Or.inl ⟨by rfl, ?_⟩) (by assumption) ?_
    rotate_left 1
    · ((intro w hSw; (try dsimp only at hSw); go_simp) <;> with_reducible rfl)
    (try simp only [Act.put, List.setIfInBounds_toArray, List.set_cons_zero, List.set_cons_succ])
    refine wpAnyH_take (i := 5) (oi := { dst := some 32, op := Op.move (Operand.tmp 0), type := 97, pos := "ref.go:93", after := #[], guard := none }) (v := ?_) rfl (by kernel_rfl) (by kernel_rfl) (by kernel_rfl) (fun _ _ _ h => h) (Or.inl ⟨by rfl, ?_⟩) (by assumption) ?_
    rotate_left 1
    · ((intro w hSw; (try dsimp only at hSw); go_simp) <;> with_reducible rfl)
    (try simp only [Act.put, List.setIfInBounds_toArray, List.set_cons_zero, List.set_cons_succ])
    refine wpAnyH_take (i := 6) (oi := { dst := some 33, op := Op.nilCheck (Operand.tmp 32), type := 0, pos := "ref.go:93", after := #[{ on := 5, ground := Ground.data }], guard := none }) (v := ?_) rfl (by kernel_rfl) (by kernel_rfl) (by kernel_rfl) (fun _ _ _ h => h) (Or.inl ⟨by rfl, ?_⟩) (by assumption) ?_
    rotate_left 1
    · ((intro w hSw; (try dsimp only at hSw); go_simp) <;> with_reducible rfl)
    (try simp only [Act.put, List.setIfInBounds_toArray, List.set_cons_zero, List.set_cons_succ])
    refine wpAnyH_take (i := 7) (oi := { dst := some 34, op := Op.fieldAddr 99 (Operand.tmp 33) 1, type := 0, pos := "ref.go:93", after := #[{ on := 6, ground := Ground.data }], guard := none }) (v := ?_) rfl (by kernel_rfl) (by kernel_rfl) (by kernel_rfl) (fun _ _ _ h => h) (Or.inl ⟨by rfl, ?_⟩) (by assumption) ?_
    rotate_left 1
    · ((intro w hSw; (try dsimp only at hSw); go_simp) <;> with_reducible rfl)
    (try simp only [Act.put, List.setIfInBounds_toArray, List.set_cons_zero, List.set_cons_succ])
    refine wpAnyH_take (i := 8) (oi := { dst := some 35, op := Op.load 3 (Operand.tmp 34), type := 3, pos := "ref.go:93", after := #[{ on := 7, ground := Ground.data }], guard := none }) (v := ?_) rfl (by kernel_rfl) (by kernel_rfl) (by kernel_rfl) (fun _ _ _ h => h) (Or.inl ⟨by rfl, ?_⟩) (by assumption) ?_
    rotate_left 1
    · ((intro w hSw; (try dsimp only at hSw); go_simp) <;> with_reducible rfl)
    (try simp only [Act.put, List.setIfInBounds_toArray, List.set_cons_zero, List.set_cons_succ])
    refine wpAnyH_take (i := 9) (oi := { dst := some 36, op := Op.move (Operand.tmp 0), type := 97, pos := "ref.go:93", after := #[], guard := none }) (v := ?_) rfl (by kernel_rfl) (by kernel_rfl) (by kernel_rfl) (fun _ _ _ h => h) (Or.inl ⟨by rfl, ?_⟩) (by assumption) ?_
    rotate_left 1
    · ((intro w hSw; (try dsimp only at hSw); go_simp) <;> with_reducible rfl)
    (try simp only [Act.put, List.setIfInBounds_toArray, List.set_cons_zero, List.set_cons_succ])
    refine wpAnyH_take (i := 10) (oi := { dst := some 37, op := Op.nilCheck (Operand.tmp 36), type := 0, pos := "ref.go:93", after := #[{ on := 9, ground := Ground.data }], guard := none }) (v := ?_) rfl (by kernel_rfl) (by kernel_rfl) (by kernel_rfl) (fun _ _ _ h => h) (Or.inl ⟨by rfl, ?_⟩) (by assumption) ?_
    rotate_left 1
    · ((intro w hSw; (try dsimp only at hSw); go_simp) <;> with_reducible rfl)
    (try simp only [Act.put, List.setIfInBounds_toArray, List.set_cons_zero, List.set_cons_succ])
    refine wpAnyH_take (i := 11) (oi := { dst := some 38, op := Op.fieldAddr 99 (Operand.tmp 37) 1, type := 0, pos := "ref.go:93", after := #[{ on := 10, ground := Ground.data }], guard := none }) (v := ?_) rfl (by kernel_rfl) (by kernel_rfl) (by kernel_rfl) (fun _ _ _ h => h) (Or.inl ⟨by rfl, ?_⟩) (by assumption) ?_
    rotate_left 1
    · ((intro w hSw; (try dsimp only at hSw); go_simp) <;> with_reducible rfl)
    (try simp only [Act.put, List.setIfInBounds_toArray, List.set_cons_zero, List.set_cons_succ])
    refine wpAnyH_take (i := 12) (oi := { dst := some 39, op := Op.load 3 (Operand.tmp 38), type := 3, pos := "ref.go:93", after := #[{ on := 11, ground := Ground.data }], guard := none }) (v := ?_) rfl (by kernel_rfl) (by kernel_rfl) (by kernel_rfl) (fun _ _ _ h => h) (Or.inl ⟨by rfl, ?_⟩) (by assumption) ?_
    rotate_left 1
    · ((intro w hSw; (try dsimp only at hSw); go_simp) <;> with_reducible rfl)
    (try simp only [Act.put, List.setIfInBounds_toArray, List.set_cons_zero, List.set_cons_succ])
    refine wpAnyH_take (i := 13) (oi := { dst := some 40, op := Op.move (Operand.tmp 1), type := 3, pos := "ref.go:93", after := #[], guard := none }) (v := ?_) rfl (by kernel_rfl) (by kernel_rfl) (by kernel_rfl) (fun _ _ _ h => h) (Or.inl ⟨by rfl, ?_⟩) (by assumption) ?_
    rotate_left 1
    · ((intro w hSw; (try dsimp only at hSw); go_simp) <;> with_reducible rfl)
    (try simp only [Act.put, List.setIfInBounds_toArray, List.set_cons_zero, List.set_cons_succ])
    refine wpAnyH_take (i := 14) (oi := { dst := some 41, op := Op.binOp BinOp.add 3 (Operand.tmp 39) (Operand.tmp 40) 3, type := 3, pos := "ref.go:93", after := #[{ on := 12, ground := Ground.data }, { on := 13, ground := Ground.data }], guard := none }) (v := ?_) rfl (by kernel_rfl) (by kernel_rfl) (by kernel_rfl) (fun _ _ _ h => h) (Or.inl ⟨by rfl, ?_⟩) (by assumption) ?_
    rotate_left 1
    · ((intro w hSw; (try dsimp only at hSw); go_simp) <;> with_reducible rfl)
    (try simp only [Act.put, List.setIfInBounds_toArray, List.set_cons_zero, List.set_cons_succ])
    refine wpAnyH_take (i := 15) (oi := { dst := some 42, op := Op.slice 23 (Operand.tmp 31) (some (Operand.tmp 35)) (some (Operand.tmp 41)) none, type := 23, pos := "ref.go:93", after := #[{ on := 4, ground := Ground.data }, { on := 8, ground := Ground.data }, { on := 14, ground := Ground.data }], guard := none }) (v := ?_) rfl (by kernel_rfl) (by kernel_rfl) (by kernel_rfl) (fun _ _ _ h => h) (Or.inl ⟨by rfl, ?_⟩) (by assumption) ?_
    rotate_left 1
    · ((intro w hSw; (try dsimp only at hSw); go_simp) <;> with_reducible rfl)
    (try simp only [Act.put, List.setIfInBounds_toArray, List.set_cons_zero, List.set_cons_succ])
    refine wpAnyH_ready (rs := [0]) (by kernel_rfl) (by simp) ?_
    refine AllReadyH.cons (o := { dst := some 27, op := Op.buildSlice 23 0 #[], type := 23, pos := "ref.go:93", after := #[], guard := none }) rfl (fun K hK => ?_) ?_
    · go_simp
      have eC : Hid ((w1.drew.alloc (.cells #[] 5)).cell? ⟨R, 0, none⟩ = some (.slice A L C) ∧ (w1.drew.alloc (.cells #[] 5)).cell? ⟨R, 1, none⟩ = some (.int .i64 (p : Int))) := Lib.hid ⟨al_keep dC.out.1 _, al_keep dC.out.2 _⟩
      have dO := Lib.hid (own_lit w1.drew [] (Nat.zero_le _))
      have dR := Lib.hid (HRd.out.below ((Below.refl w1.drew.heap.size w1.drew).alloc (Nat.le_refl _) (.cells #[] 5)))
      have hsd : w1.drew.heap.size ≤ (w1.drew.alloc (.cells #[] 5)).heap.size := al_le _ _
      clear dC
      have dC := eC
      clear eC
      (try go_wp2_with fail)
      refine hK.out _ _ ?_ (fun hNew => ?_)
      · ((try dsimp only); exact ⟨dC.out.1, dC.out.2⟩)
      clear hK K hHeld
      have hHeld := hNew
      clear hNew
      (try simp only [Act.put, List.setIfInBounds_toArray, List.set_cons_zero, List.set_cons_succ])
      refine wpAnyH_ready (rs := [16]) (by kernel_rfl) (by simp) ?_
      refine AllReadyH.cons (o := { dst := some 43, op := Op.call { callee := Callee.builtin Builtin.append, args := #[Operand.tmp 27, Operand.tmp 42], argTypes := #[23, 23] }, type := 23, pos := "ref.go:93", after := #[{ on := 0, ground := Ground.data }, { on := 15, ground := Ground.data }], guard := none }) rfl (fun K hK => ?_) ?_
      · refine step_append_rd _ rfl _ _ rfl w1.drew.heap.size _ 0 [] rfl dO.out A2 n (C - p) ((l.drop p).take n) rfl dR.out (by omega) hsd ?_
        intro A' C' w3 ho hb
        have hb2 := ((Below.refl w1.drew.heap.size w1.drew).alloc (Nat.le_refl _) (.cells #[] 5)).trans hb
        have dU := Lib.hid ((HS0.out.drewN 1).below hb2)
        have dB := Lib.hid hb2
        have dO3 := Lib.hid ho
        have eC : Hid (w3.cell? ⟨R, 0, none⟩ = some (.slice A L C) ∧ w3.cell? ⟨R, 1, none⟩ = some (.int .i64 (p : Int))) := Lib.hid ⟨dU.out.c0, dU.out.c1⟩
        clear dC ho hb hb2 dO dR hsd
        have dC := eC
        clear eC
        (try go_wp2_with fail)
        refine hK.out _ _ ?_ (fun hNew => ?_)
        · ((try dsimp only); exact ⟨dC.out.1, dC.out.2⟩)
        clear hK K hHeld
        have hHeld := hNew
        clear hNew
        (try simp only [Act.put, List.setIfInBounds_toArray, List.set_cons_zero, List.set_cons_succ])
        refine wpAnyH_take (i := 17) (oi := { dst := some 5, op := Op.assign (Operand.tmp 43), type := 23, pos := "ref.go:93", after := #[{ on := 16, ground := Ground.data }, { on := 16, ground := Ground.chain }, { on := 0, ground := Ground.phase }, { on := 1, ground := Ground.phase }, { on := 2, ground := Ground.phase }, { on := 3, ground := Ground.phase }, { on := 4, ground := Ground.phase }, { on := 5, ground := Ground.phase }, { on := 6, ground := Ground.phase }, { on := 7, ground := Ground.phase }, { on := 8, ground := Ground.phase }, { on := 9, ground := Ground.phase }, { on := 10, ground := Ground.phase }, { on := 11, ground := Ground.phase }, { on := 12, ground := Ground.phase }, { on := 13, ground := Ground.phase }, { on := 14, ground := Ground.phase }, { on := 15, ground := Ground.phase }, { on := 16, ground := Ground.phase }], guard := none }) (v := ?_) rfl (by kernel_rfl) (by kernel_rfl) (by kernel_rfl) (fun _ _ _ h => h) (Or.inl ⟨by rfl, ?_⟩) (by assumption) ?_
        rotate_left 1
        · ((intro w hSw; (try dsimp only at hSw); go_simp) <;> with_reducible rfl)
        (try simp only [Act.put, List.setIfInBounds_toArray, List.set_cons_zero, List.set_cons_succ])
        refine wpAnyH_done (by kernel_rfl) ?_ _
        refine NoPanic.normal ?_
        clear hHeld
        have hlen : ((l.drop p).take n).length = n := HRd.out.len
        have dO4 : Hid (w3.ownsRow w.heap.size 5 1 (.slice A' n C') n (bv ((l.drop p).take n))) := Lib.hid (by
          have h := dO3.out
          rw [Nat.zero_add, List.nil_append] at h
          rw [HB0.out]
          exact h)
        have hc1' := dC.out.2
        have hf1' : w3.frozen? ⟨R, 1, none⟩ = false := dU.out.row.frozen 1
        have HSx := Lib.hid (dU.out.setP q (by have := HQ.out; omega))
        have HOx := Lib.hid (own_grown dO4.out (grown_set w3 R 1 (.int .i64 (q : Int))) (fun e => by have := (dO4.out.lt R e).1; omega))
        have HGx : Hid (w.grownBy (w3.setCell ⟨R, 1, none⟩ (.int .i64 (q : Int))) (some R)) := Lib.hid (by
          have hb := dB.out
          have h1 : w1.grownBy w3 (some R) := ⟨hb.os, hb.tape, hb.output, hb.size, fun i hi _ => hb.block i hi⟩
          exact grown_trans (grown_trans HG0.out h1) (grown_set w3 R 1 _))
        have HLn := Lib.hid hlen
        clear hlen dO3 dO4 dC dB dU hc0 hc1 HRd
        go_wp2_with fail
        go_ret
        refine ⟨A', C', ?_, ?_, ?_, HGx.out⟩
        · rw [(cu_no HC.out l).2, HLn.out]; rfl
        · rw [(cu_no HC.out l).2, HLn.out]; exact HOx.out
        · rw [(cu_no HC.out l).1, HC.out, ← HQ.out]; exact HSx.out
      exact AllReadyH.nil
    exact AllReadyH.nil
end Go.Proofs.Ytmcmapgllaopmaa.Cd
end

section
/- The document's place in bytes: Ids, texts. -/
namespace Go.Proofs.Ytmcmapgllaopmaa.Cd
open Go.RowKit
set_option linter.unusedVariables false

theorem tv_snoc (l : List Int) (c : Int) : tv (l ++ [c]) = bits .or .i64 (wrap64 (tv l * 256)) c := by simp [tv]
/-- a number of at most four bytes -/
theorem tv_nv : ∀ (k : Nat) (l : List Int), k ≤ 4 → l.length ≤ k → (∀ i, i < l.length → 0 ≤ l.getD i 0 ∧ l.getD i 0 ≤ 255) → tv l = nv l := by
  intro k
  induction k with
  | zero =>
    intro l _ hl _
    obtain rfl : l = [] := List.eq_nil_of_length_eq_zero (by omega)
    rfl
  | succ k ih =>
    intro l hk hl hb
    rcases List.eq_nil_or_concat l with rfl | ⟨m, c, rfl⟩
    · rfl
    · rw [List.concat_eq_append] at *
      have hbm : ∀ i, i < m.length → 0 ≤ m.getD i 0 ∧ m.getD i 0 ≤ 255 := fun i hi => by
        have := hb i (by simp; omega)
        simpa [List.getD, List.getElem?_append_left hi] using this
      have h1 := ih m (by omega) (by simp at hl; omega) hbm
      have h2 := hb m.length (by simp)
      have h3 : (m ++ [c]).getD m.length 0 = c := by simp [List.getD]
      rw [h3] at h2
      have h4 := nv_small m 3 (by omega) (by simp at hl; omega) hbm
      rw [tv_snoc, nv_snoc, h1]
      have hw : wrap64 (nv m * 256) = nv m * 256 := IntWalk.wrap64_in _ (by omega)
      rw [hw, or_low _ _ h4.1 h4.2 h2.1 h2.2]
theorem cuB_len (cut : Bool) (l : List Int) (p n L : Nat) : (cuB cut l p n L).length ≤ n := by
  unfold cuB
  split
  · simp
  · rw [List.length_take]; omega
theorem cuB_byte {cut : Bool} {l : List Int} {p n L : Nat} (hl : l.length = L) (hb : ∀ i, i < L → 0 ≤ l.getD i 0 ∧ l.getD i 0 ≤ 255) : ∀ i, i < (cuB cut l p n L).length → 0 ≤ (cuB cut l p n L).getD i 0 ∧ (cuB cut l p n L).getD i 0 ≤ 255 := by
  unfold cuB
  split
  · intro i hi; exact absurd hi (by simp)
  · intro i hi
    rw [List.length_take, List.length_drop] at hi
    rw [take_getD _ _ _ (by omega)]
    have := hb (p + i) (by omega)
    simpa [List.getD] using this
theorem cu_num {cut : Bool} {l : List Int} {p n L : Nat} (hn : n ≤ 3) (hl : l.length = L) (hb : ∀ i, i < L → 0 ≤ l.getD i 0 ∧ l.getD i 0 ≤ 255) : tv (cuB cut l p n L) = nv (cuB cut l p n L) ∧ 0 ≤ nv (cuB cut l p n L) ∧ nv (cuB cut l p n L) < 16777216 :=
  ⟨tv_nv 4 _ (Nat.le_refl _) (by have := cuB_len cut l p n L; omega) (cuB_byte hl hb), nv_small _ 3 (by omega) (by have := cuB_len cut l p n L; omega) (cuB_byte hl hb)⟩

/-- bytes laid one by one -/
def atF (T : List Int) (k : Nat) : Nat → Value := fun j => .int .u8 (if j < k then T.getD j 0 else 0)
theorem atF_step (T : List Int) (k : Nat) (j : Nat) : (if j = k then Value.int .u8 (T.getD k 0) else atF T k j) = atF T (k + 1) j := by
  unfold atF
  by_cases h : j = k
  · subst h; simp
  · rw [if_neg h]
    by_cases h2 : j < k
    · rw [if_pos h2, if_pos (by omega)]
    · rw [if_neg h2, if_neg (by omega)]

set_option maxHeartbeats 1000000 in
theorem at_any (A : Option Addr) (C : Nat) (l : List Int) (w : World) (h : RdB w A 32 C l) :
    Calls Try.prog 86 #[.slice A 32 C, .int .i64 0] w fun e w' => e = .returned (.agg (bv l).toArray) ∧ Below w.heap.size w w' := by
  have hz1 := zero32
  have hll := h.len
  generalize hZ1 : (bv (List.replicate 32 0)).toArray = Z1 at *
  have HZ1 := Lib.hid hZ1
  have HO1 : Hid ((w.alloc (.cells Z1 37)).rowIs w.heap.size 37 32 (fun _ => .int .u8 0)) := Lib.hid (by rw [← HZ1.out]; exact row_zeros w 32 _)
  have hX1 : (w.alloc (.cells Z1 37)).heap.size = w.heap.size + 1 := by show (w.heap.push _).size = _; simp
  have HB1 := Lib.hid ((Below.refl w.heap.size w).alloc (Nat.le_refl _) (.cells Z1 37))
  have HI2 : Hid (((w.alloc (.cells Z1 37)).alloc (.cells Z1 37)).rowIs (w.alloc (.cells Z1 37)).heap.size 37 32 (atF l 0)) := Lib.hid (by
    have h := row_zeros (w.alloc (.cells Z1 37)) 32 37
    rw [hZ1] at h
    exact h.congr (fun j _ => by unfold atF; rw [if_neg (by omega)]))
  have HO2 := Lib.hid (World.rowIs.alloc HO1.out (.cells Z1 37))
  have HB2 := Lib.hid (HB1.out.alloc (show w.heap.size ≤ (w.alloc (.cells Z1 37)).heap.size by omega) (.cells Z1 37))
  have HRd := Lib.hid (h.below HB2.out)
  have HLt : Hid (∀ x, A = some x → x.block < w.heap.size) := Lib.hid (fun x hx => (h.cell x hx).1 (by omega))
  have hcap := h.cap
  have hmax := h.max
  rw [hX1] at HI2
  clear hZ1 h HO1 HB1
  go_enter Try.func86, Try.ntmps86
  go_upto_region 2 with (fail)
  (try rw [hX1])
  generalize (w.alloc (.cells Z1 37)).alloc (.cells Z1 37) = w2 at *
  clear hX1
  obtain ⟨I, hI⟩ : ∃ I, I = w.heap.size + 1 := ⟨_, rfl⟩
  obtain ⟨O, hO⟩ : ∃ O, O = w.heap.size := ⟨_, rfl⟩
  rw [← hI] at HI2 ⊢
  rw [← hO] at HO2 HB2 HLt ⊢
  have hOI : O < I := by omega
  have HOw := Lib.hid hO
  clear hI hO
  go_wp2_with fail
  go_loopw [6] (fun s wr => ∃ k : Nat, s = .int .i64 k ∧ k ≤ 32 ∧ Hid (wr.rowIs I 37 32 (atF l k)) ∧ Hid (wr.rowIs O 37 32 (fun _ => .int .u8 0)) ∧ Hid (Below O w wr) ∧ Hid (RdB wr A 32 C l)) (fun s _ => 32 - (intOf s).toNat)
  case atStart => exact ⟨0, rfl, Nat.zero_le _, HI2, HO2, HB2, HRd⟩
  case round =>
    clear HI2 HO2 HB2 HRd
    obtain ⟨k, rfl, hk, HI, HO, HB, HRd⟩ := hrel
    by_cases hlt : k < 32
    · obtain ⟨g, o, rfl, hgl, hcc⟩ := HRd.out.at (by omega)
      have hc : wr.cell? ⟨g, o + k, none⟩ = some (.int .u8 (l.getD k 0)) := hcc k hlt
      have hgO : g < O := HLt.out _ rfl
      have hci : wr.cell? ⟨I, k, none⟩ = some _ := HI.out.cell hlt
      have hfi : wr.frozen? ⟨I, k, none⟩ = false := HI.out.frozen _
      have HI3 := Lib.hid ((HI.out.set k (.int .u8 (l.getD k 0))).congr (fun j _ => atF_step l k j))
      have HO3 := Lib.hid (HO.out.setOther (a := ⟨I, k, none⟩) (by show O ≠ I; omega) (.int .u8 (l.getD k 0)))
      have HB3 := Lib.hid (HB.out.setCell (p := ⟨I, k, none⟩) (by show O ≤ I; omega) (.int .u8 (l.getD k 0)))
      have HRd3 := Lib.hid (HRd.out.grown (grown_set wr I k (.int .u8 (l.getD k 0))) (fun x hx _ => by have := HLt.out x hx; omega))
      have hk0 : (0 : Int) ≤ (k : Int) := by omega
      have hk1 : (k : Int) < 32 := by omega
      clear HI HO HB HRd hcc
      generalize l.getD k 0 = c at *
      go_wp2_with fail
      go_roundw
      case rel => exact ⟨k + 1, by go_num, by omega, HI3, HO3, HB3, HRd3⟩
      case measure => simp [intOf]; omega
    · have ek : k = 32 := by omega
      have hd : decide ((k : Int) < 32) = false := by simp; omega
      have hbl : (bv l).length = 32 := by rw [bv_len, hll]
      have HRg : Hid (wr.rangeAt I 0 (bv l)) := Lib.hid (fun j v hj => by
        have hl := (List.getElem?_eq_some_iff.1 hj).1
        rw [hbl] at hl
        rw [Nat.zero_add, HI.out.cell hl, atF, if_pos (by omega), ← hj]
        simp [bv, List.getD, show j < l.length by omega])
      have HSz : Hid ((Try.prog.info? 37).map (·.size) = some (bv l).length) := Lib.hid (by rw [hbl]; kernel_rfl)
      have HSz2 : Hid ((Try.prog.info? 37).map (·.size) = some (bv l).toArray.size) := Lib.hid (by rw [List.size_toArray]; exact HSz.out)
      have HOne := Lib.hid (all_oneCell_toArray (bv_one l))
      have HTh : Hid (wr.there O 0 (bv l).toArray.size) := Lib.hid (fun j hj => by
        rw [List.size_toArray, hbl] at hj
        rw [Nat.zero_add]
        exact ⟨by rw [HO.out.cell hj]; rfl, HO.out.frozen _⟩)
      have HSt := Lib.hid (row_stored HO.out (bv l) hbl)
      have HBx := Lib.hid (below_cells (Nat.le_refl O) (bv l) 0 _ HB.out)
      clear HI HO HB HRd hbl
      generalize hDL : bv l = DL at *
      have HDL := Lib.hid hDL
      clear hDL
      go_wp2_with (first
        | (refine wpList_load_mid rfl _ _ rfl I 0 rfl DL _ HRg.out Try.underlying37 rfl HSz.out ?_)
        | (refine wpList_store_mid rfl _ _ _ rfl O 0 DL.toArray rfl rfl HTh.out HSz2.out HOne.out ?_))
      refine bodyPost_ret (results_cell_row rfl _ _ O _ _ _ _ rfl HSt.out Try.underlying37 rfl HSz2.out) rfl ?_
      exact ⟨by rw [HDL.out], by rw [← HOw.out]; exact HBx.out⟩

theorem Cu.laid {R : Nat} {A : Option Addr} {L C : Nat} {l : List Int} {p : Nat} {cut : Bool} {X : Nat} (hX : X ≠ R) : ∀ (vs : List Value) (o : Nat) (w : World), (∀ x, A = some x → 0 < L → x.block ≠ X) → Cu w R A L C l p cut → Cu (w.setCells X o vs) R A L C l p cut
  | [], _, _, _, h => h
  | v :: vs, o, w, ha, h => Cu.laid hX vs (o + 1) _ ha ⟨h.row.setOther (a := ⟨X, o, none⟩) (Ne.symm hX) v, h.rd.grown (grown_set w X o v) ha, h.apart, h.le⟩
theorem grown_of_below {B : Nat} {w w' : World} {R : Nat} (hb : Below B w w') (hB : B = w.heap.size) : w.grownBy w' (some R) := ⟨hb.os, hb.tape, hb.output, hB ▸ hb.size, fun i hi _ => hb.block i (hB ▸ hi)⟩

/-- the Id told, and the place behind -/
def CiRet (R : Nat) (A : Option Addr) (L C : Nat) (l : List Int) (p : Nat) (cut : Bool) (w : World) (e : Ending) (w' : World) : Prop :=
  e = .returned (.agg (bv (idv (cuB cut l p 32 L))).toArray) ∧ Cu w' R A L C l (cuP cut p 32 L) (cuC cut p 32 L) ∧ w.grownBy w' (some R)

set_option maxRecDepth 100000 in
set_option maxHeartbeats 1000000 in
theorem cid_r (R : Nat) (A : Option Addr) (L C : Nat) (l : List Int) (p : Nat) (cut : Bool) (w : World) (h : Cu w R A L C l p cut) :
    Calls Try.prog 49 #[.pointer (some ⟨R, 0, none⟩)] w (CiRet R A L C l p cut w) := by
  have hz1 := zero32
  have hRl := h.row.lt
  have HLt : Hid (∀ x, A = some x → 0 < L → x.block < w.heap.size) := Lib.hid (fun x hx h0 => (h.rd.cell x hx).1 h0)
  generalize hZ1 : (bv (List.replicate 32 0)).toArray = Z1 at *
  have HZ1 := Lib.hid hZ1
  have HO1 : Hid ((w.alloc (.cells Z1 37)).rowIs w.heap.size 37 32 (fun _ => .int .u8 0)) := Lib.hid (by rw [← HZ1.out]; exact row_zeros w 32 _)
  have hs1 := al_lt w (.cells Z1 37)
  have hb1 := (Below.refl w.heap.size w).alloc (Nat.le_refl _) (.cells Z1 37)
  have HU := Lib.hid (h.below hb1)
  have HG1 := Lib.hid (grown_of_below (R := R) hb1 rfl)
  have HBy := Lib.hid (cbytes_r R A L C l p cut 32 _ HU.out (by omega))
  rw [show ((32 : Nat) : Int) = 32 from rfl] at HBy
  have HBd : Hid (∀ i, i < (cuB cut l p 32 L).length → 0 ≤ (cuB cut l p 32 L).getD i 0 ∧ (cuB cut l p 32 L).getD i 0 ≤ 255) := Lib.hid (cuB_byte h.rd.len h.rd.byte)
  clear h hb1 hZ1 HU
  go_enter Try.func49, Try.ntmps49
  go_wp2_with fail
  generalize w.alloc (.cells Z1 37) = w1 at *
  refine HBy.out.mono ?_
  rintro e w2 ⟨A', C', rfl, ho, hU, hg⟩
  obtain ⟨O, hO⟩ : ∃ O, O = w.heap.size := ⟨_, rfl⟩
  rw [← hO] at HO1 HLt hRl hs1 ⊢
  have HOw := Lib.hid hO
  have HO2 := Lib.hid (World.rowIs.of_block HO1.out (hg.block O hs1 (fun e => by have := Option.some.inj e; omega)))
  have HG2 := Lib.hid (grown_trans HG1.out hg)
  have HU2 := Lib.hid hU
  have HO := Lib.hid ho
  have hc2 := hU.c2
  have hs2 : w1.heap.size ≤ w2.heap.size := hg.size
  clear ho hU hg HBy HO1 HG1 hO
  by_cases hc : cuC cut p 32 L = true
  · have HC := Lib.hid hc
    rw [hc] at hc2
    have hT := (cu_yes hc l).2
    clear hc
    have HFn : Hid (w2.there O 0 (bv (List.replicate 32 0)).toArray.size) := Lib.hid (fun j hj => by
      have hj2 : j < 32 := by simpa [bv] using hj
      rw [Nat.zero_add]
      exact ⟨by rw [HO2.out.cell hj2]; rfl, HO2.out.frozen _⟩)
    have HSz2 : Hid ((Try.prog.info? 37).map (·.size) = some (bv (List.replicate 32 0)).toArray.size) := Lib.hid (by kernel_rfl)
    have HOne := Lib.hid (all_oneCell_toArray (bv_one (List.replicate 32 0)))
    have HSt := Lib.hid (row_stored HO2.out (bv (List.replicate 32 0)) (by simp [bv]))
    have HUx := Lib.hid (Cu.laid (X := O) (by omega) (bv (List.replicate 32 0)) 0 _ (fun x hx h0 => by have := HLt.out x hx h0; omega) HU2.out)
    have HGx := Lib.hid (grown_laid (a := w) (E := O) (by have := HOw.out; omega) (bv (List.replicate 32 0)) 0 _ HG2.out)
    have HT : Hid ((bv (List.replicate 32 0)).toArray = (bv (idv (cuB cut l p 32 L))).toArray) := Lib.hid (by rw [hT]; rfl)
    clear hT HO2 HU2 HG2
    go_wp2_with (first
      | (refine wpList_build rfl 37 _ rfl (by kernel_rfl) ?_
         generalize hG : Option.getD (Program.built _ _ _) _ = KA
         have HKe : Hid (KA = (bv (List.replicate 32 0)).toArray) := Lib.hid (hG.symm.trans (show _ = (bv (List.replicate 32 0)).toArray from by kernel_rfl))
         clear hG)
      | (refine wpList_store_mid rfl _ _ _ rfl O 0 (bv (List.replicate 32 0)).toArray rfl (show _ = _ from congrArg Value.agg HKe.out) HFn.out HSz2.out HOne.out ?_))
    refine bodyPost_ret (results_cell_row rfl _ _ O _ _ _ _ rfl HSt.out Try.underlying37 rfl HSz2.out) rfl ?_
    exact ⟨by rw [HT.out], HUx.out, HGx.out⟩
  · have hcf : cuC cut p 32 L = false := by simpa using hc
    rw [hcf] at hc2
    have hlen : (cuB cut l p 32 L).length = 32 := by
      rw [(cu_no hcf l).2, List.length_take, List.length_drop, HU2.out.rd.len]
      have : decide (L - p < 32) = false := by
        cases cut with
        | true => simp [cuC] at hcf
        | false => simpa [cuC] using hcf
      have := of_decide_eq_false this
      omega
    have HBd2 := HBd.out
    have hid2 : idv (cuB cut l p 32 L) = cuB cut l p 32 L := by simp [idv, hlen]
    rw [← hcf] at hc2
    rw [hcf] at hc2
    have HI2 := Lib.hid hid2
    generalize hTT : cuB cut l p 32 L = T at *
    have HTT := Lib.hid hTT
    clear hTT
    have hrd := RdB.of_own2 HO.out (by omega) HBd2
    rw [hlen] at hrd
    have HAt := Lib.hid (at_any A' C' T w2 hrd)
    have HLn := Lib.hid hlen
    clear hc hcf hid2 HBd2 HBd hrd
    rw [hlen]
    go_wp2_with fail
    refine HAt.out.mono ?_
    rintro e w3 ⟨rfl, hb⟩
    have hbl : (bv T).length = 32 := by rw [bv_len, HLn.out]
    have HO3 := HO2.out.of_block (hb.block O (by omega))
    have HFn : Hid (w3.there O 0 (bv T).toArray.size) := Lib.hid (fun j hj => by
      rw [List.size_toArray, hbl] at hj
      rw [Nat.zero_add]
      exact ⟨by rw [HO3.cell hj]; rfl, HO3.frozen _⟩)
    have HSz2 : Hid ((Try.prog.info? 37).map (·.size) = some (bv T).toArray.size) := Lib.hid (by rw [List.size_toArray, hbl]; kernel_rfl)
    have HOne := Lib.hid (all_oneCell_toArray (bv_one T))
    have HSt := Lib.hid (row_stored HO3 (bv T) hbl)
    have HUx := Lib.hid (Cu.laid (X := O) (by omega) (bv T) 0 _ (fun x hx h0 => by have := HLt.out x hx h0; omega) (HU2.out.below hb))
    have HGx := Lib.hid (grown_laid (a := w) (E := O) (by have := HOw.out; omega) (bv T) 0 _ (grown_trans HG2.out (grown_of_below hb rfl)))
    clear hbl HO3 hb HAt HO2 HU2 HG2
    generalize hDT : bv T = DT at *
    have HDT := Lib.hid hDT
    clear hDT
    go_wp2_with (refine wpList_store_mid rfl _ _ _ rfl O 0 DT.toArray rfl rfl HFn.out HSz2.out HOne.out ?_)
    refine bodyPost_ret (results_cell_row rfl _ _ O _ _ _ _ rfl HSt.out Try.underlying37 rfl HSz2.out) rfl ?_
    exact ⟨by rw [HTT.out, HI2.out, HDT.out], HUx.out, HGx.out⟩

/-- a text behind a number of n bytes: its length; where the place is, whether it was cut; its bytes -/
def ctM (cut : Bool) (l : List Int) (p n L : Nat) : Nat := (nv (cuB cut l p n L)).toNat
def ctB (cut : Bool) (l : List Int) (p n L : Nat) : List Int := cuB (cuC cut p n L) l (cuP cut p n L) (ctM cut l p n L) L
def ctP (cut : Bool) (l : List Int) (p n L : Nat) : Nat := cuP (cuC cut p n L) (cuP cut p n L) (ctM cut l p n L) L
def ctC (cut : Bool) (l : List Int) (p n L : Nat) : Bool := cuC (cuC cut p n L) (cuP cut p n L) (ctM cut l p n L) L
def CtRet (R : Nat) (A : Option Addr) (L C : Nat) (l : List Int) (p : Nat) (cut : Bool) (n : Nat) (w : World) (e : Ending) (w' : World) : Prop :=
  e = .returned (.string (sb (ctB cut l p n L))) ∧ Cu w' R A L C l (ctP cut l p n L) (ctC cut l p n L) ∧ w.grownBy w' (some R)

set_option maxRecDepth 100000 in
theorem ctext_r (R : Nat) (A : Option Addr) (L C : Nat) (l : List Int) (p : Nat) (cut : Bool) (n : Nat) (w : World) (h : Cu w R A L C l p cut) (hn : n ≤ 3) :
    Calls Try.prog 48 #[.pointer (some ⟨R, 0, none⟩), .int .i64 n] w (CtRet R A L C l p cut n w) := by
  have HNu := Lib.hid (cnum_r R A L C l p cut n w h (by omega))
  obtain ⟨e1, b0, b1⟩ := cu_num (cut := cut) (p := p) hn h.rd.len h.rd.byte
  have hm : tv (cuB cut l p n L) = ((ctM cut l p n L : Nat) : Int) := by rw [e1]; unfold ctM; omega
  have hmb : ctM cut l p n L < 16777216 := by unfold ctM; omega
  unfold CnRet at HNu
  rw [hm] at HNu
  unfold CtRet ctB ctP ctC
  have HBd : Hid (∀ i, i < (cuB (cuC cut p n L) l (cuP cut p n L) (ctM cut l p n L) L).length → 0 ≤ (cuB (cuC cut p n L) l (cuP cut p n L) (ctM cut l p n L) L).getD i 0 ∧ (cuB (cuC cut p n L) l (cuP cut p n L) (ctM cut l p n L) L).getD i 0 ≤ 255) := Lib.hid (cuB_byte h.rd.len h.rd.byte)
  have HLn := Lib.hid (cuB_len (cuC cut p n L) l (cuP cut p n L) (ctM cut l p n L) L)
  generalize ctM cut l p n L = m at *
  clear hm e1 b0 b1 h
  go_enter Try.func48, Try.ntmps48
  go_wp2_with fail
  refine HNu.out.mono ?_
  rintro e w1 ⟨rfl, hU, hg⟩
  have HBy := Lib.hid (cbytes_r R A L C l _ _ m w1 hU (by omega))
  have HG := Lib.hid hg
  clear hU hg HNu
  go_wp2_with fail
  refine HBy.out.mono ?_
  rintro e w2 ⟨A', C', rfl, ho, hU2, hg2⟩
  have cv := conv_rd (RdB.of_own2 ho (by have := HLn.out; omega) HBd.out)
  have HU2 := Lib.hid hU2
  have HG2 := Lib.hid (grown_trans HG.out hg2)
  clear hU2 hg2 ho HBy HG
  go_wp2_with fail
  go_ret
  exact ⟨rfl, HU2.out, HG2.out⟩
end Go.Proofs.Ytmcmapgllaopmaa.Cd
end

section
/- The document's entry: what is wrong with one. -/
namespace Go.Proofs.Ytmcmapgllaopmaa.Cd
open Go.RowKit
set_option linter.unusedVariables false

set_option maxRecDepth 100000 in
set_option maxHeartbeats 2000000 in
theorem rentry_any (s : ByteArray) (k : Int) (ids : List Int) (hids : ids.length = 32) (hs : s.size ≤ 140737488355327) (first : Bool) (last : ByteArray) (w : World) :
    Calls Try.prog 42 #[.agg (ent s k ids).toArray, .bool first, .string last] w fun e w' => e = .returned (.int .i64 (ce k s ids (if first = true then none else some last))) ∧ Below w.heap.size w w' := by
  have hcl := ent_cells s k ids
  have h0 := al_cell w (ent s k ids).toArray 87 0 (.string s) rfl
  have h1 := al_cell w (ent s k ids).toArray 87 1 (.int .i64 k) rfl
  have HR := Lib.hid (ent_range2 s k ids w 87)
  have HL := Lib.hid (show (Try.prog.info? 37).map (·.size) = some (bv ids).length by rw [bv, List.length_map, hids]; kernel_rfl)
  have HN := Lib.hid (fun W => rname_any s W (Nat.le_trans hs (by decide)))
  generalize hE : ent s k ids = E at *
  have HE := Lib.hid hE
  clear hE
  have HA := Lib.hid ((Below.refl w.heap.size w).alloc (Nat.le_refl _) (.cells E.toArray 87))
  by_cases hk : k < 1 ∨ 4 < k
  · have e1 : ce k s ids (if first = true then none else some last) = 3 := by unfold ce; rw [if_pos hk]
    rw [e1]
    clear e1
    rcases hk with hk | hk
    · go_enter Try.func42, Try.ntmps42
      go_wp2_with fail
      go_ret
      exact ⟨rfl, HA.out⟩
    · have hk2 : ¬ k < 1 := by omega
      go_enter Try.func42, Try.ntmps42
      go_wp2_with fail
      go_ret
      exact ⟨rfl, HA.out⟩
  · have hk1 : 1 ≤ k := by omega
    have hk4 : k ≤ 4 := by omega
    by_cases hnm : NmOk s
    · have hn1 : decide (NmOk s) = true := decide_eq_true hnm
      rw [hn1] at HN
      have hq : ∀ W, (Op.equalIn 10000 37 (.agg (bv ids).toArray) (.agg #[.int .u8 0, .int .u8 0, .int .u8 0, .int .u8 0, .int .u8 0, .int .u8 0, .int .u8 0, .int .u8 0, .int .u8 0, .int .u8 0, .int .u8 0, .int .u8 0, .int .u8 0, .int .u8 0, .int .u8 0, .int .u8 0, .int .u8 0, .int .u8 0, .int .u8 0, .int .u8 0, .int .u8 0, .int .u8 0, .int .u8 0, .int .u8 0, .int .u8 0, .int .u8 0, .int .u8 0, .int .u8 0, .int .u8 0, .int .u8 0, .int .u8 0, .int .u8 0])).run Try.prog W = .ok (decide (ids = List.replicate 32 0)) W := fun W => ids_none ids hids W
      by_cases hz : ids = List.replicate 32 0
      · have e1 : ce k s ids (if first = true then none else some last) = 1 := by unfold ce; rw [if_neg hk, if_neg (fun h => h hnm), if_pos hz]
        rw [e1]
        have hz2 : decide (ids = List.replicate 32 0) = true := decide_eq_true hz
        rw [hz2] at hq
        clear e1 hk hz hz2 hn1
        generalize bv ids = DI at *
        go_enter Try.func42, Try.ntmps42
        go_wp2_with fail
        refine (HN.out _).mono ?_
        rintro e w1 ⟨rfl, rfl⟩
        go_wp2_with (refine wpList_load_mid rfl _ _ rfl w.heap.size 2 rfl DI _ HR.out Try.underlying37 rfl HL.out ?_)
        go_ret
        exact ⟨rfl, HA.out⟩
      · have hz2 : decide (ids = List.replicate 32 0) = false := decide_eq_false hz
        rw [hz2] at hq
        cases first with
        | true =>
          have e1 : ce k s ids none = 0 := by unfold ce; rw [if_neg hk, if_neg (fun h => h hnm), if_neg hz]
          rw [if_pos rfl, e1]
          clear e1 hk hz hz2 hn1
          generalize bv ids = DI at *
          go_enter Try.func42, Try.ntmps42
          go_wp2_with fail
          refine (HN.out _).mono ?_
          rintro e w1 ⟨rfl, rfl⟩
          go_wp2_with (refine wpList_load_mid rfl _ _ rfl w.heap.size 2 rfl DI _ HR.out Try.underlying37 rfl HL.out ?_)
          go_ret
          exact ⟨rfl, HA.out⟩
        | false =>
          have e1 : ce k s ids (some last) = if leS s last = true then 18 else 0 := by unfold ce; rw [if_neg hk, if_neg (fun h => h hnm), if_neg hz]
          rw [if_neg (by decide), e1]
          have hle : (Op.bytesLess s.toList last.toList || s.toList == last.toList) = leS s last := rfl
          clear e1 hk hz hz2 hn1
          generalize bv ids = DI at *
          cases hB : leS s last
          · rw [hB] at hle
            clear hB
            go_enter Try.func42, Try.ntmps42
            go_wp2_with fail
            refine (HN.out _).mono ?_
            rintro e w1 ⟨rfl, rfl⟩
            go_wp2_with (refine wpList_load_mid rfl _ _ rfl w.heap.size 2 rfl DI _ HR.out Try.underlying37 rfl HL.out ?_)
            go_ret
            exact ⟨rfl, HA.out⟩
          · rw [hB] at hle
            clear hB
            go_enter Try.func42, Try.ntmps42
            go_wp2_with fail
            refine (HN.out _).mono ?_
            rintro e w1 ⟨rfl, rfl⟩
            go_wp2_with (refine wpList_load_mid rfl _ _ rfl w.heap.size 2 rfl DI _ HR.out Try.underlying37 rfl HL.out ?_)
            go_ret
            exact ⟨rfl, HA.out⟩
    · have e1 : ce k s ids (if first = true then none else some last) = 7 := by unfold ce; rw [if_neg hk, if_pos hnm]
      have hn1 : decide (NmOk s) = false := decide_eq_false hnm
      rw [hn1] at HN
      rw [e1]
      clear e1 hk
      go_enter Try.func42, Try.ntmps42
      go_wp2_with fail
      refine (HN.out _).mono ?_
      rintro e w1 ⟨rfl, rfl⟩
      go_wp2_with fail
      go_ret
      exact ⟨rfl, HA.out⟩

/-- the reader's error where the document's place was cut -/
def ff (c : Bool) : Int := if c = true then 14 else 0
theorem tkF_ff (c : Bool) (p n L : Nat) : tkF (ff c) p L n = ff (cuC c p n L) := by
  cases c with
  | true => unfold tkF; rw [if_neg (fun h => by simp [ff] at h)]; rfl
  | false =>
    unfold tkF cuC ff
    by_cases h : L - p < n
    · rw [if_pos ⟨rfl, h⟩]; simp [h]
    · rw [if_neg (fun h2 => h h2.2)]; simp [h]
theorem ff_zero (c : Bool) : (ff c = 0) = (¬ c = true) := by cases c <;> simp [ff]
theorem tkA_ff (c : Bool) (p n L : Nat) : tkA (ff c) p L n = cuP c p n L := by
  unfold tkA cuP
  rw [tkF_ff]
  cases cuC c p n L <;> simp [ff]
theorem tkL_ff (c : Bool) (l : List Int) (p n L : Nat) : tkL (ff c) l p L n = cuB c l p n L := by
  unfold tkL cuB
  rw [tkF_ff]
  cases cuC c p n L <;> simp [ff]
/-- what one entry's bytes say, in the document's words -/
theorem rd1_cu (l : List Int) (p L : Nat) : rd1 l p L = ⟨cuP (ctC (cuC false p 1 L) l (cuP false p 1 L) 1 L) (ctP (cuC false p 1 L) l (cuP false p 1 L) 1 L) 32 L, ff (cuC (ctC (cuC false p 1 L) l (cuP false p 1 L) 1 L) (ctP (cuC false p 1 L) l (cuP false p 1 L) 1 L) 32 L), nv (cuB false l p 1 L), sb (ctB (cuC false p 1 L) l (cuP false p 1 L) 1 L), idv (cuB (ctC (cuC false p 1 L) l (cuP false p 1 L) 1 L) l (ctP (cuC false p 1 L) l (cuP false p 1 L) 1 L) 32 L)⟩ := by
  have e0 : (0 : Int) = ff false := rfl
  unfold rd1 rdM ctC ctP ctB ctM
  simp only [e0, tkF_ff, tkA_ff, tkL_ff]
end Go.Proofs.Ytmcmapgllaopmaa.Cd
end

section
/- The document's ParseTree of any bytes. -/
namespace Go.Proofs.Ytmcmapgllaopmaa.Cd
open Go.RowKit
set_option linter.unusedVariables false

/-- an entry's cells by their index -/
def etF (nm : ByteArray) (k : Int) (ids : List Int) : Nat → Value
  | 0 => .string nm
  | 1 => .int .i64 k
  | j + 2 => .int .u8 (ids.getD j 0)
theorem ent_getD (nm : ByteArray) (k : Int) (ids : List Int) (hl : ids.length = 32) (j : Nat) (hj : j < 34) : (ent nm k ids)[j]? = some (etF nm k ids j) := by
  match j, hj with
  | 0, _ => rfl
  | 1, _ => rfl
  | j + 2, h =>
    show (bv ids)[j]? = some (.int .u8 (ids.getD j 0))
    simp [bv, List.getD, show j < ids.length by omega]
theorem ent_length (nm : ByteArray) (k : Int) (ids : List Int) (hl : ids.length = 32) : (ent nm k ids).length = 34 := by simp [ent, bv, hl]
theorem ent_one' (nm : ByteArray) (k : Int) (ids : List Int) : ∀ v ∈ ent nm k ids, v.oneCell' = true := by
  intro v hv
  rcases List.mem_cons.1 hv with rfl | hv
  · rfl
  · rcases List.mem_cons.1 hv with rfl | hv
    · rfl
    · exact bv_one ids v hv
theorem en_start {w : World} {X : Nat} {f : Nat → Value} (h : w.rowIs X 87 34 f) (nm : ByteArray) (k : Int) (ids : List Int) (hl : ids.length = 32) : (w.setCells X 0 (ent nm k ids)).rowIs X 87 34 (etF nm k ids) :=
  (row_lay h 0 (ent nm k ids)).congr (fun j hj => by
    have hlen := ent_length nm k ids hl
    rw [layF, if_pos (by omega), Nat.sub_zero, List.getD_eq_getElem?_getD, ent_getD nm k ids hl j hj]
    rfl)
theorem en_name {w : World} {X : Nat} {nm : ByteArray} {k : Int} {ids : List Int} (h : w.rowIs X 87 34 (etF nm k ids)) (nm' : ByteArray) : (w.setCell ⟨X, 0, none⟩ (.string nm')).rowIs X 87 34 (etF nm' k ids) :=
  (h.set 0 _).congr (fun j _ => by
    match j with
    | 0 => rfl
    | 1 => rfl
    | j + 2 => rfl)
theorem en_id {w : World} {X : Nat} {nm : ByteArray} {k : Int} {ids : List Int} (h : w.rowIs X 87 34 (etF nm k ids)) (ids' : List Int) (hl : ids'.length = 32) : (w.setCells X 2 (bv ids')).rowIs X 87 34 (etF nm k ids') :=
  (row_lay h 2 (bv ids')).congr (fun j hj => by
    rw [layF, bv_len, hl]
    match j, hj with
    | 0, _ => rfl
    | 1, _ => rfl
    | j + 2, hj =>
      rw [if_pos (by omega)]
      show (bv ids').getD j undef = .int .u8 (ids'.getD j 0)
      simp [bv, List.getD, show j < ids'.length by omega])
theorem en_range {w : World} {X : Nat} {nm : ByteArray} {k : Int} {ids : List Int} (h : w.rowIs X 87 34 (etF nm k ids)) (hl : ids.length = 32) : w.rangeAt X 0 (ent nm k ids) := fun j v hj => by
  have hlen := (List.getElem?_eq_some_iff.1 hj).1
  rw [ent_length nm k ids hl] at hlen
  rw [Nat.zero_add, h.cell hlen, ← hj, ent_getD nm k ids hl j hlen]
theorem en_there {w : World} {X : Nat} {f : Nat → Value} (h : w.rowIs X 87 34 f) (o n : Nat) (hn : o + n ≤ 34) : w.there X o n := fun j hj =>
  ⟨by rw [h.cell (show o + j < 34 by omega)]; rfl, h.frozen _⟩

theorem wpList_build_ent (w : World) {ops : Array Oper} {rest : List Oper} {o : Oper} {a : Act} {Q : Exit → Act → World → Prop} (hgd : o.guard = none) (x : Operand)
    (ho : o.op = .buildSlice 22 1 #[(0, x)]) (cs : List Value) (hx : a.eval x = .agg cs.toArray) (hl : cs.length = 34)
    (h : wpList Try.prog ops Q rest (a.put o.dst (.slice (some ⟨w.heap.size, 0, none⟩) 1 1)) (w.alloc (.cells cs.toArray 87))) : wpList Try.prog ops Q (o :: rest) a w := by
  obtain ⟨i0, hi, hz0, hz1, hz2⟩ := info_parts info87
  refine wpList_buildSlice hgd 22 87 1 #[(0, x)] ho cs.toArray i0 _ Try.underlying22 hi hz0 (by rw [hz1]; decide) (by rw [hz1]; decide) ?_ h
  rw [hz1]
  have hz34 : (Value.agg (ent ByteArray.empty 0 (List.replicate 32 0)).toArray).cells.size = 34 := by simp [Value.cells, ent, bv]
  have := Great.fill_whole (s := 34) (by decide) [Value.agg cs.toArray] ((Array.range (1 * 34)).map ((Value.agg (ent ByteArray.empty 0 (List.replicate 32 0)).toArray).cells[· % (Value.agg (ent ByteArray.empty 0 (List.replicate 32 0)).toArray).cells.size]!)) (by simp [Value.cells, hl]) (by simp)
  simpa [hx, Value.cells] using this
theorem wpList_append_ent (w : World) {ops : Array Oper} {rest : List Oper} {o : Oper} {a : Act} {Q : Exit → Act → World → Prop} (hgd : o.guard = none) (s x : Operand)
    (ho : o.op = .call { callee := .builtin .append, args := #[s, x], argTypes := #[22, 22] })
    (B : Nat) (v : Value) (n : Nat) (d : List Fr.Ent) (hs : a.eval s = v) (hown : w.ownsRow B 87 34 v n (entsV d))
    (g : Nat) (y : Fr.Ent) (hx : a.eval x = .slice (some ⟨g, 0, none⟩) 1 1) (hy : ∀ j u, y.cells[j]? = some u → w.cell? ((⟨g, 0, none⟩ : Addr).add j) = some u) (hyl : y.cells.length = 34)
    (hn : n ≤ 1000000) (hbase : B ≤ w.heap.size)
    (h : ∀ A' C' w', w'.ownsRow B 87 34 (.slice A' (n + 1) C') (n + 1) (entsV (d ++ [y])) → w.grownBy w' v.ownBlock → wpList Try.prog ops Q rest (a.put o.dst (.slice A' (n + 1) C')) w') : wpList Try.prog ops Q (o :: rest) a w := by
  refine wpList_plain hgd fun K hK => ?_
  obtain ⟨i0, hi, hz0, hz1, hz2⟩ := info_parts info87
  obtain ⟨v', w', hr, h2, h3, h4⟩ := run_append_own (P := Try.prog) w B 22 o.type 87 i0 (.agg (ent ByteArray.empty 0 (List.replicate 32 0)).toArray) 34 56 Try.underlying22 hi hz0 hz1 hz2 (by simp [Value.cells, ent, bv]) (by decide) v n (entsV d) hown ⟨g, 0, none⟩ 1 1 y.cells (by rw [hyl]) hy (ent_one y) (by unfold maxLen; omega) (by omega) hbase
  obtain ⟨A', C', rfl⟩ := own_slice' h2
  unfold Oper.wp execOp
  simp only [ho, resolve, invoke, builtin, Sem.run_bind, Sem.run_pure, Result.andThen_ok, List.map_toArray, List.map_cons, List.map_nil, hs, hx, hr]
  exact hK _ _ (h A' C' w' (by rw [show entsV (d ++ [y]) = entsV d ++ y.cells from by simp [entsV]]; exact h2) h3)

theorem Cu.setX {w : World} {R : Nat} {A : Option Addr} {L C : Nat} {l : List Int} {p : Nat} {cut : Bool} (h : Cu w R A L C l p cut) (X i : Nat) (v : Value) (hX : X ≠ R) (ha : ∀ x, A = some x → 0 < L → x.block ≠ X) : Cu (w.setCell ⟨X, i, none⟩ v) R A L C l p cut :=
  ⟨h.row.setOther (a := ⟨X, i, none⟩) (Ne.symm hX) v, h.rd.grown (grown_set w X i v) ha, h.apart, h.le⟩
theorem Cu.belowB {w w' : World} {R : Nat} {A : Option Addr} {L C : Nat} {l : List Int} {p : Nat} {cut : Bool} {B : Nat} (h : Cu w R A L C l p cut) (hb : Below B w w') (hR : R < B) (hA : ∀ x, A = some x → 0 < L → x.block < B) : Cu w' R A L C l p cut :=
  ⟨h.row.of_block (hb.block R hR), ⟨h.rd.len, h.rd.cap, h.rd.max, h.rd.big, h.rd.none, h.rd.byte, fun x hx => by
    obtain ⟨h1, h2⟩ := h.rd.cell x hx
    refine ⟨fun h0 => Nat.lt_of_lt_of_le (h1 h0) hb.size, fun i hi => ?_⟩
    have e : (x.add i).block = x.block := add_block x i
    rw [hb.cell (p := x.add i) (by rw [e]; exact hA x hx (by omega))]
    exact h2 i hi⟩, h.apart, h.le⟩
theorem fl_14 (e : Int) : fl 14 e = 14 := by unfold fl; rw [if_neg (by decide)]
theorem fl_4 (e : Int) : fl 4 e = 4 := by unfold fl; rw [if_neg (by decide)]
theorem fl_0 (e : Int) : fl 0 e = e := by unfold fl; rw [if_pos rfl]

set_option maxRecDepth 100000 in
set_option maxHeartbeats 4000000 in
theorem rparseTree_any (A : Option Addr) (L C : Nat) (l : List Int) (w : World) (h : RdB w A L C l) :
    Calls Try.prog 15 #[.slice A L C] w (PtRet l L w) := by
  have hb0 := (Below.refl w.heap.size w).alloc (Nat.le_refl _) (.cells #[.slice A L C, .int .i64 0, .bool false] 99)
  have hX1 : (w.alloc (.cells #[.slice A L C, .int .i64 0, .bool false] 99)).heap.size = w.heap.size + 1 := by show (w.heap.push _).size = _; simp
  have HU0 : Hid (Cu (w.alloc (.cells #[.slice A L C, .int .i64 0, .bool false] 99)) w.heap.size A L C l 0 false) := Lib.hid (by
    have hr := row_new w #[.slice A L C, .int .i64 0, .bool false] 99
    refine ⟨hr.congr (fun j hj => ?_), h.below hb0, fun x hx h0 => ?_, Nat.zero_le _⟩
    · match j, hj with
      | 0, _ => rfl
      | 1, _ => rfl
      | 2, _ => rfl
    · have := (h.cell x hx).1 h0; omega)
  have HB0 := Lib.hid hb0
  have HLt : Hid (∀ x, A = some x → 0 < L → x.block < w.heap.size) := Lib.hid (fun x hx h0 => (h.cell x hx).1 h0)
  have hzE := zeroE
  have HL := Lib.hid h.len
  have HBy := Lib.hid h.byte
  clear h hb0
  generalize hZE : (ent ByteArray.empty 0 (List.replicate 32 0)).toArray = ZE at *
  have HZE := Lib.hid hZE
  clear hZE
  go_enter Try.func15, Try.ntmps15
  go_upto_region 3 with (fail)
  have hR0 : w.heap.size < (w.alloc (.cells #[.slice A L C, .int .i64 0, .bool false] 99)).heap.size := by omega
  generalize w.alloc (.cells #[.slice A L C, .int .i64 0, .bool false] 99) = w1 at *
  obtain ⟨R, hR⟩ : ∃ R, R = w.heap.size := ⟨_, rfl⟩
  rw [← hR] at HU0 HLt hR0 HB0 ⊢
  have HRw := Lib.hid hR
  clear hR hX1
  go_wp2_with fail
  go_loopw [5, 6] (fun s5 s6 wr => ∃ (n p : Nat) (Ae : Option Addr) (ne Ce : Nat) (es : List Fr.Ent) (last : ByteArray), s5 = .slice Ae ne Ce ∧ s6 = .string last ∧ L - p < n ∧ ne ≤ 512 ∧ Hid (pT l L n p es = pT l L (L + 1) 0 []) ∧ Hid (es.length = ne) ∧ Hid (lastN es = if (ne == 0) = true then none else some last) ∧ Hid (∀ x ∈ es, x.id.length = 32) ∧ Hid (wr.ownsRow (R + 1) 87 34 (.slice Ae ne Ce) ne (entsV es)) ∧ Hid (Cu wr R A L C l p false) ∧ Hid (Below R w wr)) (fun _ _ wr => L - atOf wr R)
  case atStart => exact ⟨L + 1, 0, none, 0, 0, [], ByteArray.empty, rfl, rfl, by omega, by decide, Lib.hid rfl, Lib.hid rfl, Lib.hid rfl, Lib.hid (by simp), Lib.hid ⟨by simp [entsV], .inl ⟨rfl, rfl⟩⟩, HU0, HB0⟩
  case round =>
    clear HU0 HB0
    obtain ⟨n, p, Ae, ne, Ce, es, last, rfl, rfl, hn, hne, HP, HEl, HLa, HId, HO, HU, HB⟩ := hrel
    obtain ⟨n, rfl⟩ : ∃ m, n = m + 1 := ⟨n - 1, by omega⟩
    have hle := HU.out.le
    have hat : atOf wr R = p := by unfold atOf; rw [HU.out.c1]; rfl
    have HAt := Lib.hid hat
    have hc1 := HU.out.c1
    have hRw : R < wr.heap.size := HU.out.row.lt
    clear hat
    by_cases he : p = L
    · have hd : decide ((p : Int) < (L : Int)) = false := by simp; omega
      have hd2 : ¬ p < L := by omega
      have hp : pT l L (L + 1) 0 [] = (0, es) := by rw [← HP.out, pT, if_pos he]
      have HPp := Lib.hid hp
      clear hp he HP
      go_wp2_with fail
      go_ret2
      refine ⟨by rw [← HRw.out]; exact HB.out, .inr ?_⟩
      rw [HPp.out]
      refine ⟨rfl, HId.out, Ae, Ce, ?_, ?_⟩
      · rw [HEl.out]; rfl
      · rw [HEl.out]; exact own_base HO.out (by rw [HRw.out]; omega)
    · have hd : decide ((p : Int) < (L : Int)) = true := by simp; omega
      have hd2 : p < L := by omega
      have HNu := Lib.hid (cnum_r R A L C l p false 1 wr HU.out (by omega))
      unfold CnRet at HNu
      rw [(cu_num (cut := false) (l := l) (p := p) (n := 1) (L := L) (by omega) HL.out HBy.out).1, show ((1 : Nat) : Int) = 1 from rfl] at HNu
      have hr1 := rd1_cu l p L
      generalize hK : nv (cuB false l p 1 L) = K at *
      clear hK
      go_wp2_with fail
      refine HNu.out.mono ?_
      rintro e w2 ⟨rfl, hU2, hg2⟩
      have hxr := row_new w2 ZE 87
      have hZs : ZE.size = 34 := by rw [← HZE.out, List.size_toArray, ent_length _ _ _ (by simp)]
      rw [hZs] at hxr
      have HTh := Lib.hid (en_there hxr 0 (ent ByteArray.empty K (List.replicate 32 0)).toArray.size (by rw [List.size_toArray, ent_length _ _ _ (by simp)]; decide))
      have HSz : Hid ((Try.prog.info? 87).map (·.size) = some (ent ByteArray.empty K (List.replicate 32 0)).toArray.size) := Lib.hid (by rw [List.size_toArray, ent_length _ _ _ (by simp)]; kernel_rfl)
      have HOne := Lib.hid (all_oneCell_toArray (ent_one' ByteArray.empty K (List.replicate 32 0)))
      have HX3 := Lib.hid (en_start hxr ByteArray.empty K (List.replicate 32 0) (by simp))
      have hb23 := (Below.refl w2.heap.size w2).alloc (Nat.le_refl _) (.cells ZE 87)
      have hR2 : R < w2.heap.size := hU2.row.lt
      have HU3 := Lib.hid (Cu.laid (X := w2.heap.size) (by omega) (ent ByteArray.empty K (List.replicate 32 0)) 0 _ (fun x hx h0 => by have := HLt.out x hx h0; omega) (hU2.below hb23))
      have HO3 := Lib.hid (own_grown (own_keep (own_grown HO.out hg2 (fun e => by have := (HO.out.lt R e).1; omega)) hb23) (grown_cells _ w2.heap.size (ent ByteArray.empty K (List.replicate 32 0)) 0) (fun e => by have := ((own_grown HO.out hg2 (fun e => by have := (HO.out.lt R e).1; omega)).lt w2.heap.size e).2; omega))
      have HB3 := Lib.hid (below_cells (show R ≤ w2.heap.size by omega) (ent ByteArray.empty K (List.replicate 32 0)) 0 _ ((HB.out.grown hg2 (by omega) (fun k hk => by have := Option.some.inj hk; omega)).alloc (show R ≤ w2.heap.size by omega) (.cells ZE 87)))
      have HSet : Hid (ZE.setIfInBounds 1 (.int .i64 K) = (ent ByteArray.empty K (List.replicate 32 0)).toArray) := Lib.hid (by rw [← HZE.out]; simp [ent, List.setIfInBounds_toArray])
      have hZ2 : ¬ ZE.size < 2 := by omega
      have HNX0 : Hid (∀ k, (Value.slice Ae ne Ce).ownBlock = some k → k < w2.heap.size) := Lib.hid (fun k e => by
        have h1 := own_grown HO.out hg2 (fun e => by have := (HO.out.lt R e).1; omega)
        exact (h1.lt k e).2)
      clear hxr hb23 hU2 hg2 HNu HO HU HB
      go_upto_region 6 with (refine wpList_store_mid rfl _ _ _ rfl w2.heap.size 0 (ent ByteArray.empty K (List.replicate 32 0)).toArray rfl (show _ = _ from congrArg Value.agg HSet.out) HTh.out HSz.out HOne.out ?_)
      have hXs : w2.heap.size < ((w2.alloc (.cells ZE 87)).setCells w2.heap.size 0 (ent ByteArray.empty K (List.replicate 32 0))).heap.size := HX3.out.lt
      have HNX : Hid ((Value.slice Ae ne Ce).ownBlock ≠ some w2.heap.size) := Lib.hid (fun e => by
        have h1 := HNX0.out w2.heap.size e
        omega)
      have HNR : Hid ((Value.slice Ae ne Ce).ownBlock ≠ some R) := Lib.hid (fun e => by have := (HO3.out.lt R e).1; omega)
      clear HTh HSz HOne HSet
      change Code.wp _ _ _ _ ((w2.alloc (.cells ZE 87)).setCells w2.heap.size 0 (ent ByteArray.empty K (List.replicate 32 0)))
      generalize (w2.alloc (.cells ZE 87)).setCells w2.heap.size 0 (ent ByteArray.empty K (List.replicate 32 0)) = w3 at *
      generalize w2.heap.size = X at *
      obtain ⟨P1, hP1⟩ : ∃ P1, P1 = cuP false p 1 L := ⟨_, rfl⟩
      obtain ⟨C1, hC1⟩ : ∃ C1, C1 = cuC false p 1 L := ⟨_, rfl⟩
      rw [← hP1, ← hC1] at HU3 hr1
      clear hP1 hC1
      have HTx := Lib.hid (ctext_r R A L C l P1 C1 1 w3 HU3.out (by omega))
      have hml := cuB_len C1 l P1 1 L
      have hmb := (cu_num (cut := C1) (l := l) (p := P1) (n := 1) (L := L) (by omega) HL.out HBy.out).2
      have hsz : (sb (ctB C1 l P1 1 L)).size ≤ 140737488355327 := by
        rw [sb_size]
        have h1 := cuB_len (cuC C1 P1 1 L) l (cuP C1 P1 1 L) (ctM C1 l P1 1 L) L
        have h2 : ctM C1 l P1 1 L < 16777216 := by unfold ctM; omega
        unfold ctB
        omega
      rw [show ((1 : Nat) : Int) = 1 from rfl] at HTx
      obtain ⟨nm, hnm⟩ : ∃ nm, nm = sb (ctB C1 l P1 1 L) := ⟨_, rfl⟩
      obtain ⟨P2, hP2⟩ : ∃ P2, P2 = ctP C1 l P1 1 L := ⟨_, rfl⟩
      obtain ⟨C2, hC2⟩ : ∃ C2, C2 = ctC C1 l P1 1 L := ⟨_, rfl⟩
      unfold CtRet at HTx
      rw [← hnm] at hsz HTx hr1
      rw [← hP2, ← hC2] at HTx hr1
      have Hsz := Lib.hid hsz
      have Hr1 := Lib.hid hr1
      clear hml hmb hsz hnm hP2 hC2 hr1
      go_wp2_with fail
      refine HTx.out.mono ?_
      rintro e w4 ⟨rfl, hU4, hg4⟩
      have HX4 := Lib.hid (World.rowIs.of_block HX3.out (hg4.block X hXs (fun e => by have := Option.some.inj e; omega)))
      have hc4 : w4.cell? ⟨X, 0, none⟩ = some _ := HX4.out.cell (i := 0) (by omega)
      have hf4 : w4.frozen? ⟨X, 0, none⟩ = false := HX4.out.frozen _
      have HX5 := Lib.hid (en_name HX4.out nm)
      have HU5 := Lib.hid (Cu.setX hU4 X 0 (.string nm) (by omega) (fun x hx h0 => by have := HLt.out x hx h0; omega))
      have HO5 := Lib.hid (own_grown (own_grown HO3.out hg4 HNR.out) (grown_set w4 X 0 (.string nm)) HNX.out)
      have HB5 := Lib.hid ((HB3.out.grown hg4 (by omega) (fun k hk => by have := Option.some.inj hk; omega)).setCell (p := ⟨X, 0, none⟩) (show R ≤ X by omega) (.string nm))
      have hs4 : X < w4.heap.size := Nat.lt_of_lt_of_le hXs hg4.size
      clear hU4 hg4 HX3 HU3 HO3 HB3 HTx HX4
      go_upto_region 7 with (fail)
      have hs5 : X < (w4.setCell ⟨X, 0, none⟩ (.string nm)).heap.size := HX5.out.lt
      generalize w4.setCell ⟨X, 0, none⟩ (.string nm) = w5 at *
      clear hc4 hf4 hs4
      have HIr := Lib.hid (cid_r R A L C l P2 C2 w5 HU5.out)
      unfold CiRet at HIr
      have hil : (idv (cuB C2 l P2 32 L)).length = 32 := idv_len _ (cuB_len _ _ _ _ _)
      obtain ⟨ids, hids⟩ : ∃ ids, ids = idv (cuB C2 l P2 32 L) := ⟨_, rfl⟩
      obtain ⟨P3, hP3⟩ : ∃ P3, P3 = cuP C2 P2 32 L := ⟨_, rfl⟩
      obtain ⟨C3, hC3⟩ : ∃ C3, C3 = cuC C2 P2 32 L := ⟨_, rfl⟩
      have hr1 := Hr1.out
      rw [← hids] at HIr hil hr1
      rw [← hP3, ← hC3] at HIr hr1
      have Hr2 := Lib.hid hr1
      clear hids hP3 hC3 hr1 Hr1
      go_wp2_with fail
      refine HIr.out.mono ?_
      rintro e w6 ⟨rfl, hU6, hg6⟩
      have HX6 := Lib.hid (World.rowIs.of_block HX5.out (hg6.block X hs5 (fun e => by have := Option.some.inj e; omega)))
      have HTh := Lib.hid (en_there HX6.out 2 (bv ids).toArray.size (by rw [List.size_toArray, bv_len, hil]; decide))
      have HSz : Hid ((Try.prog.info? 37).map (·.size) = some (bv ids).toArray.size) := Lib.hid (by rw [List.size_toArray, bv_len, hil]; kernel_rfl)
      have HOne := Lib.hid (all_oneCell_toArray (bv_one ids))
      have HX7 := Lib.hid (en_id HX6.out ids hil)
      have HU7 := Lib.hid (Cu.laid (X := X) (by omega) (bv ids) 2 _ (fun x hx h0 => by have := HLt.out x hx h0; omega) hU6)
      have HO7 := Lib.hid (own_grown (own_grown HO5.out hg6 HNR.out) (grown_cells w6 X (bv ids) 2) HNX.out)
      have HB7 := Lib.hid (below_cells (show R ≤ X by omega) (bv ids) 2 _ (HB5.out.grown hg6 (by omega) (fun k hk => by have := Option.some.inj hk; omega)))
      have HIl := Lib.hid hil
      clear hU6 hg6 HX5 HU5 HO5 HB5 HIr HX6 hil
      go_upto_region 8 with (refine wpList_store_mid rfl _ _ _ rfl X 2 (bv ids).toArray rfl rfl HTh.out HSz.out HOne.out ?_)
      change Code.wp _ _ _ _ (w6.setCells X 2 (bv ids))
      have hs7 : X < (w6.setCells X 2 (bv ids)).heap.size := HX7.out.lt
      clear HTh HSz HOne hs5
      generalize w6.setCells X 2 (bv ids) = w7 at *
      have hc2 := HU7.out.c2
      cases C3 with
      | true =>
        have hF : rdF l p L ne (lastN es) = 14 := by
          unfold rdF
          rw [Hr2.out]
          show fl (if ne = 512 then fl (ff true) 4 else ff true) _ = 14
          have : ff true = 14 := rfl
          rw [this, fl_14, ite_self, fl_14]
        have hp : pT l L (L + 1) 0 [] = (14, []) := by rw [← HP.out, pT, if_neg he, HEl.out, hF, if_neg (by decide)]
        have HPp := Lib.hid hp
        clear hp hF HP
        go_wp2_with fail
        go_ret2
        refine ⟨by rw [← HRw.out]; exact HB7.out, .inl ?_⟩
        rw [HPp.out]
        exact ⟨by decide, rfl⟩
      | false =>
        by_cases h512 : ne = 512
        · have hF : rdF l p L ne (lastN es) = 4 := by
            unfold rdF
            rw [Hr2.out]
            show fl (if ne = 512 then fl (ff false) 4 else ff false) _ = 4
            have : ff false = 0 := rfl
            rw [this, fl_0, if_pos h512, fl_4]
          have hp : pT l L (L + 1) 0 [] = (4, []) := by rw [← HP.out, pT, if_neg he, HEl.out, hF, if_neg (by decide)]
          have HPp := Lib.hid hp
          have h5 : ((ne : Int) == 512) = true := by simp; omega
          clear hp hF HP
          go_wp2_with fail
          go_ret2
          refine ⟨by rw [← HRw.out]; exact HB7.out, .inl ?_⟩
          rw [HPp.out]
          exact ⟨by decide, rfl⟩
        · have h5 : ((ne : Int) == 512) = false := by simp; omega
          obtain ⟨b, hb⟩ : ∃ b, (ne == 0) = b := ⟨_, rfl⟩
          have hbi : ((ne : Int) == 0) = b := by rw [← hb]; cases hq : (ne == 0) <;> simp_all
          have hF : rdF l p L ne (lastN es) = ce K nm ids (if b = true then none else some last) := by
            unfold rdF
            rw [Hr2.out, HLa.out, hb]
            show fl (if ne = 512 then fl (ff false) 4 else ff false) _ = _
            have : ff false = 0 := rfl
            rw [this, if_neg h512, fl_0]
          have HEn := Lib.hid (rentry_any nm K ids HIl.out Hsz.out b last w7)
          obtain ⟨E, hE⟩ : ∃ E, E = ce K nm ids (if b = true then none else some last) := ⟨_, rfl⟩
          rw [← hE] at HEn hF
          have HRg := Lib.hid (en_range HX7.out HIl.out)
          have HSz : Hid ((Try.prog.info? 87).map (·.size) = some (ent nm K ids).length) := Lib.hid (by rw [ent_length nm K ids HIl.out]; kernel_rfl)
          clear hE
          clear hb
          go_wp2_with (refine wpList_load_mid rfl _ _ rfl X 0 rfl (ent nm K ids) _ HRg.out Try.underlying87 rfl HSz.out ?_)
          refine HEn.out.mono ?_
          rintro e w8 ⟨rfl, hb8⟩
          have HX8 := Lib.hid (World.rowIs.of_block HX7.out (hb8.block X hs7))
          have HU8 := Lib.hid (HU7.out.below hb8)
          have HO8 := Lib.hid (own_keep HO7.out hb8)
          have HB8 := Lib.hid (HB7.out.trans (hb8.mono (by omega)))
          have hs8 : X < w8.heap.size := Nat.lt_of_lt_of_le hs7 hb8.size
          clear hb8 HX7 HU7 HO7 HB7 HRg HEn hs7 hc2
          by_cases h0 : E = 0
          · have hE0 : (E != 0) = false := by simp [h0]
            have hF0 : rdF l p L ne (lastN es) = 0 := hF.trans h0
            have hp : pT l L n P3 (es ++ [⟨nm, K, ids⟩]) = pT l L (L + 1) 0 [] := by
              have h := HP.out
              rw [pT, if_neg he, HEl.out, if_pos hF0, Hr2.out] at h
              exact h
            have hst := rd_step hF0
            rw [Hr2.out] at hst
            have HPp := Lib.hid hp
            have HSt := Lib.hid (show p + 34 ≤ P3 ∧ ne ≠ 512 from hst)
            have HRg := Lib.hid (en_range HX8.out HIl.out)
            have hcn : w8.cell? ⟨X, 0, none⟩ = some (.string nm) := HX8.out.cell (i := 0) (by omega)
            have hb9 := (Below.refl w8.heap.size w8).alloc (Nat.le_refl _) (.cells (ent nm K ids).toArray 87)
            have HU9 := Lib.hid (HU8.out.below hb9)
            have HO9 := Lib.hid (own_keep HO8.out hb9)
            have HB9 := Lib.hid (HB8.out.alloc (show R ≤ w8.heap.size by omega) (.cells (ent nm K ids).toArray 87))
            have HNew := Lib.hid (new_ent w8 ⟨nm, K, ids⟩ 87)
            have hs9 : R + 1 ≤ (w8.alloc (.cells (ent nm K ids).toArray 87)).heap.size := by have := al_lt w8 (.cells (ent nm K ids).toArray 87); omega
            have HEl2 := Lib.hid (ent_length nm K ids HIl.out)
            have hE00 : (0 : Int) = E := h0.symm
            clear hp hst hF hF0 HP HX8 hb9 HU8 HO8 HB8 hE00 h0
            go_wp2_with (first
              | (refine wpList_load_mid rfl _ _ rfl X 0 rfl (ent nm K ids) _ HRg.out Try.underlying87 rfl HSz.out ?_)
              | (refine wpList_build_ent _ rfl _ rfl (ent nm K ids) rfl HEl2.out ?_)
              | (refine wpList_append_ent _ rfl _ _ rfl (R + 1) _ ne es rfl HO9.out w8.heap.size ⟨nm, K, ids⟩ rfl HNew.out HEl2.out (by omega) hs9 ?_))
            intro A' C' w10 ho hg
            have HO10 := Lib.hid ho
            have hbb : Below (R + 1) (w8.alloc (.cells (ent nm K ids).toArray 87)) w10 := (Below.refl (R + 1) _).grown hg hs9 (fun k hk => (HO9.out.lt k hk).1)
            have HU10 := Lib.hid (HU9.out.belowB hbb (by omega) (fun x hx h0 => by have := HLt.out x hx h0; omega))
            have HB10 := Lib.hid (HB9.out.trans (hbb.mono (by omega)))
            clear ho hg hbb HO9 HU9 HB9 HNew HRg hcn
            generalize w8.alloc (.cells (ent nm K ids).toArray 87) = w9 at *
            go_wp2_with fail
            go_roundw
            case rel => exact ⟨n, P3, A', ne + 1, C', es ++ [⟨nm, K, ids⟩], nm, rfl, rfl, by have := HSt.out.1; omega, by have := HSt.out.2; omega, HPp, Lib.hid (by rw [List.length_append, HEl.out]; rfl), Lib.hid (by simp [lastN]), Lib.hid (fun x hx => by
              rcases List.mem_append.1 hx with hx | hx
              · exact HId.out x hx
              · rw [List.mem_singleton.1 hx]; exact HIl.out), HO10, HU10, HB10⟩
            case measure =>
              have h1 := HAt.out
              have h2 : atOf w10 R = P3 := by unfold atOf; rw [HU10.out.c1]; rfl
              have h3 := HSt.out.1
              omega
          · have hE0 : (E != 0) = true := by simp [h0]
            have hp : pT l L (L + 1) 0 [] = (E, []) := by
              rw [← HP.out, pT, if_neg he, HEl.out, hF, if_neg h0]
            have HPp := Lib.hid hp
            have H0 := Lib.hid h0
            clear hp hF HP HX8 HU8 HO8 h0
            go_wp2_with fail
            go_ret2
            refine ⟨by rw [← HRw.out]; exact HB8.out, .inl ?_⟩
            rw [HPp.out]
            exact ⟨H0.out, rfl⟩
end Go.Proofs.Ytmcmapgllaopmaa.Cd
end

section
/- number and text, and what they keep. -/
namespace Go.Proofs.Ytmcmapgllaopmaa.Cd
open Go.RowKit
set_option linter.unusedVariables false

/-- blocks that are no rows of bytes are as they were -/
def KeptT (w w' : World) : Prop := ∀ k, k < w.heap.size → (∀ c fr, w.heap[k]? ≠ some (.cells c 5 fr)) → w'.heap[k]? = w.heap[k]?
theorem KeptT.refl (w : World) : KeptT w w := fun _ _ _ => rfl
theorem KeptT.trans {a b c : World} (hs : a.heap.size ≤ b.heap.size) (h : KeptT a b) (k : KeptT b c) : KeptT a c := fun i hi hne => by
  have h1 := h i hi hne
  rw [← h1]
  exact k i (Nat.lt_of_lt_of_le hi hs) (fun cs fr => by rw [h1]; exact hne cs fr)
theorem KeptT.of_below {w w' : World} (hb : Below w.heap.size w w') : KeptT w w' := fun i hi _ => hb.block i hi
theorem KeptT.alloc (w : World) (o : Obj) : KeptT w (w.alloc o) := KeptT.of_below ((Below.refl w.heap.size w).alloc (Nat.le_refl _) o)
theorem KeptT.own {w w' : World} {B : Nat} {v : Value} {n : Nat} {xs : List Value} (h : w.ownsRow B 5 1 v n xs) (hg : w.grownBy w' v.ownBlock) : KeptT w w' := fun i hi hne => by
  refine hg.block i hi (fun e => ?_)
  rcases h.2 with ⟨hv, _⟩ | ⟨g, cap, cur, hv, hb, hh, _⟩
  · rw [hv] at e; simp [Value.ownBlock] at e
  · rw [hv] at e
    simp only [Value.ownBlock, Option.some.injEq] at e
    subst e
    exact hne _ _ hh
/-- a row of another type -/
theorem KeptT.row {w w' : World} {X n : Nat} {t : TypeId} {f : Nat → Value} (h : KeptT w w') (hr : w.rowIs X t n f) (ht : t ≠ 5) : w'.rowIs X t n f :=
  hr.of_block (h X hr.lt (fun c fr e => by
    obtain ⟨c2, hb, _⟩ := hr
    rw [hb] at e
    simp only [Option.some.injEq, Obj.cells.injEq] at e
    exact ht e.2.1))

/-- the call hands back a row of its own that holds xs; nothing below B turned, nothing but rows of bytes -/
def OwnRetK (B n : Nat) (xs : List Value) (w : World) (e : Ending) (w' : World) : Prop :=
  ∃ v', e = .returned v' ∧ w'.ownsRow B 5 1 v' n xs ∧ Below B w w' ∧ KeptT w w'

set_option maxHeartbeats 1000000 in
theorem number_k (B : Nat) (v : Value) (n : Nat) (xs : List Value) (x : Int) (k : Nat) (w : World) (hB : B ≤ w.heap.size) (hown : w.ownsRow B 5 1 v n xs) (hn : n ≤ 140737488300000) (h0 : 0 ≤ x) (h1 : x < 18446744073709551616) (hk : k ≤ 8) :
    Calls Try.prog 51 #[v, .int .u64 x, .int .i64 k] w (OwnRetK B (n + k) (xs ++ bv (be k x)) w) := by
  obtain ⟨i0, hi, hz0, hz1, hz2⟩ := info_parts info5
  have HO := Lib.hid hown
  clear hown
  have HB := Lib.hid (Below.refl B w)
  have HK := Lib.hid (KeptT.refl w)
  go_enter Try.func51, Try.ntmps51
  go_wp2
  go_loopw [0, 2] (fun b i wr => ∃ (m q : Nat) (ys : List Int), m + q = k ∧ i = .int .i64 ((m : Int) - 1) ∧ Hid (ys ++ be m x = be k x) ∧ Hid (wr.ownsRow B 5 1 b (n + q) (xs ++ bv ys)) ∧ Hid (Below B w wr) ∧ Hid (KeptT w wr)) (fun _ i _ => (intOf i + 1).toNat)
  case atStart => exact ⟨k, 0, [], by omega, rfl, Lib.hid rfl, Lib.hid (by simpa [bv] using HO.out), HB, HK⟩
  case round =>
    clear HB HO HK
    obtain ⟨m, q, ys, hmq, rfl, HY, HO, HB, HK⟩ := hrel
    have hsz := HB.out.size
    have hkw : w.heap.size ≤ wr.heap.size := HB.out.size
    have hm8 : m ≤ 8 := by omega
    have h56 : x / 72057594037927936 % 256 = x / 72057594037927936 := by omega
    rcases (show m = 0 ∨ m = 1 ∨ m = 2 ∨ m = 3 ∨ m = 4 ∨ m = 5 ∨ m = 6 ∨ m = 7 ∨ m = 8 from by omega) with rfl | rfl | rfl | rfl | rfl | rfl | rfl | rfl | rfl
    · go_wp2
      go_ret
      have hq : q = k := by omega
      subst hq
      refine ⟨_, rfl, own_eq HO.out ?_ rfl, HB.out, HK.out⟩
      rw [← HY.out]; simp [be]
    · go_wp2_with (at_builtin; refine wpList_append_own _ rfl _ _ 23 rfl B 5 i0 (.int .u8 0) 1 1 Try.underlying23 hi hz0 hz1 hz2 rfl (by decide) _ _ _ rfl (HO.out.alloc _) ⟨wr.heap.size, 0, none⟩ 1 1 (bv [x % 256]) rfl rfl ?c1 (bv_one _) ?c3 ?c4 ?c5 ?_)
      case c1 => exact new_cells [x % 256] wr _
      case c3 => unfold maxLen; omega
      case c4 => omega
      case c5 => simp; omega
      intro v1 w1 ho hg hn2
      have HO1 : Hid (w1.ownsRow B 5 1 v1 (n + (q + 1)) (xs ++ bv (ys ++ [x % 256]))) := Lib.hid (own_eq ho (by simp [bv]) (by omega))
      have HB1 := Lib.hid (HB.out.trans (((Below.refl B wr).alloc (by omega) _).trans (below_grown (by simp; omega) (HO.out.alloc _) hg)))
      have HK1 := Lib.hid (KeptT.trans hkw HK.out (KeptT.trans (al_le wr _) (KeptT.alloc wr _) (KeptT.own (HO.out.alloc _) hg)))
      have HY1 : Hid ((ys ++ [x % 256]) ++ be 0 x = be k x) := Lib.hid (by rw [← HY.out]; simp [be])
      clear ho hg hn2 HO HB HY HK
      go_wp2
      go_roundw
      case rel => exact ⟨0, q + 1, _, by omega, rfl, HY1, HO1, HB1, HK1⟩
      case measure => simp [intOf]
    · go_wp2_with (at_builtin; refine wpList_append_own _ rfl _ _ 23 rfl B 5 i0 (.int .u8 0) 1 1 Try.underlying23 hi hz0 hz1 hz2 rfl (by decide) _ _ _ rfl (HO.out.alloc _) ⟨wr.heap.size, 0, none⟩ 1 1 (bv [x / 256 % 256]) rfl rfl ?c1 (bv_one _) ?c3 ?c4 ?c5 ?_)
      case c1 => exact new_cells [x / 256 % 256] wr _
      case c3 => unfold maxLen; omega
      case c4 => omega
      case c5 => simp; omega
      intro v1 w1 ho hg hn2
      have HO1 : Hid (w1.ownsRow B 5 1 v1 (n + (q + 1)) (xs ++ bv (ys ++ [x / 256 % 256]))) := Lib.hid (own_eq ho (by simp [bv]) (by omega))
      have HB1 := Lib.hid (HB.out.trans (((Below.refl B wr).alloc (by omega) _).trans (below_grown (by simp; omega) (HO.out.alloc _) hg)))
      have HK1 := Lib.hid (KeptT.trans hkw HK.out (KeptT.trans (al_le wr _) (KeptT.alloc wr _) (KeptT.own (HO.out.alloc _) hg)))
      have HY1 : Hid ((ys ++ [x / 256 % 256]) ++ be 1 x = be k x) := Lib.hid (by rw [← HY.out]; simp [be])
      clear ho hg hn2 HO HB HY HK
      go_wp2
      go_roundw
      case rel => exact ⟨1, q + 1, _, by omega, rfl, HY1, HO1, HB1, HK1⟩
      case measure => simp [intOf]
    · go_wp2_with (at_builtin; refine wpList_append_own _ rfl _ _ 23 rfl B 5 i0 (.int .u8 0) 1 1 Try.underlying23 hi hz0 hz1 hz2 rfl (by decide) _ _ _ rfl (HO.out.alloc _) ⟨wr.heap.size, 0, none⟩ 1 1 (bv [x / 65536 % 256]) rfl rfl ?c1 (bv_one _) ?c3 ?c4 ?c5 ?_)
      case c1 => exact new_cells [x / 65536 % 256] wr _
      case c3 => unfold maxLen; omega
      case c4 => omega
      case c5 => simp; omega
      intro v1 w1 ho hg hn2
      have HO1 : Hid (w1.ownsRow B 5 1 v1 (n + (q + 1)) (xs ++ bv (ys ++ [x / 65536 % 256]))) := Lib.hid (own_eq ho (by simp [bv]) (by omega))
      have HB1 := Lib.hid (HB.out.trans (((Below.refl B wr).alloc (by omega) _).trans (below_grown (by simp; omega) (HO.out.alloc _) hg)))
      have HK1 := Lib.hid (KeptT.trans hkw HK.out (KeptT.trans (al_le wr _) (KeptT.alloc wr _) (KeptT.own (HO.out.alloc _) hg)))
      have HY1 : Hid ((ys ++ [x / 65536 % 256]) ++ be 2 x = be k x) := Lib.hid (by rw [← HY.out]; simp [be])
      clear ho hg hn2 HO HB HY HK
      go_wp2
      go_roundw
      case rel => exact ⟨2, q + 1, _, by omega, rfl, HY1, HO1, HB1, HK1⟩
      case measure => simp [intOf]
    · go_wp2_with (at_builtin; refine wpList_append_own _ rfl _ _ 23 rfl B 5 i0 (.int .u8 0) 1 1 Try.underlying23 hi hz0 hz1 hz2 rfl (by decide) _ _ _ rfl (HO.out.alloc _) ⟨wr.heap.size, 0, none⟩ 1 1 (bv [x / 16777216 % 256]) rfl rfl ?c1 (bv_one _) ?c3 ?c4 ?c5 ?_)
      case c1 => exact new_cells [x / 16777216 % 256] wr _
      case c3 => unfold maxLen; omega
      case c4 => omega
      case c5 => simp; omega
      intro v1 w1 ho hg hn2
      have HO1 : Hid (w1.ownsRow B 5 1 v1 (n + (q + 1)) (xs ++ bv (ys ++ [x / 16777216 % 256]))) := Lib.hid (own_eq ho (by simp [bv]) (by omega))
      have HB1 := Lib.hid (HB.out.trans (((Below.refl B wr).alloc (by omega) _).trans (below_grown (by simp; omega) (HO.out.alloc _) hg)))
      have HK1 := Lib.hid (KeptT.trans hkw HK.out (KeptT.trans (al_le wr _) (KeptT.alloc wr _) (KeptT.own (HO.out.alloc _) hg)))
      have HY1 : Hid ((ys ++ [x / 16777216 % 256]) ++ be 3 x = be k x) := Lib.hid (by rw [← HY.out]; simp [be])
      clear ho hg hn2 HO HB HY HK
      go_wp2
      go_roundw
      case rel => exact ⟨3, q + 1, _, by omega, rfl, HY1, HO1, HB1, HK1⟩
      case measure => simp [intOf]
    · go_wp2_with (at_builtin; refine wpList_append_own _ rfl _ _ 23 rfl B 5 i0 (.int .u8 0) 1 1 Try.underlying23 hi hz0 hz1 hz2 rfl (by decide) _ _ _ rfl (HO.out.alloc _) ⟨wr.heap.size, 0, none⟩ 1 1 (bv [x / 4294967296 % 256]) rfl rfl ?c1 (bv_one _) ?c3 ?c4 ?c5 ?_)
      case c1 => exact new_cells [x / 4294967296 % 256] wr _
      case c3 => unfold maxLen; omega
      case c4 => omega
      case c5 => simp; omega
      intro v1 w1 ho hg hn2
      have HO1 : Hid (w1.ownsRow B 5 1 v1 (n + (q + 1)) (xs ++ bv (ys ++ [x / 4294967296 % 256]))) := Lib.hid (own_eq ho (by simp [bv]) (by omega))
      have HB1 := Lib.hid (HB.out.trans (((Below.refl B wr).alloc (by omega) _).trans (below_grown (by simp; omega) (HO.out.alloc _) hg)))
      have HK1 := Lib.hid (KeptT.trans hkw HK.out (KeptT.trans (al_le wr _) (KeptT.alloc wr _) (KeptT.own (HO.out.alloc _) hg)))
      have HY1 : Hid ((ys ++ [x / 4294967296 % 256]) ++ be 4 x = be k x) := Lib.hid (by rw [← HY.out]; simp [be])
      clear ho hg hn2 HO HB HY HK
      go_wp2
      go_roundw
      case rel => exact ⟨4, q + 1, _, by omega, rfl, HY1, HO1, HB1, HK1⟩
      case measure => simp [intOf]
    · go_wp2_with (at_builtin; refine wpList_append_own _ rfl _ _ 23 rfl B 5 i0 (.int .u8 0) 1 1 Try.underlying23 hi hz0 hz1 hz2 rfl (by decide) _ _ _ rfl (HO.out.alloc _) ⟨wr.heap.size, 0, none⟩ 1 1 (bv [x / 1099511627776 % 256]) rfl rfl ?c1 (bv_one _) ?c3 ?c4 ?c5 ?_)
      case c1 => exact new_cells [x / 1099511627776 % 256] wr _
      case c3 => unfold maxLen; omega
      case c4 => omega
      case c5 => simp; omega
      intro v1 w1 ho hg hn2
      have HO1 : Hid (w1.ownsRow B 5 1 v1 (n + (q + 1)) (xs ++ bv (ys ++ [x / 1099511627776 % 256]))) := Lib.hid (own_eq ho (by simp [bv]) (by omega))
      have HB1 := Lib.hid (HB.out.trans (((Below.refl B wr).alloc (by omega) _).trans (below_grown (by simp; omega) (HO.out.alloc _) hg)))
      have HK1 := Lib.hid (KeptT.trans hkw HK.out (KeptT.trans (al_le wr _) (KeptT.alloc wr _) (KeptT.own (HO.out.alloc _) hg)))
      have HY1 : Hid ((ys ++ [x / 1099511627776 % 256]) ++ be 5 x = be k x) := Lib.hid (by rw [← HY.out]; simp [be])
      clear ho hg hn2 HO HB HY HK
      go_wp2
      go_roundw
      case rel => exact ⟨5, q + 1, _, by omega, rfl, HY1, HO1, HB1, HK1⟩
      case measure => simp [intOf]
    · go_wp2_with (at_builtin; refine wpList_append_own _ rfl _ _ 23 rfl B 5 i0 (.int .u8 0) 1 1 Try.underlying23 hi hz0 hz1 hz2 rfl (by decide) _ _ _ rfl (HO.out.alloc _) ⟨wr.heap.size, 0, none⟩ 1 1 (bv [x / 281474976710656 % 256]) rfl rfl ?c1 (bv_one _) ?c3 ?c4 ?c5 ?_)
      case c1 => exact new_cells [x / 281474976710656 % 256] wr _
      case c3 => unfold maxLen; omega
      case c4 => omega
      case c5 => simp; omega
      intro v1 w1 ho hg hn2
      have HO1 : Hid (w1.ownsRow B 5 1 v1 (n + (q + 1)) (xs ++ bv (ys ++ [x / 281474976710656 % 256]))) := Lib.hid (own_eq ho (by simp [bv]) (by omega))
      have HB1 := Lib.hid (HB.out.trans (((Below.refl B wr).alloc (by omega) _).trans (below_grown (by simp; omega) (HO.out.alloc _) hg)))
      have HK1 := Lib.hid (KeptT.trans hkw HK.out (KeptT.trans (al_le wr _) (KeptT.alloc wr _) (KeptT.own (HO.out.alloc _) hg)))
      have HY1 : Hid ((ys ++ [x / 281474976710656 % 256]) ++ be 6 x = be k x) := Lib.hid (by rw [← HY.out]; simp [be])
      clear ho hg hn2 HO HB HY HK
      go_wp2
      go_roundw
      case rel => exact ⟨6, q + 1, _, by omega, rfl, HY1, HO1, HB1, HK1⟩
      case measure => simp [intOf]
    · go_wp2_with (at_builtin; refine wpList_append_own _ rfl _ _ 23 rfl B 5 i0 (.int .u8 0) 1 1 Try.underlying23 hi hz0 hz1 hz2 rfl (by decide) _ _ _ rfl (HO.out.alloc _) ⟨wr.heap.size, 0, none⟩ 1 1 (bv [x / 72057594037927936]) rfl rfl ?c1 (bv_one _) ?c3 ?c4 ?c5 ?_)
      case c1 => exact new_cells [x / 72057594037927936] wr _
      case c3 => unfold maxLen; omega
      case c4 => omega
      case c5 => simp; omega
      intro v1 w1 ho hg hn2
      have HO1 : Hid (w1.ownsRow B 5 1 v1 (n + (q + 1)) (xs ++ bv (ys ++ [x / 72057594037927936]))) := Lib.hid (own_eq ho (by simp [bv]) (by omega))
      have HB1 := Lib.hid (HB.out.trans (((Below.refl B wr).alloc (by omega) _).trans (below_grown (by simp; omega) (HO.out.alloc _) hg)))
      have HK1 := Lib.hid (KeptT.trans hkw HK.out (KeptT.trans (al_le wr _) (KeptT.alloc wr _) (KeptT.own (HO.out.alloc _) hg)))
      have HY1 : Hid ((ys ++ [x / 72057594037927936]) ++ be 7 x = be k x) := Lib.hid (by rw [← HY.out]; simp [be, h56])
      clear ho hg hn2 HO HB HY HK
      go_wp2
      go_roundw
      case rel => exact ⟨7, q + 1, _, by omega, rfl, HY1, HO1, HB1, HK1⟩
      case measure => simp [intOf]

set_option maxHeartbeats 1000000 in
theorem text_k (B : Nat) (v : Value) (n : Nat) (xs : List Value) (s : ByteArray) (k : Nat) (w : World) (hB : B ≤ w.heap.size) (hown : w.ownsRow B 5 1 v n xs) (hn : n ≤ 140730000000000) (hs : s.size ≤ 1000000000) (hk : k ≤ 7) :
    Calls Try.prog 41 #[v, .string s, .int .i64 k] w (OwnRetK B (n + k + s.size) (xs ++ (bv (be k s.size) ++ Lib.strCells s)) w) := by
  obtain ⟨i0, hi, hz0, hz1, hz2⟩ := info_parts info5
  have hmx : (140737488355328 : Nat) ≤ maxLen := by unfold maxLen; omega
  have HO := Lib.hid hown
  clear hown
  go_enter Try.func41, Try.ntmps41
  go_wp2_with fail
  refine (number_k B v n xs s.size k w hB HO.out (by omega) (by omega) (by omega) (by omega)).mono ?_
  rintro e w1 ⟨v1, rfl, ho1, hb1, hk1⟩
  have HB1 := Lib.hid hb1
  have HO1 := Lib.hid ho1
  have HK1 := Lib.hid hk1
  have hsz := hb1.size
  have hsw : w.heap.size ≤ w1.heap.size := hb1.size
  clear ho1 hb1 hk1
  go_wp2_with (at_builtin; refine Lib.wpList_append_own_string _ rfl _ _ _ _ rfl B 5 i0 Try.underlying23 Try.underlying9 hi hz0 hz1 hz2 _ _ _ rfl HO1.out s rfl (by omega) (by omega) (by omega) ?_)
  intro v' w' ho hg hv
  have HB' := Lib.hid (HB1.out.trans (below_grown (by omega) HO1.out hg))
  have HK' := Lib.hid (KeptT.trans hsw HK1.out (KeptT.own HO1.out hg))
  have HO' := Lib.hid ho
  clear ho hg hv
  go_wp2
  go_ret
  exact ⟨_, by first | rfl | skip, HO'.out, HB'.out, HK'.out⟩

set_option maxRecDepth 100000 in
set_option maxHeartbeats 1000000 in
/-- the bytes of an Id, laid behind a row one by one (the document's Put) -/
theorem put_k (B : Nat) (v : Value) (n : Nat) (xs : List Value) (ids : List Int) (hl : ids.length = 32) (w : World) (hB : B ≤ w.heap.size) (hown : w.ownsRow B 5 1 v n xs) (hn : n ≤ 140737488300000) :
    Calls Try.prog 43 #[v, .agg (bv ids).toArray] w (OwnRetK B (n + 32) (xs ++ bv ids) w) := by
  obtain ⟨i0, hi, hz0, hz1, hz2⟩ := info_parts info5
  have hX1 : (w.alloc (.cells (bv ids).toArray 37)).heap.size = w.heap.size + 1 := by show (w.heap.push _).size = _; simp
  have hr := row_new w (bv ids).toArray 37
  have hsz : (bv ids).toArray.size = 32 := by simp [bv, hl]
  rw [hsz] at hr
  clear hsz
  have HX := Lib.hid (hr.congr (g := fun j => .int .u8 (ids.getD j 0)) (fun j hj => by simp [bv, List.getD, show j < ids.length by omega]))
  have HO := Lib.hid (hown.alloc (.cells (bv ids).toArray 37))
  have HB := Lib.hid ((Below.refl B w).alloc hB (.cells (bv ids).toArray 37))
  have HK := Lib.hid (KeptT.alloc w (.cells (bv ids).toArray 37))
  have hwx := HX.out.lt
  clear hr hown
  have HLn := Lib.hid hl
  have hbB : B ≤ (w.alloc (.cells (bv ids).toArray 37)).heap.size := by omega
  clear hX1
  generalize hDI : (bv ids).toArray = DI at *
  have HDI := Lib.hid hDI
  clear hDI
  go_enter Try.func43, Try.ntmps43
  go_upto_region 1 with (fail)
  generalize w.alloc (.cells DI 37) = w0 at *
  have HOw := Lib.hid (show w.heap.size ≤ w0.heap.size from Nat.le_of_lt hwx)
  obtain ⟨X, hX⟩ : ∃ X, X = w.heap.size := ⟨_, rfl⟩
  rw [← hX] at HX ⊢
  have HXw := Lib.hid hX
  clear hX
  go_wp2_with fail
  go_loopw [0, 5] (fun b i wr => ∃ (k : Nat), k ≤ 32 ∧ i = .int .i64 k ∧ Hid (wr.ownsRow B 5 1 b (n + k) (xs ++ bv (ids.take k))) ∧ Hid (Below B w wr) ∧ Hid (KeptT w wr) ∧ Hid (wr.rowIs X 37 32 (fun j => .int .u8 (ids.getD j 0))) ∧ Hid (w.heap.size ≤ wr.heap.size)) (fun _ i _ => 32 - (intOf i).toNat)
  case atStart => exact ⟨0, Nat.zero_le _, rfl, Lib.hid (by simpa [bv] using HO.out), HB, HK, HX, HOw⟩
  case round =>
    clear HB HO HK HX HOw
    obtain ⟨k, hk, rfl, HO, HB, HK, HX, HS⟩ := hrel
    have hwr : B ≤ wr.heap.size := by have := HS.out; omega
    have HKs := HB.out.size
    by_cases hlt : k < 32
    · have hc : wr.cell? ⟨X, k, none⟩ = some (.int .u8 (ids.getD k 0)) := HX.out.cell hlt
      have hk0 : (0 : Int) ≤ (k : Int) := by omega
      have hk1 : (k : Int) < 32 := by omega
      have hts : ids.take (k + 1) = ids.take k ++ [ids.getD k 0] := by
        rw [List.take_succ_eq_append_getElem (by have := HLn.out; omega)]
        congr 2
        simp [List.getD, show k < ids.length by have := HLn.out; omega]
      have HTs := Lib.hid hts
      clear hts
      generalize hcc : ids.getD k 0 = c at *
      have HCc := Lib.hid hcc
      clear hcc
      go_wp2_with (at_builtin; refine wpList_append_own _ rfl _ _ 23 rfl B 5 i0 (.int .u8 0) 1 1 Try.underlying23 hi hz0 hz1 hz2 rfl (by decide) _ _ _ rfl (HO.out.alloc _) ⟨wr.heap.size, 0, none⟩ 1 1 (bv [c]) rfl rfl ?c1 (bv_one _) ?c3 ?c4 ?c5 ?_)
      case c1 => exact new_cells [c] wr _
      case c3 => unfold maxLen; omega
      case c4 => omega
      case c5 => simp; omega
      intro v1 w1 ho hg hn2
      have HO1 : Hid (w1.ownsRow B 5 1 v1 (n + (k + 1)) (xs ++ bv (ids.take (k + 1)))) := Lib.hid (own_eq ho (by rw [HTs.out]; simp [bv]) (by omega))
      have HB1 := Lib.hid (HB.out.trans (((Below.refl B wr).alloc (by omega) _).trans (below_grown (by simp; omega) (HO.out.alloc _) hg)))
      have hkk := KeptT.trans (al_le wr _) (KeptT.alloc wr _) (KeptT.own (HO.out.alloc _) hg)
      have HK1 := Lib.hid (KeptT.trans HS.out HK.out hkk)
      have HX1 := Lib.hid (hkk.row HX.out (by decide))
      have HS1 : Hid (w.heap.size ≤ w1.heap.size) := Lib.hid (Nat.le_trans HS.out (Nat.le_trans (al_le wr _) hg.size))
      clear ho hg hn2 HO HB HK HX hkk HS
      go_wp2
      go_roundw
      case rel => exact ⟨k + 1, by omega, by go_num, HO1, HB1, HK1, HX1, HS1⟩
      case measure => simp [intOf]; omega
    · have ek : k = 32 := by omega
      have hd : decide ((k : Int) < 32) = false := by simp; omega
      have HO2 := Lib.hid (own_eq HO.out (m := n + 32) (ys := xs ++ bv ids) (by rw [ek, List.take_of_length_le (by have := HLn.out; omega)]) (by omega))
      clear HO
      go_wp2_with fail
      go_ret
      exact ⟨_, rfl, HO2.out, HB.out, HK.out⟩
end Go.Proofs.Ytmcmapgllaopmaa.Cd
end
