/- The document's place in bytes: pieces. -/
import Derived.Test.YtmcmapgllaopmaaCdCur
namespace Go.Proofs.Ytmcmapgllaopmaa.Cd
open Go.RowKit
set_option linter.unusedVariables false

theorem step_append_rd (w : World) {ops : Array Oper} {o : Oper} {a : Act} {K : Act → World → Prop} {Q : Exit → Act → World → Prop} {E : Prop} (hgd : o.guard = none) (s x : Operand)
    (ho : o.op = .call { callee := .builtin .append, args := #[s, x], argTypes := #[23, 23] })
    (B : Nat) (v : Value) (n : Nat) (d : List Int) (hs : a.eval s = v) (hown : w.ownsRow B 5 1 v n (bv d))
    (A : Option Addr) (m c : Nat) (l : List Int) (hx : a.eval x = .slice A m c) (hsl : RdB w A m c l)
    (hbytes : (n + m) * 1 ≤ 140737488355328) (hbase : B ≤ w.heap.size)
    (h : ∀ A' C' w', w'.ownsRow B 5 1 (.slice A' (n + m) C') (n + m) (bv (d ++ l)) → Below B w w' → K (a.put o.dst (.slice A' (n + m) C')) w') :
    if Region.wanted o (yielded ops a.tmps) = true then Oper.wp Try.prog o a w K Q else E := by
  have hw : Region.wanted o (yielded ops a.tmps) = true := by simp [Region.wanted, hgd]
  rw [if_pos hw]
  obtain ⟨i0, hi, hz0, hz1, hz2⟩ := info_parts info5
  have key : ∃ A' C' w', (Builtin.append_ #[23, 23] o.type #[v, .slice A m c]).run Try.prog w = .ok (.slice A' (n + m) C') w' ∧ w'.ownsRow B 5 1 (.slice A' (n + m) C') (n + m) (bv (d ++ l)) ∧ Below B w w' := by
    cases A with
    | none =>
      have hc := hsl.none rfl
      have hm : m = 0 := by have := hsl.cap; omega
      subst hm hc
      obtain rfl : l = [] := List.eq_nil_of_length_eq_zero hsl.len
      obtain ⟨A', C', rfl⟩ := own_slice' hown
      refine ⟨A', C', w, run_append_owned_none (P := Try.prog) w B 23 o.type 5 i0 1 Try.underlying23 hi _ _ _ hown, ?_, Below.refl B w⟩
      rw [List.append_nil]
      exact hown
    | some y =>
      obtain ⟨-, hcc⟩ := hsl.cell y rfl
      have hll := hsl.len
      have hnw : ∀ j u, (bv l)[j]? = some u → w.cell? (y.add j) = some u := by
        intro j u hj
        have hj1 := (List.getElem?_eq_some_iff.1 hj).1
        rw [bv, List.length_map, hll] at hj1
        rw [hcc j hj1, ← hj]
        simp [bv, hll, hj1]
      obtain ⟨v', w', hr, h2, h3, h4⟩ := run_append_own (P := Try.prog) w B 23 o.type 5 i0 (.int .u8 0) 1 1 Try.underlying23 hi hz0 hz1 hz2 rfl (by decide) v n (bv d) hown y m c (bv l) (by rw [bv, List.length_map, hll]; omega) hnw (bv_one l) (by unfold maxLen; omega) hbytes hbase
      obtain ⟨A', C', rfl⟩ := own_slice' h2
      exact ⟨A', C', w', hr, by rw [show bv (d ++ l) = bv d ++ bv l from by simp [bv]]; exact h2, below_grown hbase hown h3⟩
  obtain ⟨A', C', w', hr, h2, h3⟩ := key
  unfold Oper.wp execOp
  simp only [ho, resolve, invoke, builtin, Sem.run_bind, Sem.run_pure, Result.andThen_ok, List.map_toArray, List.map_cons, List.map_nil, hs, hx, hr]
  exact h A' C' w' h2 h3

/-- the bytes told, a row of one's own, and the place behind -/
def CbRet (R : Nat) (A : Option Addr) (L C : Nat) (l : List Int) (p : Nat) (cut : Bool) (n : Nat) (w : World) (e : Ending) (w' : World) : Prop :=
  ∃ A' C', e = .returned (.slice A' (cuB cut l p n L).length C') ∧ w'.ownsRow w.heap.size 5 1 (.slice A' (cuB cut l p n L).length C') (cuB cut l p n L).length (bv (cuB cut l p n L)) ∧ Cu w' R A L C l (cuP cut p n L) (cuC cut p n L) ∧ w.grownBy w' (some R)
theorem own_nil (w : World) (B : Nat) : w.ownsRow B 5 1 (.slice none 0 0) 0 (bv []) := ⟨by simp [bv], .inl ⟨rfl, rfl⟩⟩

set_option maxRecDepth 100000 in
set_option maxHeartbeats 1000000 in
theorem cbytes_r (R : Nat) (A : Option Addr) (L C : Nat) (l : List Int) (p : Nat) (cut : Bool) (n : Nat) (w : World) (h : Cu w R A L C l p cut) (hn : n ≤ 16777216) :
    Calls Try.prog 56 #[.pointer (some ⟨R, 0, none⟩), .int .i64 n] w (CbRet R A L C l p cut n w) := by
  have H := Lib.hid h
  have hle := h.le
  have hRl := h.row.lt
  have hbig := h.rd.big
  have hcap := h.rd.cap
  have hmax := h.rd.max
  have hc0 := h.c0
  have hc1 := h.c1
  have hc2 := h.c2
  have hf2 : w.frozen? ⟨R, 2, none⟩ = false := h.row.frozen 2
  have hf1 : w.frozen? ⟨R, 1, none⟩ = false := h.row.frozen 1
  clear h
  by_cases hcc : cuC cut p n L = true
  · have HS := Lib.hid (fun k => (H.out.drewN k).setC true)
    have HC := Lib.hid hcc
    cases cut with
    | true =>
      go_enter Try.func56, Try.ntmps56
      go_wp2
      go_quiet (fail)
      go_wp2
      go_ret
      refine ⟨none, 0, ?_, ?_, ?_, grown_setN w R _ 2 _⟩
      · rw [(cu_yes HC.out l).2]; rfl
      · rw [(cu_yes HC.out l).2]; exact own_nil _ _
      · rw [(cu_yes HC.out l).1, HC.out]; exact HS.out _
    | false =>
      have hd : decide ((L : Int) - (p : Int) < (n : Int)) = true := by
        have : decide (L - p < n) = true := by simpa [cuC] using hcc
        have := of_decide_eq_true this
        simp; omega
      clear hcc
      go_enter Try.func56, Try.ntmps56
      go_wp2
      go_quiet (fail)
      go_wp2
      go_ret
      refine ⟨none, 0, ?_, ?_, ?_, grown_setN w R _ 2 _⟩
      · rw [(cu_yes HC.out l).2]; rfl
      · rw [(cu_yes HC.out l).2]; exact own_nil _ _
      · rw [(cu_yes HC.out l).1, HC.out]; exact HS.out _
  · have hcf : cuC cut p n L = false := by simpa using hcc
    have hcut : cut = false := by
      cases cut with
      | false => rfl
      | true => exact absurd rfl hcc
    subst hcut
    have hlt : ¬ L - p < n := by
      have : decide (L - p < n) = false := by simpa [cuC] using hcf
      exact of_decide_eq_false this
    have HC := Lib.hid hcf
    clear hcc hcf
    have hd : decide ((L : Int) - (p : Int) < (n : Int)) = false := by simp; omega
    obtain ⟨q, hq⟩ : ∃ q, q = p + n := ⟨_, rfl⟩
    have hqe : (p : Int) + (n : Int) = (q : Int) := by omega
    have HQ := Lib.hid hq
    have z1 : (0 : Int) ≤ (p : Int) := by omega
    have z2 : (q : Int) ≤ (L : Int) := by omega
    have z3 : (q : Int) ≤ (C : Int) := by omega
    have z4 : (p : Int) ≤ (q : Int) := by omega
    have w1' : IntKind.i64.wrap (q : Int) = (q : Int) := IntWalk.i64_in _ (by omega)
    have w2' : IntKind.i64.wrap (p : Int) = (p : Int) := IntWalk.i64_in _ (by omega)
    have w3' : q - p = n := by omega
    clear hq
    go_enter Try.func56, Try.ntmps56
    go_wp2
    go_quiet (fail)
    go_wp2_with fail
    have HS0 := Lib.hid (H.out.drewN nq)
    have HG0 := Lib.hid (grown_drewN w R nq)
    have HB0 : Hid (w.heap.size = (w.drewN nq).heap.size) := Lib.hid rfl
    clear H hc0 hc1 hc2 hf1 hf2
    generalize w.drewN nq = w1 at *
    have hc0 := HS0.out.c0
    have hc1 := HS0.out.c1
    have dC : Hid (w1.drew.cell? ⟨R, 0, none⟩ = some (.slice A L C) ∧ w1.drew.cell? ⟨R, 1, none⟩ = some (.int .i64 (p : Int))) := Lib.hid ⟨hc0, hc1⟩
    obtain ⟨A2, hA2⟩ : ∃ A2, A2 = (if C = p then A else A.map (fun x => x.add p)) := ⟨_, rfl⟩
    have HRd := Lib.hid (rd_cut (HS0.out.drewN 1).rd p n (by omega) hle A2 hA2)
    have hcut2 := hA2.symm
    clear hA2
    refine wp_region_noPanic ?_
    refine wp_region_held_drew (S := (fun wS => wS.cell? ⟨R, 0, none⟩ = some (.slice A L C) ∧ wS.cell? ⟨R, 1, none⟩ = some (.int .i64 (p : Int)))) (by kernel_rfl) ?_ (fun hHeld => ?_)
    · ((try dsimp only); exact ⟨dC.out.1, dC.out.2⟩)
    refine wpAnyH_take (i := 1) (oi := { dst := some 28, op := Op.move (Operand.tmp 0), type := 97, pos := "ref.go:93", after := #[], guard := none }) (v := ?_) rfl (by kernel_rfl) (by kernel_rfl) (by kernel_rfl) (fun _ _ _ h => h) (Or.inl ⟨by rfl, ?_⟩) (by assumption) ?_
    rotate_left 1
    · ((intro w hSw; (try dsimp only at hSw); go_simp) <;> with_reducible rfl)
    (try simp only [Act.put, List.setIfInBounds_toArray, List.set_cons_zero, List.set_cons_succ])
    refine wpAnyH_take (i := 2) (oi := { dst := some 29, op := Op.nilCheck (Operand.tmp 28), type := 0, pos := "ref.go:93", after := #[{ on := 1, ground := Ground.data }], guard := none }) (v := ?_) rfl (by kernel_rfl) (by kernel_rfl) (by kernel_rfl) (fun _ _ _ h => h) (Or.inl ⟨by rfl, ?_⟩) (by assumption) ?_
    rotate_left 1
    · ((intro w hSw; (try dsimp only at hSw); go_simp) <;> with_reducible rfl)
    (try simp only [Act.put, List.setIfInBounds_toArray, List.set_cons_zero, List.set_cons_succ])
    refine wpAnyH_take (i := 3) (oi := { dst := some 30, op := Op.fieldAddr 99 (Operand.tmp 29) 0, type := 0, pos := "ref.go:93", after := #[{ on := 2, ground := Ground.data }], guard := none }) (v := ?_) rfl (by kernel_rfl) (by kernel_rfl) (by kernel_rfl) (fun _ _ _ h => h) (Or.inl ⟨by rfl, ?_⟩) (by assumption) ?_
    rotate_left 1
    · ((intro w hSw; (try dsimp only at hSw); go_simp) <;> with_reducible rfl)
    (try simp only [Act.put, List.setIfInBounds_toArray, List.set_cons_zero, List.set_cons_succ])
    refine wpAnyH_take (i := 4) (oi := { dst := some 31, op := Op.load 23 (Operand.tmp 30), type := 23, pos := "ref.go:93", after := #[{ on := 3, ground := Ground.data }], guard := none }) (v := ?_) rfl (by kernel_rfl) (by kernel_rfl) (by kernel_rfl) (fun _ _ _ h => h) (Or.inl ⟨by rfl, ?_⟩) (by assumption) ?_
    rotate_left 1
    · ((intro w hSw; (try dsimp only at hSw); go_simp) <;> with_reducible rfl)
    (try simp only [Act.put, List.setIfInBounds_toArray, List.set_cons_zero, List.set_cons_succ])
    refine wpAnyH_take (i := 5) (oi := { dst := some 32, op := Op.move (Operand.tmp 0), type := 97, pos := "ref.go:93", after := #[], guard := none }) (v := ?_) rfl (by kernel_rfl) (by kernel_rfl) (by kernel_rfl) (fun _ _ _ h => h) (Or.inl ⟨by rfl, ?_⟩) (by assumption) ?_
    rotate_left 1
    · ((intro w hSw; (try dsimp only at hSw); go_simp) <;> with_reducible rfl)
    (try simp only [Act.put, List.setIfInBounds_toArray, List.set_cons_zero, List.set_cons_succ])
    refine wpAnyH_take (i := 6) (oi := { dst := some 33, op := Op.nilCheck (Operand.tmp 32), type := 0, pos := "ref.go:93", after := #[{ on := 5, ground := Ground.data }], guard := none }) (v := ?_) rfl (by kernel_rfl) (by kernel_rfl) (by kernel_rfl) (fun _ _ _ h => h) (Or.inl ⟨by rfl, ?_⟩) (by assumption) ?_
    rotate_left 1
    · ((intro w hSw; (try dsimp only at hSw); go_simp) <;> with_reducible rfl)
    (try simp only [Act.put, List.setIfInBounds_toArray, List.set_cons_zero, List.set_cons_succ])
    refine wpAnyH_take (i := 7) (oi := { dst := some 34, op := Op.fieldAddr 99 (Operand.tmp 33) 1, type := 0, pos := "ref.go:93", after := #[{ on := 6, ground := Ground.data }], guard := none }) (v := ?_) rfl (by kernel_rfl) (by kernel_rfl) (by kernel_rfl) (fun _ _ _ h => h) (Or.inl ⟨by rfl, ?_⟩) (by assumption) ?_
    rotate_left 1
    · ((intro w hSw; (try dsimp only at hSw); go_simp) <;> with_reducible rfl)
    (try simp only [Act.put, List.setIfInBounds_toArray, List.set_cons_zero, List.set_cons_succ])
    refine wpAnyH_take (i := 8) (oi := { dst := some 35, op := Op.load 3 (Operand.tmp 34), type := 3, pos := "ref.go:93", after := #[{ on := 7, ground := Ground.data }], guard := none }) (v := ?_) rfl (by kernel_rfl) (by kernel_rfl) (by kernel_rfl) (fun _ _ _ h => h) (Or.inl ⟨by rfl, ?_⟩) (by assumption) ?_
    rotate_left 1
    · ((intro w hSw; (try dsimp only at hSw); go_simp) <;> with_reducible rfl)
    (try simp only [Act.put, List.setIfInBounds_toArray, List.set_cons_zero, List.set_cons_succ])
    refine wpAnyH_take (i := 9) (oi := { dst := some 36, op := Op.move (Operand.tmp 0), type := 97, pos := "ref.go:93", after := #[], guard := none }) (v := ?_) rfl (by kernel_rfl) (by kernel_rfl) (by kernel_rfl) (fun _ _ _ h => h) (Or.inl ⟨by rfl, ?_⟩) (by assumption) ?_
    rotate_left 1
    · ((intro w hSw; (try dsimp only at hSw); go_simp) <;> with_reducible rfl)
    (try simp only [Act.put, List.setIfInBounds_toArray, List.set_cons_zero, List.set_cons_succ])
    refine wpAnyH_take (i := 10) (oi := { dst := some 37, op := Op.nilCheck (Operand.tmp 36), type := 0, pos := "ref.go:93", after := #[{ on := 9, ground := Ground.data }], guard := none }) (v := ?_) rfl (by kernel_rfl) (by kernel_rfl) (by kernel_rfl) (fun _ _ _ h => h) (Or.inl ⟨by rfl, ?_⟩) (by assumption) ?_
    rotate_left 1
    · ((intro w hSw; (try dsimp only at hSw); go_simp) <;> with_reducible rfl)
    (try simp only [Act.put, List.setIfInBounds_toArray, List.set_cons_zero, List.set_cons_succ])
    refine wpAnyH_take (i := 11) (oi := { dst := some 38, op := Op.fieldAddr 99 (Operand.tmp 37) 1, type := 0, pos := "ref.go:93", after := #[{ on := 10, ground := Ground.data }], guard := none }) (v := ?_) rfl (by kernel_rfl) (by kernel_rfl) (by kernel_rfl) (fun _ _ _ h => h) (Or.inl ⟨by rfl, ?_⟩) (by assumption) ?_
    rotate_left 1
    · ((intro w hSw; (try dsimp only at hSw); go_simp) <;> with_reducible rfl)
    (try simp only [Act.put, List.setIfInBounds_toArray, List.set_cons_zero, List.set_cons_succ])
    refine wpAnyH_take (i := 12) (oi := { dst := some 39, op := Op.load 3 (Operand.tmp 38), type := 3, pos := "ref.go:93", after := #[{ on := 11, ground := Ground.data }], guard := none }) (v := ?_) rfl (by kernel_rfl) (by kernel_rfl) (by kernel_rfl) (fun _ _ _ h => h) (Or.inl ⟨by rfl, ?_⟩) (by assumption) ?_
    rotate_left 1
    · ((intro w hSw; (try dsimp only at hSw); go_simp) <;> with_reducible rfl)
    (try simp only [Act.put, List.setIfInBounds_toArray, List.set_cons_zero, List.set_cons_succ])
    refine wpAnyH_take (i := 13) (oi := { dst := some 40, op := Op.move (Operand.tmp 1), type := 3, pos := "ref.go:93", after := #[], guard := none }) (v := ?_) rfl (by kernel_rfl) (by kernel_rfl) (by kernel_rfl) (fun _ _ _ h => h) (Or.inl ⟨by rfl, ?_⟩) (by assumption) ?_
    rotate_left 1
    · ((intro w hSw; (try dsimp only at hSw); go_simp) <;> with_reducible rfl)
    (try simp only [Act.put, List.setIfInBounds_toArray, List.set_cons_zero, List.set_cons_succ])
    refine wpAnyH_take (i := 14) (oi := { dst := some 41, op := Op.binOp BinOp.add 3 (Operand.tmp 39) (Operand.tmp 40) 3, type := 3, pos := "ref.go:93", after := #[{ on := 12, ground := Ground.data }, { on := 13, ground := Ground.data }], guard := none }) (v := ?_) rfl (by kernel_rfl) (by kernel_rfl) (by kernel_rfl) (fun _ _ _ h => h) (Or.inl ⟨by rfl, ?_⟩) (by assumption) ?_
    rotate_left 1
    · ((intro w hSw; (try dsimp only at hSw); go_simp) <;> with_reducible rfl)
    (try simp only [Act.put, List.setIfInBounds_toArray, List.set_cons_zero, List.set_cons_succ])
    refine wpAnyH_take (i := 15) (oi := { dst := some 42, op := Op.slice 23 (Operand.tmp 31) (some (Operand.tmp 35)) (some (Operand.tmp 41)) none, type := 23, pos := "ref.go:93", after := #[{ on := 4, ground := Ground.data }, { on := 8, ground := Ground.data }, { on := 14, ground := Ground.data }], guard := none }) (v := ?_) rfl (by kernel_rfl) (by kernel_rfl) (by kernel_rfl) (fun _ _ _ h => h) (Or.inl ⟨by rfl, ?_⟩) (by assumption) ?_
    rotate_left 1
    · ((intro w hSw; (try dsimp only at hSw); go_simp) <;> with_reducible rfl)
    (try simp only [Act.put, List.setIfInBounds_toArray, List.set_cons_zero, List.set_cons_succ])
    refine wpAnyH_ready (rs := [0]) (by kernel_rfl) (by simp) ?_
    refine AllReadyH.cons (o := { dst := some 27, op := Op.buildSlice 23 0 #[], type := 23, pos := "ref.go:93", after := #[], guard := none }) rfl (fun K hK => ?_) ?_
    · go_simp
      have eC : Hid ((w1.drew.alloc (.cells #[] 5)).cell? ⟨R, 0, none⟩ = some (.slice A L C) ∧ (w1.drew.alloc (.cells #[] 5)).cell? ⟨R, 1, none⟩ = some (.int .i64 (p : Int))) := Lib.hid ⟨al_keep dC.out.1 _, al_keep dC.out.2 _⟩
      have dO := Lib.hid (own_lit w1.drew [] (Nat.zero_le _))
      have dR := Lib.hid (HRd.out.below ((Below.refl w1.drew.heap.size w1.drew).alloc (Nat.le_refl _) (.cells #[] 5)))
      have hsd : w1.drew.heap.size ≤ (w1.drew.alloc (.cells #[] 5)).heap.size := al_le _ _
      clear dC
      have dC := eC
      clear eC
      (try go_wp2_with fail)
      refine hK.out _ _ ?_ (fun hNew => ?_)
      · ((try dsimp only); exact ⟨dC.out.1, dC.out.2⟩)
      clear hK K hHeld
      have hHeld := hNew
      clear hNew
      (try simp only [Act.put, List.setIfInBounds_toArray, List.set_cons_zero, List.set_cons_succ])
      refine wpAnyH_ready (rs := [16]) (by kernel_rfl) (by simp) ?_
      refine AllReadyH.cons (o := { dst := some 43, op := Op.call { callee := Callee.builtin Builtin.append, args := #[Operand.tmp 27, Operand.tmp 42], argTypes := #[23, 23] }, type := 23, pos := "ref.go:93", after := #[{ on := 0, ground := Ground.data }, { on := 15, ground := Ground.data }], guard := none }) rfl (fun K hK => ?_) ?_
      · refine step_append_rd _ rfl _ _ rfl w1.drew.heap.size _ 0 [] rfl dO.out A2 n (C - p) ((l.drop p).take n) rfl dR.out (by omega) hsd ?_
        intro A' C' w3 ho hb
        have hb2 := ((Below.refl w1.drew.heap.size w1.drew).alloc (Nat.le_refl _) (.cells #[] 5)).trans hb
        have dU := Lib.hid ((HS0.out.drewN 1).below hb2)
        have dB := Lib.hid hb2
        have dO3 := Lib.hid ho
        have eC : Hid (w3.cell? ⟨R, 0, none⟩ = some (.slice A L C) ∧ w3.cell? ⟨R, 1, none⟩ = some (.int .i64 (p : Int))) := Lib.hid ⟨dU.out.c0, dU.out.c1⟩
        clear dC ho hb hb2 dO dR hsd
        have dC := eC
        clear eC
        (try go_wp2_with fail)
        refine hK.out _ _ ?_ (fun hNew => ?_)
        · ((try dsimp only); exact ⟨dC.out.1, dC.out.2⟩)
        clear hK K hHeld
        have hHeld := hNew
        clear hNew
        (try simp only [Act.put, List.setIfInBounds_toArray, List.set_cons_zero, List.set_cons_succ])
        refine wpAnyH_take (i := 17) (oi := { dst := some 5, op := Op.assign (Operand.tmp 43), type := 23, pos := "ref.go:93", after := #[{ on := 16, ground := Ground.data }, { on := 16, ground := Ground.chain }, { on := 0, ground := Ground.phase }, { on := 1, ground := Ground.phase }, { on := 2, ground := Ground.phase }, { on := 3, ground := Ground.phase }, { on := 4, ground := Ground.phase }, { on := 5, ground := Ground.phase }, { on := 6, ground := Ground.phase }, { on := 7, ground := Ground.phase }, { on := 8, ground := Ground.phase }, { on := 9, ground := Ground.phase }, { on := 10, ground := Ground.phase }, { on := 11, ground := Ground.phase }, { on := 12, ground := Ground.phase }, { on := 13, ground := Ground.phase }, { on := 14, ground := Ground.phase }, { on := 15, ground := Ground.phase }, { on := 16, ground := Ground.phase }], guard := none }) (v := ?_) rfl (by kernel_rfl) (by kernel_rfl) (by kernel_rfl) (fun _ _ _ h => h) (Or.inl ⟨by rfl, ?_⟩) (by assumption) ?_
        rotate_left 1
        · ((intro w hSw; (try dsimp only at hSw); go_simp) <;> with_reducible rfl)
        (try simp only [Act.put, List.setIfInBounds_toArray, List.set_cons_zero, List.set_cons_succ])
        refine wpAnyH_done (by kernel_rfl) ?_ _
        refine NoPanic.normal ?_
        clear hHeld
        have hlen : ((l.drop p).take n).length = n := HRd.out.len
        have dO4 : Hid (w3.ownsRow w.heap.size 5 1 (.slice A' n C') n (bv ((l.drop p).take n))) := Lib.hid (by
          have h := dO3.out
          rw [Nat.zero_add, List.nil_append] at h
          rw [HB0.out]
          exact h)
        have hc1' := dC.out.2
        have hf1' : w3.frozen? ⟨R, 1, none⟩ = false := dU.out.row.frozen 1
        have HSx := Lib.hid (dU.out.setP q (by have := HQ.out; omega))
        have HOx := Lib.hid (own_grown dO4.out (grown_set w3 R 1 (.int .i64 (q : Int))) (fun e => by have := (dO4.out.lt R e).1; omega))
        have HGx : Hid (w.grownBy (w3.setCell ⟨R, 1, none⟩ (.int .i64 (q : Int))) (some R)) := Lib.hid (by
          have hb := dB.out
          have h1 : w1.grownBy w3 (some R) := ⟨hb.os, hb.tape, hb.output, hb.size, fun i hi _ => hb.block i hi⟩
          exact grown_trans (grown_trans HG0.out h1) (grown_set w3 R 1 _))
        have HLn := Lib.hid hlen
        clear hlen dO3 dO4 dC dB dU hc0 hc1 HRd
        go_wp2_with fail
        go_ret
        refine ⟨A', C', ?_, ?_, ?_, HGx.out⟩
        · rw [(cu_no HC.out l).2, HLn.out]; rfl
        · rw [(cu_no HC.out l).2, HLn.out]; exact HOx.out
        · rw [(cu_no HC.out l).1, HC.out, ← HQ.out]; exact HSx.out
      exact AllReadyH.nil
    exact AllReadyH.nil
end Go.Proofs.Ytmcmapgllaopmaa.Cd
