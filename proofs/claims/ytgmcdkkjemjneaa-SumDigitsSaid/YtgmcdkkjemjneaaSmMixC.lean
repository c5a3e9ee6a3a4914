/- mix, walked. -/
import Derived.Test.YtgmcdkkjemjneaaSmMix
namespace Go.Proofs.Ytgmcdkkjemjneaa.Sm
open Go.RowKit
set_option linter.unusedVariables false

set_option maxRecDepth 100000 in
set_option maxHeartbeats 4000000 in
theorem mix_any (H tH : Nat) (F : Nat → Value) (s : W8) (hok : s.ok) (A : Option Addr) (g o n C : Nat) (l : List Int) (w : World) (hrow : w.rowIs H tH 73 F) (hF : ∀ j, j < 8 → F j = .int .u32 (s.at j))
    (hlen : l.length = n) (hn : n ≤ C) (hC : C ≤ 9223372036854775807) (hbig : n ≤ 140737488355328) (hA : 64 ≤ n → A = some ⟨g, o, none⟩) (hby : ∀ i, i < n → 0 ≤ l.getD i 0 ∧ l.getD i 0 ≤ 255) (hcell : Byt w H g o n l) :
    Calls Try.prog 30 #[.pointer (some ⟨H, 0, none⟩), .slice A n C] w fun e w' => e = .returned (.tuple #[]) ∧ w'.rowIs H tH 73 (stF F (blocks kf (n / 64) s l)) ∧ w.grownBy w' (some H) := by
  have HS : Hid ((Try.prog.info? 48).map (·.size) = some (uv kc).toArray.size) := Lib.hid (by rw [List.size_toArray, uv, List.length_map]; kernel_rfl)
  have H1 := Lib.hid (show (uv kc).toArray.all (·.oneCell') = true from all_oneCell_toArray (uv_one kc))
  have HRow := Lib.hid hrow
  have HF := Lib.hid hF
  have HBy := Lib.hid hby
  have HC := Lib.hid hcell
  have HA := Lib.hid hA
  have hHlt := hrow.lt
  clear hrow hF hby hcell hA
  go_enter Try.func30, Try.ntmps30
  go_wp2_with fail
  refine (consts_any w).mono ?_
  rintro e w1 ⟨rfl, hb1⟩
  have hsz1 := hb1.size
  have HB1 := Lib.hid hb1
  clear hb1
  generalize hKA : (uv kc).toArray = KA at *
  have HK := Lib.hid hKA
  clear hKA
  go_wp2_with (refine wpList_store_mid rfl _ _ _ rfl w1.heap.size 0 KA rfl rfl (there_new w1 _ _ _ (by rw [← HK.out]; decide)) HS.out H1.out ?_; generalize hX : World.setCells _ _ _ _ = wX; have HX := Lib.hid hX; clear hX)
  have HM : Hid (∀ Z : Array Value, Z.size = 64 → ∃ fW, Mx w (wX.alloc (.cells Z 48)) H tH F s wX.heap.size w1.heap.size fW) := Lib.hid (fun Z hz => by
    have h := HX.out
    rw [← HK.out] at h
    exact ⟨_, Mx.start HRow.out HF.out HB1.out rfl h hz⟩)
  have hM2 : ∃ fW, Mx w (wX.alloc (.cells #[.int .u32 0, .int .u32 0, .int .u32 0, .int .u32 0, .int .u32 0, .int .u32 0, .int .u32 0, .int .u32 0, .int .u32 0, .int .u32 0, .int .u32 0, .int .u32 0, .int .u32 0, .int .u32 0, .int .u32 0, .int .u32 0, .int .u32 0, .int .u32 0, .int .u32 0, .int .u32 0, .int .u32 0, .int .u32 0, .int .u32 0, .int .u32 0, .int .u32 0, .int .u32 0, .int .u32 0, .int .u32 0, .int .u32 0, .int .u32 0, .int .u32 0, .int .u32 0, .int .u32 0, .int .u32 0, .int .u32 0, .int .u32 0, .int .u32 0, .int .u32 0, .int .u32 0, .int .u32 0, .int .u32 0, .int .u32 0, .int .u32 0, .int .u32 0, .int .u32 0, .int .u32 0, .int .u32 0, .int .u32 0, .int .u32 0, .int .u32 0, .int .u32 0, .int .u32 0, .int .u32 0, .int .u32 0, .int .u32 0, .int .u32 0, .int .u32 0, .int .u32 0, .int .u32 0, .int .u32 0, .int .u32 0, .int .u32 0, .int .u32 0, .int .u32 0] 48)) H tH F s wX.heap.size w1.heap.size fW := HM.out _ rfl
  generalize hwS : wX.alloc (.cells #[.int .u32 0, .int .u32 0, .int .u32 0, .int .u32 0, .int .u32 0, .int .u32 0, .int .u32 0, .int .u32 0, .int .u32 0, .int .u32 0, .int .u32 0, .int .u32 0, .int .u32 0, .int .u32 0, .int .u32 0, .int .u32 0, .int .u32 0, .int .u32 0, .int .u32 0, .int .u32 0, .int .u32 0, .int .u32 0, .int .u32 0, .int .u32 0, .int .u32 0, .int .u32 0, .int .u32 0, .int .u32 0, .int .u32 0, .int .u32 0, .int .u32 0, .int .u32 0, .int .u32 0, .int .u32 0, .int .u32 0, .int .u32 0, .int .u32 0, .int .u32 0, .int .u32 0, .int .u32 0, .int .u32 0, .int .u32 0, .int .u32 0, .int .u32 0, .int .u32 0, .int .u32 0, .int .u32 0, .int .u32 0, .int .u32 0, .int .u32 0, .int .u32 0, .int .u32 0, .int .u32 0, .int .u32 0, .int .u32 0, .int .u32 0, .int .u32 0, .int .u32 0, .int .u32 0, .int .u32 0, .int .u32 0, .int .u32 0, .int .u32 0, .int .u32 0] 48) = wS at *
  obtain ⟨fW0, hM0⟩ := hM2
  have HM0 := Lib.hid hM0
  clear hwS HM hM0 HX HK H1 HS HB1
  generalize wX.heap.size = W at *
  generalize w1.heap.size = R at *
  go_loopw [1] (fun s1 wr => ∃ (A' : Option Addr) (m c q : Nat) (S : W8) (fW : Nat → Value), s1 = .slice A' m c ∧ m + 64 * q = n ∧ c + 64 * q = C ∧ Hid (64 ≤ m → A' = some ⟨g, o + 64 * q, none⟩) ∧ Hid (blocks kf (m / 64) S (l.drop (64 * q)) = blocks kf (n / 64) s l) ∧ Hid S.ok ∧ Hid (Mx w wr H tH F S W R fW)) (fun s1 _ => match s1 with | .slice _ m _ => m | _ => 0)
  case atStart => exact ⟨A, n, C, 0, s, fW0, rfl, by omega, by omega, HA, Lib.hid rfl, Lib.hid hok, HM0⟩
  case round =>
    clear HM0 HA
    obtain ⟨A, m, c, q, S, fW, rfl, hmq, hcq, HA, HS, HO, HM⟩ := hrel
    by_cases h64 : 64 ≤ m
    · have hA := HA.out h64
      subst hA
      have hd : decide ((64 : Int) ≤ (m : Int)) = true := by simp; omega
      have hm1 := hbig
      obtain ⟨mW, hmW⟩ : ∃ mW, mW = wordsOf ((l.drop (64 * q)).take 64) := ⟨_, rfl⟩
      have HMW := Lib.hid hmW
      clear hmW
      go_wp2_with fail
      go_loopw [14] (fun s14 wr => ∃ (t : Nat) (fW : Nat → Value), s14 = .int .i64 t ∧ t ≤ 16 ∧ Hid (Wd mW fW t) ∧ Hid (Mx w wr H tH F S W R fW)) (fun s14 _ => 16 - (intOf s14).toNat)
      case atStart => exact ⟨0, fW, rfl, by omega, Lib.hid (fun j hj => absurd hj (by omega)), HM⟩
      case round =>
        clear HM
        obtain ⟨t, fW, rfl, ht, HWd, HM⟩ := hrel
        by_cases hlt : t < 16
        · have ht0 : (0 : Int) ≤ (t : Int) := by omega
          have ht1 : (t : Int) < 16 := by omega
          have h4 : IntKind.i64.wrap (4 * (t : Int)) = ((4 * t : Nat) : Int) := by simp [IntKind.wrap, IntKind.signed, IntKind.bits]; omega
          have hc4 : ¬ c = 4 * t := by omega
          have hv : word4 (l.getD (64 * q + 4 * t) 0) (l.getD (64 * q + 4 * t + 1) 0) (l.getD (64 * q + 4 * t + 2) 0) (l.getD (64 * q + 4 * t + 3) 0) = sched mW t := by
            rw [HMW.out, sched_low _ _ hlt, wordsOf_block _ _ _ hlt]
          have HV := Lib.hid hv
          have HCl := Lib.hid (fun n' c' hn' => word_any g (o + 64 * q + 4 * t) n' c' _ _ _ _ wr hn' (HM.out.byte2 HRow.out HC.out (64 * q + 4 * t) _ (by omega) (by omega)) (HM.out.byte2 HRow.out HC.out (64 * q + 4 * t + 1) _ (by omega) (by omega)) (HM.out.byte2 HRow.out HC.out (64 * q + 4 * t + 2) _ (by omega) (by omega)) (HM.out.byte2 HRow.out HC.out (64 * q + 4 * t + 3) _ (by omega) (by omega)) (HBy.out _ (by omega)) (HBy.out _ (by omega)) (HBy.out _ (by omega)) (HBy.out _ (by omega)))
          clear hv
          go_wp2_with fail
          refine (HCl.out _ _ (by omega)).mono ?_
          rintro e wv ⟨rfl, d, rfl⟩
          rw [HV.out]
          have hcW : (wr.drewN d).cell? ⟨W, t, none⟩ = some (fW t) := (HM.out.drewN d).rowW.cell (by omega)
          have hfW : (wr.drewN d).frozen? ⟨W, t, none⟩ = false := (HM.out.drewN d).rowW.frozen _
          have HM2 := Lib.hid ((HM.out.drewN d).setW t (.int .u32 (sched mW t)))
          have HWd2 := Lib.hid (Wd.more HWd.out)
          have ht64 : (t : Int) < 64 := by omega
          clear HCl HV HM HWd
          generalize sched mW t = V at *
          go_wp2_with fail
          go_roundw
          case rel => exact ⟨t + 1, _, by go_num, by omega, HWd2, HM2⟩
          case measure => simp [intOf]; omega
        · have HWe : Hid (Wd mW fW 16) := by
            have ht2 : t = 16 := by omega
            rw [← ht2]; exact HWd
          have hd16 : decide ((t : Int) < 16) = false := by simp; omega
          clear HWd ht
          go_wp2_with fail
          clear hd16 hlt
          go_loopw [7] (fun s7 wr => ∃ (t : Nat) (fW : Nat → Value), s7 = .int .i64 t ∧ 16 ≤ t ∧ t ≤ 64 ∧ Hid (Wd mW fW t) ∧ Hid (Mx w wr H tH F S W R fW)) (fun s7 _ => 64 - (intOf s7).toNat)
          case atStart => exact ⟨16, fW, rfl, by omega, by omega, HWe, HM⟩
          case round =>
            clear HM HWe
            obtain ⟨t, fW, rfl, ht16, ht, HWd, HM⟩ := hrel
            by_cases hlt : t < 64
            · have ht0 : (0 : Int) ≤ (t : Int) := by omega
              have ht1 : (t : Int) < 64 := by omega
              obtain ⟨t2, e2⟩ : ∃ t2, t2 + 2 = t := ⟨t - 2, by omega⟩
              obtain ⟨t7, e7⟩ : ∃ t7, t7 + 7 = t := ⟨t - 7, by omega⟩
              obtain ⟨t15, e15⟩ : ∃ t15, t15 + 15 = t := ⟨t - 15, by omega⟩
              obtain ⟨t16, e16⟩ : ∃ t16, t16 + 16 = t := ⟨t - 16, by omega⟩
              have i2 : (t : Int) - 2 = (t2 : Int) := by omega
              have i7 : (t : Int) - 7 = (t7 : Int) := by omega
              have i15 : (t : Int) - 15 = (t15 : Int) := by omega
              have i16 : (t : Int) - 16 = (t16 : Int) := by omega
              have z2 : (0 : Int) ≤ (t2 : Int) := by omega
              have z7 : (0 : Int) ≤ (t7 : Int) := by omega
              have z15 : (0 : Int) ≤ (t15 : Int) := by omega
              have z16 : (0 : Int) ≤ (t16 : Int) := by omega
              have w2 : IntKind.i64.wrap (t2 : Int) = (t2 : Int) := by simp [IntKind.wrap, IntKind.signed, IntKind.bits]; omega
              have w7 : IntKind.i64.wrap (t7 : Int) = (t7 : Int) := by simp [IntKind.wrap, IntKind.signed, IntKind.bits]; omega
              have w15 : IntKind.i64.wrap (t15 : Int) = (t15 : Int) := by simp [IntKind.wrap, IntKind.signed, IntKind.bits]; omega
              have w16 : IntKind.i64.wrap (t16 : Int) = (t16 : Int) := by simp [IntKind.wrap, IntKind.signed, IntKind.bits]; omega
              have l2 : (t2 : Int) < 64 := by omega
              have l7 : (t7 : Int) < 64 := by omega
              have l15 : (t15 : Int) < 64 := by omega
              have l16 : (t16 : Int) < 64 := by omega
              have hsc : sched mW t = (((small (sched mW t2) 17 19 10 + sched mW t7) % 4294967296 + small (sched mW t15) 7 18 3) % 4294967296 + sched mW t16) % 4294967296 := by
                rw [sched_high _ _ ht16, show t - 2 = t2 by omega, show t - 7 = t7 by omega, show t - 15 = t15 by omega, show t - 16 = t16 by omega]
                rfl
              have HSC := Lib.hid hsc
              have hmr : ∀ j, 0 ≤ mW j ∧ mW j < 4294967296 := by rw [HMW.out]; exact fun j => word4_range _ _ _ _
              have r2 := sched_range mW hmr t2
              have r15 := sched_range mW hmr t15
              have HS2 : Hid (∀ w, Calls Try.prog 34 #[.int .u32 (sched mW t2), .int .i64 17, .int .i64 19, .int .i64 10] w fun e w' => e = .returned (.int .u32 (small (sched mW t2) 17 19 10)) ∧ ∃ d, w' = w.drewN d) := Lib.hid (fun w => small_any _ 17 19 10 w r2.1 r2.2 (by omega) (by omega) (by omega))
              have HS15 : Hid (∀ w, Calls Try.prog 34 #[.int .u32 (sched mW t15), .int .i64 7, .int .i64 18, .int .i64 3] w fun e w' => e = .returned (.int .u32 (small (sched mW t15) 7 18 3)) ∧ ∃ d, w' = w.drewN d) := Lib.hid (fun w => small_any _ 7 18 3 w r15.1 r15.2 (by omega) (by omega) (by omega))
              have hall : ∀ j, j < t → wr.cell? ⟨W, j, none⟩ = some (.int .u32 (sched mW j)) := fun j hj => by rw [HM.out.rowW.cell (by omega), HWd.out j hj]
              have hset : ∀ j, j < t → ∀ v, (wr.setCell ⟨W, t, none⟩ v).cell? ⟨W, j, none⟩ = some (.int .u32 (sched mW j)) := fun j hj v => by
                rw [World.cell?_setCell_other _ _ _ _ (by simp only [ne_eq, Addr.mk.injEq, not_and]; omega)]; exact hall j hj
              have c2 := hall t2 (by omega)
              have c7 := hall t7 (by omega)
              have c15 := hall t15 (by omega)
              have c16 := hall t16 (by omega)
              have s2 := Lib.hid (hset t2 (by omega))
              have s7 := Lib.hid (hset t7 (by omega))
              have s15 := Lib.hid (hset t15 (by omega))
              have s16 := Lib.hid (hset t16 (by omega))
              have hcW : wr.cell? ⟨W, t, none⟩ = some (fW t) := HM.out.rowW.cell (by omega)
              have hfW : wr.frozen? ⟨W, t, none⟩ = false := HM.out.rowW.frozen _
              have HWd2 := Lib.hid (Wd.more HWd.out)
              have HM2 := Lib.hid (fun v : Value => HM.out.setW t v)
              have hwx : IntKind.u32.wrap (IntKind.u32.wrap (IntKind.u32.wrap (small (sched mW t2) 17 19 10 + sched mW t7) + small (sched mW t15) 7 18 3) + sched mW t16) = sched mW t := by
                have hw : ∀ z, IntKind.u32.wrap z = z % 4294967296 := fun z => by simp [IntKind.wrap, IntKind.signed, IntKind.bits]
                rw [hw, hw, hw, hsc]
              clear hall hset hsc hmr e2 e7 e15 e16 r2 r15 HWd HM
              generalize sched mW t = X at *
              generalize sched mW t2 = X2 at *
              generalize sched mW t7 = X7 at *
              generalize sched mW t15 = X15 at *
              generalize sched mW t16 = X16 at *
              go_wp2_with fail
              refine wp_region_noPanic ?_
              refine wp_region_held_drew (S := (fun wS => wS.cell? ⟨W, t2, none⟩ = some (.int .u32 X2) ∧ wS.cell? ⟨W, t7, none⟩ = some (.int .u32 X7) ∧ wS.cell? ⟨W, t15, none⟩ = some (.int .u32 X15) ∧ wS.cell? ⟨W, t16, none⟩ = some (.int .u32 X16))) (by kernel_rfl) ?_ (fun hHeld => ?_)
              · ((try dsimp only); exact ⟨c2, c7, c15, c16⟩)
              refine wpAnyH_take (i := 0) (oi := { dst := some 29, op := Op.move (Operand.tmp 7), type := 3, pos := "hash.go:83", after := #[], guard := none }) (v := ?_) rfl (by kernel_rfl) (by kernel_rfl) (by kernel_rfl) (fun _ _ _ h => h) (Or.inl ⟨by rfl, ?_⟩) (by assumption) ?_
              rotate_left 1
              · ((intro w hSw; (try dsimp only at hSw); go_simp) <;> with_reducible rfl)
              (try simp only [Act.put, List.setIfInBounds_toArray, List.set_cons_zero, List.set_cons_succ])
              refine wpAnyH_take (i := 1) (oi := { dst := some 30, op := Op.move (Operand.tmp 7), type := 3, pos := "hash.go:83", after := #[], guard := none }) (v := ?_) rfl (by kernel_rfl) (by kernel_rfl) (by kernel_rfl) (fun _ _ _ h => h) (Or.inl ⟨by rfl, ?_⟩) (by assumption) ?_
              rotate_left 1
              · ((intro w hSw; (try dsimp only at hSw); go_simp) <;> with_reducible rfl)
              (try simp only [Act.put, List.setIfInBounds_toArray, List.set_cons_zero, List.set_cons_succ])
              refine wpAnyH_take (i := 2) (oi := { dst := some 31, op := Op.binOp BinOp.sub 3 (Operand.tmp 30) (Operand.const (Value.int IntKind.i64 2)) 3, type := 3, pos := "hash.go:83", after := #[{ on := 1, ground := Ground.data }], guard := none }) (v := ?_) rfl (by kernel_rfl) (by kernel_rfl) (by kernel_rfl) (fun _ _ _ h => h) (Or.inl ⟨by rfl, ?_⟩) (by assumption) ?_
              rotate_left 1
              · ((intro w hSw; (try dsimp only at hSw); go_simp) <;> with_reducible rfl)
              (try simp only [Act.put, List.setIfInBounds_toArray, List.set_cons_zero, List.set_cons_succ])
              refine wpAnyH_take (i := 3) (oi := { dst := some 32, op := Op.indexAddr 48 (Operand.tmp 5) (Operand.tmp 31), type := 0, pos := "hash.go:83", after := #[{ on := 2, ground := Ground.data }], guard := none }) (v := ?_) rfl (by kernel_rfl) (by kernel_rfl) (by kernel_rfl) (fun _ _ _ h => h) (Or.inl ⟨by rfl, ?_⟩) (by assumption) ?_
              rotate_left 1
              · ((intro w hSw; (try dsimp only at hSw); go_simp) <;> with_reducible rfl)
              (try simp only [Act.put, List.setIfInBounds_toArray, List.set_cons_zero, List.set_cons_succ])
              refine wpAnyH_take (i := 4) (oi := { dst := some 33, op := Op.load 47 (Operand.tmp 32), type := 47, pos := "hash.go:83", after := #[{ on := 3, ground := Ground.data }], guard := none }) (v := ?_) rfl (by kernel_rfl) (by kernel_rfl) (by kernel_rfl) (fun _ _ _ h => h) (Or.inl ⟨by rfl, ?_⟩) (by assumption) ?_
              rotate_left 1
              · ((intro w hSw; (try dsimp only at hSw); go_simp) <;> with_reducible rfl)
              (try simp only [Act.put, List.setIfInBounds_toArray, List.set_cons_zero, List.set_cons_succ])
              refine wpAnyH_take (i := 6) (oi := { dst := some 35, op := Op.move (Operand.tmp 7), type := 3, pos := "hash.go:83", after := #[], guard := none }) (v := ?_) rfl (by kernel_rfl) (by kernel_rfl) (by kernel_rfl) (fun _ _ _ h => h) (Or.inl ⟨by rfl, ?_⟩) (by assumption) ?_
              rotate_left 1
              · ((intro w hSw; (try dsimp only at hSw); go_simp) <;> with_reducible rfl)
              (try simp only [Act.put, List.setIfInBounds_toArray, List.set_cons_zero, List.set_cons_succ])
              refine wpAnyH_take (i := 7) (oi := { dst := some 36, op := Op.binOp BinOp.sub 3 (Operand.tmp 35) (Operand.const (Value.int IntKind.i64 7)) 3, type := 3, pos := "hash.go:83", after := #[{ on := 6, ground := Ground.data }], guard := none }) (v := ?_) rfl (by kernel_rfl) (by kernel_rfl) (by kernel_rfl) (fun _ _ _ h => h) (Or.inl ⟨by rfl, ?_⟩) (by assumption) ?_
              rotate_left 1
              · ((intro w hSw; (try dsimp only at hSw); go_simp) <;> with_reducible rfl)
              (try simp only [Act.put, List.setIfInBounds_toArray, List.set_cons_zero, List.set_cons_succ])
              refine wpAnyH_take (i := 8) (oi := { dst := some 37, op := Op.indexAddr 48 (Operand.tmp 5) (Operand.tmp 36), type := 0, pos := "hash.go:83", after := #[{ on := 7, ground := Ground.data }], guard := none }) (v := ?_) rfl (by kernel_rfl) (by kernel_rfl) (by kernel_rfl) (fun _ _ _ h => h) (Or.inl ⟨by rfl, ?_⟩) (by assumption) ?_
              rotate_left 1
              · ((intro w hSw; (try dsimp only at hSw); go_simp) <;> with_reducible rfl)
              (try simp only [Act.put, List.setIfInBounds_toArray, List.set_cons_zero, List.set_cons_succ])
              refine wpAnyH_take (i := 9) (oi := { dst := some 38, op := Op.load 47 (Operand.tmp 37), type := 47, pos := "hash.go:83", after := #[{ on := 8, ground := Ground.data }], guard := none }) (v := ?_) rfl (by kernel_rfl) (by kernel_rfl) (by kernel_rfl) (fun _ _ _ h => h) (Or.inl ⟨by rfl, ?_⟩) (by assumption) ?_
              rotate_left 1
              · ((intro w hSw; (try dsimp only at hSw); go_simp) <;> with_reducible rfl)
              (try simp only [Act.put, List.setIfInBounds_toArray, List.set_cons_zero, List.set_cons_succ])
              refine wpAnyH_take (i := 11) (oi := { dst := some 40, op := Op.move (Operand.tmp 7), type := 3, pos := "hash.go:83", after := #[], guard := none }) (v := ?_) rfl (by kernel_rfl) (by kernel_rfl) (by kernel_rfl) (fun _ _ _ h => h) (Or.inl ⟨by rfl, ?_⟩) (by assumption) ?_
              rotate_left 1
              · ((intro w hSw; (try dsimp only at hSw); go_simp) <;> with_reducible rfl)
              (try simp only [Act.put, List.setIfInBounds_toArray, List.set_cons_zero, List.set_cons_succ])
              refine wpAnyH_take (i := 12) (oi := { dst := some 41, op := Op.binOp BinOp.sub 3 (Operand.tmp 40) (Operand.const (Value.int IntKind.i64 15)) 3, type := 3, pos := "hash.go:83", after := #[{ on := 11, ground := Ground.data }], guard := none }) (v := ?_) rfl (by kernel_rfl) (by kernel_rfl) (by kernel_rfl) (fun _ _ _ h => h) (Or.inl ⟨by rfl, ?_⟩) (by assumption) ?_
              rotate_left 1
              · ((intro w hSw; (try dsimp only at hSw); go_simp) <;> with_reducible rfl)
              (try simp only [Act.put, List.setIfInBounds_toArray, List.set_cons_zero, List.set_cons_succ])
              refine wpAnyH_take (i := 13) (oi := { dst := some 42, op := Op.indexAddr 48 (Operand.tmp 5) (Operand.tmp 41), type := 0, pos := "hash.go:83", after := #[{ on := 12, ground := Ground.data }], guard := none }) (v := ?_) rfl (by kernel_rfl) (by kernel_rfl) (by kernel_rfl) (fun _ _ _ h => h) (Or.inl ⟨by rfl, ?_⟩) (by assumption) ?_
              rotate_left 1
              · ((intro w hSw; (try dsimp only at hSw); go_simp) <;> with_reducible rfl)
              (try simp only [Act.put, List.setIfInBounds_toArray, List.set_cons_zero, List.set_cons_succ])
              refine wpAnyH_take (i := 14) (oi := { dst := some 43, op := Op.load 47 (Operand.tmp 42), type := 47, pos := "hash.go:83", after := #[{ on := 13, ground := Ground.data }], guard := none }) (v := ?_) rfl (by kernel_rfl) (by kernel_rfl) (by kernel_rfl) (fun _ _ _ h => h) (Or.inl ⟨by rfl, ?_⟩) (by assumption) ?_
              rotate_left 1
              · ((intro w hSw; (try dsimp only at hSw); go_simp) <;> with_reducible rfl)
              (try simp only [Act.put, List.setIfInBounds_toArray, List.set_cons_zero, List.set_cons_succ])
              refine wpAnyH_take (i := 17) (oi := { dst := some 46, op := Op.move (Operand.tmp 7), type := 3, pos := "hash.go:83", after := #[], guard := none }) (v := ?_) rfl (by kernel_rfl) (by kernel_rfl) (by kernel_rfl) (fun _ _ _ h => h) (Or.inl ⟨by rfl, ?_⟩) (by assumption) ?_
              rotate_left 1
              · ((intro w hSw; (try dsimp only at hSw); go_simp) <;> with_reducible rfl)
              (try simp only [Act.put, List.setIfInBounds_toArray, List.set_cons_zero, List.set_cons_succ])
              refine wpAnyH_take (i := 18) (oi := { dst := some 47, op := Op.binOp BinOp.sub 3 (Operand.tmp 46) (Operand.const (Value.int IntKind.i64 16)) 3, type := 3, pos := "hash.go:83", after := #[{ on := 17, ground := Ground.data }], guard := none }) (v := ?_) rfl (by kernel_rfl) (by kernel_rfl) (by kernel_rfl) (fun _ _ _ h => h) (Or.inl ⟨by rfl, ?_⟩) (by assumption) ?_
              rotate_left 1
              · ((intro w hSw; (try dsimp only at hSw); go_simp) <;> with_reducible rfl)
              (try simp only [Act.put, List.setIfInBounds_toArray, List.set_cons_zero, List.set_cons_succ])
              refine wpAnyH_take (i := 19) (oi := { dst := some 48, op := Op.indexAddr 48 (Operand.tmp 5) (Operand.tmp 47), type := 0, pos := "hash.go:83", after := #[{ on := 18, ground := Ground.data }], guard := none }) (v := ?_) rfl (by kernel_rfl) (by kernel_rfl) (by kernel_rfl) (fun _ _ _ h => h) (Or.inl ⟨by rfl, ?_⟩) (by assumption) ?_
              rotate_left 1
              · ((intro w hSw; (try dsimp only at hSw); go_simp) <;> with_reducible rfl)
              (try simp only [Act.put, List.setIfInBounds_toArray, List.set_cons_zero, List.set_cons_succ])
              refine wpAnyH_take (i := 20) (oi := { dst := some 49, op := Op.load 47 (Operand.tmp 48), type := 47, pos := "hash.go:83", after := #[{ on := 19, ground := Ground.data }], guard := none }) (v := ?_) rfl (by kernel_rfl) (by kernel_rfl) (by kernel_rfl) (fun _ _ _ h => h) (Or.inl ⟨by rfl, ?_⟩) (by assumption) ?_
              rotate_left 1
              · ((intro w hSw; (try dsimp only at hSw); go_simp) <;> with_reducible rfl)
              (try simp only [Act.put, List.setIfInBounds_toArray, List.set_cons_zero, List.set_cons_succ])
              refine wpAnyH_ready (rs := [5]) (by kernel_rfl) (by simp) ?_
              refine AllReadyH.cons (o := { dst := some 34, op := Op.call { callee := Callee.value (Operand.func 34), args := #[Operand.tmp 33, Operand.const (Value.int IntKind.i64 17), Operand.const (Value.int IntKind.i64 19), Operand.const (Value.int IntKind.i64 10)], argTypes := #[47, 3, 3, 3] }, type := 47, pos := "hash.go:83", after := #[{ on := 4, ground := Ground.data }], guard := none }) rfl (fun K hK => ?_) ?_
              · go_simp
                with_reducible refine (HS2.out _).mono ?_
                rintro e' w1 ⟨rfl, d1, rfl⟩
                (try go_wp2_with fail)
                refine hK.out _ _ ?_ (fun hNew => ?_)
                · ((try dsimp only); first | exact ⟨c2, c7, c15, c16⟩ | exact ⟨s2.out _, s7.out _, s15.out _, s16.out _⟩)
                clear hK K hHeld
                have hHeld := hNew
                clear hNew
                (try simp only [Act.put, List.setIfInBounds_toArray, List.set_cons_zero, List.set_cons_succ])
                refine wpAnyH_take (i := 10) (oi := { dst := some 39, op := Op.binOp BinOp.add 47 (Operand.tmp 34) (Operand.tmp 38) 47, type := 47, pos := "hash.go:83", after := #[{ on := 5, ground := Ground.data }, { on := 9, ground := Ground.data }], guard := none }) (v := ?_) rfl (by kernel_rfl) (by kernel_rfl) (by kernel_rfl) (fun _ _ _ h => h) (Or.inl ⟨by rfl, ?_⟩) (by assumption) ?_
                rotate_left 1
                · ((intro w hSw; (try dsimp only at hSw); go_simp) <;> with_reducible rfl)
                (try simp only [Act.put, List.setIfInBounds_toArray, List.set_cons_zero, List.set_cons_succ])
                refine wpAnyH_ready (rs := [15]) (by kernel_rfl) (by simp) ?_
                refine AllReadyH.cons (o := { dst := some 44, op := Op.call { callee := Callee.value (Operand.func 34), args := #[Operand.tmp 43, Operand.const (Value.int IntKind.i64 7), Operand.const (Value.int IntKind.i64 18), Operand.const (Value.int IntKind.i64 3)], argTypes := #[47, 3, 3, 3] }, type := 47, pos := "hash.go:83", after := #[{ on := 14, ground := Ground.data }, { on := 5, ground := Ground.chain }], guard := none }) rfl (fun K hK => ?_) ?_
                · go_simp
                  with_reducible refine (HS15.out _).mono ?_
                  rintro e' w1 ⟨rfl, d2, rfl⟩
                  (try go_wp2_with fail)
                  refine hK.out _ _ ?_ (fun hNew => ?_)
                  · ((try dsimp only); first | exact ⟨c2, c7, c15, c16⟩ | exact ⟨s2.out _, s7.out _, s15.out _, s16.out _⟩)
                  clear hK K hHeld
                  have hHeld := hNew
                  clear hNew
                  (try simp only [Act.put, List.setIfInBounds_toArray, List.set_cons_zero, List.set_cons_succ])
                  refine wpAnyH_take (i := 16) (oi := { dst := some 45, op := Op.binOp BinOp.add 47 (Operand.tmp 39) (Operand.tmp 44) 47, type := 47, pos := "hash.go:83", after := #[{ on := 10, ground := Ground.data }, { on := 15, ground := Ground.data }], guard := none }) (v := ?_) rfl (by kernel_rfl) (by kernel_rfl) (by kernel_rfl) (fun _ _ _ h => h) (Or.inl ⟨by rfl, ?_⟩) (by assumption) ?_
                  rotate_left 1
                  · ((intro w hSw; (try dsimp only at hSw); go_simp) <;> with_reducible rfl)
                  (try simp only [Act.put, List.setIfInBounds_toArray, List.set_cons_zero, List.set_cons_succ])
                  refine wpAnyH_take (i := 21) (oi := { dst := some 50, op := Op.binOp BinOp.add 47 (Operand.tmp 45) (Operand.tmp 49) 47, type := 47, pos := "hash.go:83", after := #[{ on := 16, ground := Ground.data }, { on := 20, ground := Ground.data }], guard := none }) (v := ?_) rfl (by kernel_rfl) (by kernel_rfl) (by kernel_rfl) (fun _ _ _ h => h) (Or.inl ⟨by rfl, ?_⟩) (by assumption) ?_
                  rotate_left 1
                  · ((intro w hSw; (try dsimp only at hSw); go_simp) <;> with_reducible rfl)
                  (try simp only [Act.put, List.setIfInBounds_toArray, List.set_cons_zero, List.set_cons_succ])
                  refine wpAnyH_take (i := 22) (oi := { dst := some 51, op := Op.indexAddr 48 (Operand.tmp 5) (Operand.tmp 29), type := 0, pos := "hash.go:83", after := #[{ on := 0, ground := Ground.data }, { on := 0, ground := Ground.phase }, { on := 1, ground := Ground.phase }, { on := 2, ground := Ground.phase }, { on := 3, ground := Ground.phase }, { on := 4, ground := Ground.phase }, { on := 5, ground := Ground.phase }, { on := 6, ground := Ground.phase }, { on := 7, ground := Ground.phase }, { on := 8, ground := Ground.phase }, { on := 9, ground := Ground.phase }, { on := 10, ground := Ground.phase }, { on := 11, ground := Ground.phase }, { on := 12, ground := Ground.phase }, { on := 13, ground := Ground.phase }, { on := 14, ground := Ground.phase }, { on := 15, ground := Ground.phase }, { on := 16, ground := Ground.phase }, { on := 17, ground := Ground.phase }, { on := 18, ground := Ground.phase }, { on := 19, ground := Ground.phase }, { on := 20, ground := Ground.phase }, { on := 21, ground := Ground.phase }], guard := none }) (v := ?_) rfl (by kernel_rfl) (by kernel_rfl) (by kernel_rfl) (fun _ _ _ h => h) (Or.inl ⟨by rfl, ?_⟩) (by assumption) ?_
                  rotate_left 1
                  · ((intro w hSw; (try dsimp only at hSw); go_simp) <;> with_reducible rfl)
                  (try simp only [Act.put, List.setIfInBounds_toArray, List.set_cons_zero, List.set_cons_succ])
                  refine wpAnyH_ready (rs := [23]) (by kernel_rfl) (by simp) ?_
                  refine AllReadyH.cons (o := { dst := none, op := Op.store 47 (Operand.tmp 51) (Operand.tmp 50), type := 0, pos := "hash.go:83", after := #[{ on := 22, ground := Ground.data }, { on := 21, ground := Ground.data }, { on := 15, ground := Ground.chain }, { on := 0, ground := Ground.phase }, { on := 1, ground := Ground.phase }, { on := 2, ground := Ground.phase }, { on := 3, ground := Ground.phase }, { on := 4, ground := Ground.phase }, { on := 5, ground := Ground.phase }, { on := 6, ground := Ground.phase }, { on := 7, ground := Ground.phase }, { on := 8, ground := Ground.phase }, { on := 9, ground := Ground.phase }, { on := 10, ground := Ground.phase }, { on := 11, ground := Ground.phase }, { on := 12, ground := Ground.phase }, { on := 13, ground := Ground.phase }, { on := 14, ground := Ground.phase }, { on := 15, ground := Ground.phase }, { on := 16, ground := Ground.phase }, { on := 17, ground := Ground.phase }, { on := 18, ground := Ground.phase }, { on := 19, ground := Ground.phase }, { on := 20, ground := Ground.phase }, { on := 21, ground := Ground.phase }], guard := none }) rfl (fun K hK => ?_) ?_
                  · go_simp
                    refine hK.out _ _ ?_ (fun hNew => ?_)
                    · ((try dsimp only); first | exact ⟨c2, c7, c15, c16⟩ | exact ⟨s2.out _, s7.out _, s15.out _, s16.out _⟩)
                    clear hK K hHeld
                    have hHeld := hNew
                    clear hNew
                    (try simp only [Act.put, List.setIfInBounds_toArray, List.set_cons_zero, List.set_cons_succ])
                    refine wpAnyH_done (by kernel_rfl) ?_ _
                    refine NoPanic.normal ?_
                    go_wp2_with fail
                    go_roundw
                    case rel => exact ⟨t + 1, _, by go_num, by omega, by omega, HWd2, Lib.hid ((HM2.out (.int .u32 X)).same rfl rfl rfl rfl)⟩
                    case measure => simp [intOf]; omega
                  exact AllReadyH.nil
                exact AllReadyH.nil
              exact AllReadyH.nil
            · have HWe : Hid (Wd mW fW 64) := by
                have ht2 : t = 64 := by omega
                rw [← ht2]; exact HWd
              have hd64 : decide ((t : Int) < 64) = false := by simp; omega
              have HR := Lib.hid (rounds_any H tH W R (stF F S) S kf (sched mW) HO.out wr HM.out.rowH (fun j hj => by rw [stF, if_pos hj]) (fun j hj => by rw [HM.out.rowW.cell hj, HWe.out j hj]) (fun j hj => HM.out.rowR.cell hj))
              clear HWd HWe ht
              obtain ⟨A2, hA2⟩ : ∃ A2, A2 = (if c = 64 then (some ⟨g, o + 64 * q, none⟩ : Option Addr) else some ⟨g, o + 64 * q + 64, none⟩) := ⟨_, rfl⟩
              have HA2 : Hid (64 ≤ m - 64 → A2 = some ⟨g, o + 64 * (q + 1), none⟩) := Lib.hid (fun h => by
                rw [hA2, if_neg (by omega), show o + 64 * (q + 1) = o + 64 * q + 64 from by omega])
              have hcut := hA2.symm
              clear hA2
              go_wp2_with fail
              refine HR.out.mono ?_
              rintro e w' ⟨rfl, hr, hg⟩
              have HM3 := Lib.hid (HM.out.mixed hr hg)
              rw [HMW.out] at HM3
              have hbl := blocks_cut s l n q (by omega) S
              have HS3 : Hid (blocks kf ((m - 64) / 64) (block kf S ((l.drop (64 * q)).take 64)) (l.drop (64 * (q + 1))) = blocks kf (n / 64) s l) := Lib.hid (by
                rw [show m - 64 = n - 64 * (q + 1) from by omega, ← hbl, show n - 64 * q = m from by omega]
                exact HS.out)
              have HO3 : Hid (block kf S ((l.drop (64 * q)).take 64)).ok := Lib.hid (mixin_ok _ _)
              clear hr hg HM hbl HS HO HMW hd64 hlt HR
              go_wp2_with fail
              exact ⟨⟨A2, m - 64, c - 64, q + 1, _, fW, rfl, by omega, by omega, HA2, HS3, HO3, HM3⟩, by show m - 64 < m; omega⟩
    · have hd : decide ((64 : Int) ≤ (m : Int)) = false := by simp; omega
      have hm0 : m / 64 = 0 := by omega
      have hS := HS.out
      rw [hm0] at hS
      have HS2 := Lib.hid hS
      clear hS HS hm0
      go_wp2_with fail
      go_end0
      refine ⟨rfl, ?_, HM.out.gr⟩
      rw [← HS2.out]
      exact HM.out.rowH
end Go.Proofs.Ytgmcdkkjemjneaa.Sm
