/- take, walked. -/
import Derived.Test.YtgmcdkkjemjneaaSmCopy
import Derived.Deep.DeepCutAuto
import Derived.Deep.CutBlock
import Derived.Deep.RegionHeld3
namespace Go.Proofs.Ytgmcdkkjemjneaa.Sm
open Go.RowKit
set_option linter.unusedVariables false

set_option maxRecDepth 100000 in
set_option maxHeartbeats 4000000 in
theorem take_any (H tH : Nat) (F : Nat → Value) (B : List Int) (A : Option Addr) (g o m C : Nat) (l : List Int) (w : World) (hrow : w.rowIs H tH 73 F) (hs : Hs B F) (n : Nat) (hnB : B.length = n) (hn : n + m ≤ 140737488355328)
    (hlen : l.length = m) (hm : m ≤ C) (hC : C ≤ 9223372036854775807) (hA : 0 < m → A = some ⟨g, o, none⟩) (hgH : g ≠ H) (hg : g < w.heap.size) (hby : ∀ i, i < m → 0 ≤ l.getD i 0 ∧ l.getD i 0 ≤ 255) (hB : ∀ i, i < n → 0 ≤ B.getD i 0 ∧ B.getD i 0 ≤ 255)
    (hcell : ∀ i, i < m → w.cell? ⟨g, o + i, none⟩ = some (.int .u8 (l.getD i 0))) :
    Calls Try.prog 23 #[.pointer (some ⟨H, 0, none⟩), .slice A m C] w fun e w' => e = .returned (.tuple #[]) ∧ (∃ F', w'.rowIs H tH 73 F' ∧ Hs (B ++ l) F') ∧ w.grownBy w' (some H) := by
  obtain ⟨S, x, hc, hS, hW⟩ := hs
  have H1 := Lib.hid (show (uv ic).toArray.all (·.oneCell') = true from all_oneCell_toArray (uv_one ic))
  have HS8 : Hid ((Try.prog.info? 49).map (·.size) = some (uv ic).toArray.size) := Lib.hid (by rw [List.size_toArray, uv, List.length_map]; kernel_rfl)
  have HBy := Lib.hid hby
  have HBB := Lib.hid hB
  have HCe := Lib.hid hcell
  have HA := Lib.hid hA
  have HRow := Lib.hid hrow
  have HC := Lib.hid hc
  have HW := Lib.hid hW
  have hHlt := hrow.lt
  have h72 : w.cell? ⟨H, 72, none⟩ = some (.int .u64 n) := by rw [hrow.cell (by omega), hc.cnt, hnB]
  have HG0 := Lib.hid (World.grownBy.refl w (some H))
  have HSt := Lib.hid hS
  clear hby hB hcell hA hrow hc hW hS
  have HN := Lib.hid hnB
  rw [hnB] at HC
  clear hnB
  go_enter Try.func23, Try.ntmps23
  go_upto_if 11 with (fail)
  go_cut [4] (fun s4 wc => s4 = undef ∧ ∃ F1, Hid (wc.rowIs H tH 73 F1) ∧ Hid (Hc F1 (run B) x n) ∧ Hid (w.grownBy wc (some H)))
  case first =>
    by_cases h0 : n = 0
    · have hd : ((n : Int) == 0) = true := by simp [h0]
      have h8 : w.cell? ⟨H, 0, none⟩ = some (F 0) := HRow.out.cell (by omega)
      go_wp2_with fail
      refine (first_any w).mono ?_
      rintro e w1 ⟨rfl, hb1⟩
      have hbl : w1.heap[H]? = w.heap[H]? := hb1.block H hHlt
      have HR1 := Lib.hid (World.rowIs.of_block HRow.out hbl)
      have HG1 : Hid (w.grownBy w1 (some H)) := Lib.hid ⟨hb1.os, hb1.tape, hb1.output, hb1.size, fun i hi _ => hb1.block i hi⟩
      have HTh : Hid (w1.there H 0 (uv ic).toArray.size) := Lib.hid (fun j hj => by
        have h8 : (uv ic).toArray.size = 8 := by rw [List.size_toArray, uv, List.length_map]; rfl
        rw [h8] at hj
        rw [Nat.zero_add]
        exact ⟨by rw [HR1.out.cell (by omega)]; rfl, HR1.out.frozen _⟩)
      clear hb1 hbl h8
      generalize hIC : (uv ic).toArray = IC at *
      have HIC := Lib.hid hIC
      clear hIC
      go_wp2_with (refine wpList_store_mid rfl _ _ _ rfl H 0 IC rfl rfl HTh.out HS8.out H1.out ?_)
      go_meet
      case rel => exact ⟨rfl, layF F 0 IC.toList, Lib.hid (row_lay HR1.out 0 _), Lib.hid (by
        obtain rfl : B = [] := List.eq_nil_of_length_eq_zero (by rw [HN.out, h0])
        rw [← HIC.out]
        exact HC.out.first), Lib.hid (grown_setCells _ _ _ HG1.out)⟩
    · have hd : ((n : Int) == 0) = false := by simp; omega
      go_wp2_with fail
      go_meet
      case rel => exact ⟨rfl, F, HRow, Lib.hid (by
        rw [← HSt.out (fun e => h0 (by rw [← HN.out, e]; rfl))]
        exact HC.out), HG0⟩
  case rest =>
    obtain ⟨rfl, F1, HR1, HC1, HG1⟩ := hcut
    clear HRow HC HG0 HSt h72 H1 HS8
    obtain ⟨r, hr⟩ : ∃ r, r = n % 64 := ⟨_, rfl⟩
    have hr64 : r < 64 := by omega
    have ir : (n : Int) % 64 = (r : Int) := by omega
    have HRr := Lib.hid hr
    clear hr
    have wr : IntKind.i64.wrap (r : Int) = (r : Int) := by simp [IntKind.wrap, IntKind.signed, IntKind.bits]; omega
    have z0 : (0 : Int) ≤ (r : Int) := by omega
    have z1 : (r : Int) ≤ 64 := by omega
    have z2 : (r : Int) < 64 := by omega
    have hne64 : ¬ 64 = r := by omega
    have h72 : wc.cell? ⟨H, 72, none⟩ = some (.int .u64 n) := by rw [HR1.out.cell (by omega), HC1.out.cnt]
    have f72 : wc.frozen? ⟨H, 72, none⟩ = false := HR1.out.frozen _
    have HR2 := Lib.hid (HR1.out.set 72 (.int .u64 ((n + m : Nat) : Int)))
    have HC2 := Lib.hid (HC1.out.set72 (n + m))
    have HG2 : Hid (w.grownBy (wc.setCell ⟨H, 72, none⟩ (.int .u64 ((n + m : Nat) : Int))) (some H)) := Lib.hid (grown_setCells [_] 72 _ HG1.out)
    rw [show ((n + m : Nat) : Int) = (n : Int) + (m : Int) from by omega] at HR2 HC2 HG2
    clear HR1 HC1 HG1
    have HCe2 := Lib.hid (fun i hi => HCe.out i hi)
    go_upto_if 33 with (fail)
    go_cut [1] (fun s1 wd => ∃ (A1 : Option Addr) (m1 C1 o1 : Nat) (B1 l1 : List Int) (F2 : Nat → Value) (x2 : Nat → Int), s1 = .slice A1 m1 C1 ∧ m1 ≤ C1 ∧ C1 ≤ 9223372036854775807 ∧ m1 ≤ 140737488355328 ∧ Hid (0 < m1 → A1 = some ⟨g, o1, none⟩) ∧ Hid (l1.length = m1) ∧ Hid (B1 ++ l1 = B ++ l) ∧ Hid (B1.length % 64 = 0) ∧ Hid (n + m = B1.length + m1) ∧ Hid (∀ i, i < m1 → 0 ≤ l1.getD i 0 ∧ l1.getD i 0 ≤ 255) ∧ Hid (∀ i, i < m1 → w.cell? ⟨g, o1 + i, none⟩ = some (.int .u8 (l1.getD i 0))) ∧ Hid (wd.rowIs H tH 73 F2) ∧ Hid (Hc F2 (run B1) x2 (n + m)) ∧ Hid (w.grownBy wd (some H)))
    case first =>
      by_cases hr0 : r = 0
      · have hrd : decide ((0 : Int) < (r : Int)) = false := by simp; omega
        go_wp2_with fail
        go_meet
        case rel => exact ⟨A, m, C, o, B, l, _, _, rfl, hm, hC, by omega, HA, Lib.hid hlen, Lib.hid rfl, Lib.hid (by rw [HN.out, ← HRr.out, hr0]), Lib.hid (by rw [HN.out]), HBy, HCe, HR2, HC2, HG2⟩
      have hrd : decide ((0 : Int) < (r : Int)) = true := by simp; omega
      by_cases hk : r + m < 64
      · have hmin : m = Nat.min m (64 - r) := by show m = min m (64 - r); omega
        have HCp := Lib.hid (Cp.mk' (off := 8 + r) HR2.out HG2.out hg hgH (by omega) hlen HA.out HCe.out)
        have HR3 := Lib.hid (row_lay HR2.out (8 + r) (bv l))
        have HC3 := Lib.hid (HC2.out.lay r l (by omega))
        have HG3 := Lib.hid (grown_setCells (bv l) (8 + r) _ HG2.out)
        have hlc : (bv l).length = m := by simp [bv, hlen]
        have hgo : goInt (bv l).length = .int .i64 m := by rw [hlc]; rfl
        have HMn : Hid ((bv l).length = Nat.min m (64 - r)) := Lib.hid (by rw [hlc]; exact hmin)
        have hrm : decide ((r : Int) + (m : Int) < 64) = true := by simp; omega
        have HFin := Lib.hid (hs_wait HN.out hlen HRr.out hk HW.out HC3.out)
        clear HC3
        generalize bv l = CS at *
        clear HR2 HC2 HG2 hmin hlc
        go_wp2_with (refine wpList_copy_mid rfl (.tmp 38) (.tmp 39) rfl (some ⟨H, 8 + r, none⟩) A (64 - r) (64 - r) m C rfl rfl H (8 + r) CS HMn.out HCp.out.pos HCp.out.here HCp.out.free HCp.out.one ?_; rw [hgo])
        all_goals (refine bodyPost_ret (results_none rfl _ _ _) rfl ?_; exact ⟨rfl, ⟨_, HR3.out, HFin.out⟩, HG3.out⟩)
      have hk64 : 64 ≤ r + m := by omega
      obtain ⟨k, hkr⟩ : ∃ k, r + k = 64 := ⟨64 - r, by omega⟩
      have hk1 : 64 - r = k := by omega
      have hkm : k ≤ m := by omega
      have hk0 : 0 < k := by omega
      have hAe := HA.out (by omega)
      have hlt : (l.take k).length = k := by rw [List.length_take]; omega
      have HCp := Lib.hid (Cp.mk' (A := A) (l := l.take k) (off := 8 + r) (k := k) HR2.out HG2.out hg hgH (by omega) hlt (fun _ => hAe) (fun i hi => by
        rw [HCe.out i (by omega)]
        simp [List.getD, hi]))
      have HR3 := Lib.hid (row_lay HR2.out (8 + r) (bv (l.take k)))
      have HC3 := Lib.hid (HC2.out.lay r (l.take k) (by omega))
      have HG3 := Lib.hid (grown_setCells (bv (l.take k)) (8 + r) _ HG2.out)
      have hlc : (bv (l.take k)).length = k := by rw [bv, List.length_map, hlt]
      have hgo : goInt (bv (l.take k)).length = .int .i64 k := by rw [hlc]; rfl
      have HMn : Hid ((bv (l.take k)).length = Nat.min m k) := Lib.hid (by rw [hlc]; show k = min m k; omega)
      have hrm : decide ((r : Int) + (k : Int) < 64) = false := by simp; omega
      have HFB := Lib.hid (full_block HN.out hlen HRr.out hk64 HW.out)
      have HRF := Lib.hid (run_full HN.out hlen HRr.out hk64)
      rw [hk1] at HFB HRF
      have hd1 : (B.drop (64 * (n / 64))).length = r := by rw [List.length_drop, HN.out, HRr.out]; omega
      have HL1 : Hid ((B.drop (64 * (n / 64)) ++ l.take k).length = 64) := Lib.hid (by rw [List.length_append, hlt, hd1]; omega)
      have HBy1 : Hid (∀ i, i < 64 → 0 ≤ (B.drop (64 * (n / 64)) ++ l.take k).getD i 0 ∧ (B.drop (64 * (n / 64)) ++ l.take k).getD i 0 ≤ 255) := Lib.hid (fun i hi => by
        simp only [List.getD]
        by_cases h : i < r
        · rw [List.getElem?_append_left (by omega), List.getElem?_drop]
          exact HBB.out _ (by have := HRr.out; omega)
        · rw [List.getElem?_append_right (by omega), hd1]
          have := HBy.out (i - r) (by omega)
          simpa [List.getD, show i - r < k by omega] using this)
      have HC4 : Hid (∃ FX x', ((wc.setCell ⟨H, 72, none⟩ (.int .u64 ((n : Int) + (m : Int)))).setCells H (8 + r) (bv (l.take k))).rowIs H tH 73 FX ∧ Hc FX (run B) x' (n + m) ∧ ∀ i, i < 64 → x' i = (B.drop (64 * (n / 64)) ++ l.take k).getD i 0) := Lib.hid ⟨_, _, HR3.out, HC3.out, HFB.out⟩
      clear HR3 HC3 HFB HR2 HC2 HG2 hlc hlt hd1
      generalize bv (l.take k) = CS at *
      obtain ⟨L1, hL1⟩ : ∃ L1, L1 = B.drop (64 * (n / 64)) ++ l.take k := ⟨_, rfl⟩
      rw [← hL1] at HRF HL1 HBy1 HC4
      clear hL1
      subst hAe
      obtain ⟨A2, hA2⟩ : ∃ A2, A2 = (if C = k then (some ⟨g, o, none⟩ : Option Addr) else some ⟨g, o + k, none⟩) := ⟨_, rfl⟩
      have HA2 : Hid (0 < m - k → A2 = some ⟨g, o + k, none⟩) := Lib.hid (fun h => by rw [hA2, if_neg (by omega)])
      have hcut := hA2.symm
      clear hA2
      have k0 : (0 : Int) ≤ (k : Int) := by omega
      have k1 : (k : Int) ≤ (m : Int) := by omega
      have kw : IntKind.i64.wrap (k : Int) = (k : Int) := by simp [IntKind.wrap, IntKind.signed, IntKind.bits]; omega
      generalize hwX : (wc.setCell ⟨H, 72, none⟩ (.int .u64 ((n : Int) + (m : Int)))).setCells H (8 + r) CS = wX at *
      have HWX := Lib.hid hwX
      clear hwX
      go_wp2_with (refine wpList_copy_mid rfl (.tmp 38) (.tmp 39) rfl (some ⟨H, 8 + r, none⟩) (some ⟨g, o, none⟩) k k m C rfl rfl H (8 + r) CS HMn.out HCp.out.pos HCp.out.here HCp.out.free HCp.out.one ?_; rw [hgo, HWX.out])
      obtain ⟨FX, x', hrX, hcX, hx'⟩ := HC4.out
      refine (mix_any H tH FX (run B) (run_ok B) (some ⟨H, 8, none⟩) H 8 64 64 L1 wX hrX hcX.st HL1.out (by omega) (by omega) (by omega) (fun _ => rfl) HBy1.out (fun w' hg' hsm i hi => by rw [hsm (8 + i) (by omega) (by omega), hrX.cell (by omega), hcX.wt i hi, hx' i hi])).mono ?_
      rintro e w5 ⟨rfl, hr5, hg5⟩
      rw [HRF.out] at hr5
      have HR5 := Lib.hid hr5
      have HG5 := Lib.hid (grown_trans HG3.out hg5)
      have HC5 := Lib.hid (hcX.state (run (B ++ l.take k)))
      have HO5 : Hid (m - k ≤ C - k ∧ C - k ≤ 9223372036854775807 ∧ m - k ≤ 140737488355328) := Lib.hid ⟨by omega, by omega, by omega⟩
      have HL5 : Hid ((l.drop k).length = m - k) := Lib.hid (by rw [List.length_drop, hlen])
      have HD5 : Hid ((B ++ l.take k) ++ l.drop k = B ++ l) := Lib.hid (by rw [List.append_assoc, List.take_append_drop])
      have hBk : (B ++ l.take k).length = n + k := by rw [List.length_append, HN.out, List.length_take]; omega
      have HM5 : Hid ((B ++ l.take k).length % 64 = 0) := Lib.hid (by rw [hBk]; have := HRr.out; omega)
      have HN5 : Hid (n + m = (B ++ l.take k).length + (m - k)) := Lib.hid (by rw [hBk]; omega)
      have HY5 : Hid (∀ i, i < m - k → 0 ≤ (l.drop k).getD i 0 ∧ (l.drop k).getD i 0 ≤ 255) := Lib.hid (fun i hi => by
        have := HBy.out (k + i) (by omega)
        simpa [List.getD, List.getElem?_drop] using this)
      have HE5 : Hid (∀ i, i < m - k → w.cell? ⟨g, o + k + i, none⟩ = some (.int .u8 ((l.drop k).getD i 0))) := Lib.hid (fun i hi => by
        have := HCe.out (k + i) (by omega)
        rw [← Nat.add_assoc] at this
        rw [this]
        simp [List.getD, List.getElem?_drop])
      clear hr5 hg5 hrX hcX hx' HRF HBy1 HL1 HC4 hBk HWX HCp HMn
      go_wp2_with fail
      go_meet
      case rel => exact ⟨A2, m - k, C - k, o + k, B ++ l.take k, l.drop k, _, x', rfl, HO5.out.1, HO5.out.2.1, HO5.out.2.2, HA2, HL5, HD5, HM5, HN5, HY5, HE5, HR5, HC5, HG5⟩
    case rest =>
      clear HR2 HC2 HG2 HA HBy HCe HCe2 HW ir wr z0 z1 z2 hne64
      obtain ⟨A1, m1, C1, o1, B1, l1, F2, x2, rfl, hm1, hC1, hbig1, HA1, HL1, HD1, HM1, HN1, HY1, HE1, HR1, HC1, HG1⟩ := hcut
      obtain ⟨v, hv⟩ : ∃ v, v = m1 - m1 % 64 := ⟨_, rfl⟩
      have v0 : (0 : Int) ≤ (v : Int) := by omega
      have v1 : (v : Int) ≤ (m1 : Int) := by omega
      have vw : IntKind.i64.wrap ((m1 : Int) - (m1 : Int) % 64) = (v : Int) := by simp [IntKind.wrap, IntKind.signed, IntKind.bits]; omega
      have vr : (m1 : Int) - (m1 : Int) % 64 = (v : Int) := by omega
      have HV := Lib.hid hv
      clear hv
      have hv64 : v / 64 = (m1 - m1 % 64) / 64 := by rw [HV.out]
      have hvm : m1 - v = m1 % 64 := by have := HV.out; omega
      have hvm2 : m1 - v < 64 := by omega
      have hvle : v ≤ m1 := by omega
      have hHlt1 := HR1.out.lt
      obtain ⟨A3, hA3⟩ : ∃ A3, A3 = (if C1 = v then A1 else Option.map (fun x : Addr => x.add v) A1) := ⟨_, rfl⟩
      have HA3 : Hid (0 < m1 - v → A3 = some ⟨g, o1 + v, none⟩) := Lib.hid (fun h => by
        rw [hA3, if_neg (by omega), HA1.out (by omega), Option.map_some, Addr.add_mid])
      have hcut3 := hA3.symm
      clear hA3
      have HMx := Lib.hid (mix_any H tH F2 (run B1) (run_ok B1) A1 g o1 v C1 (l1.take v) wc HR1.out HC1.out.st (by rw [List.length_take, HL1.out]; omega) (by omega) hC1 (by omega) (fun h => HA1.out (by omega)) (fun i hi => by
        have := HY1.out i (by omega)
        simpa [List.getD, hi] using this) (fun w' hg' hsm i hi => by
        rw [src_cell (grown_trans HG1.out hg') hg hgH, HE1.out i (by omega)]
        simp [List.getD, hi]))
      go_wp2_with fail
      refine HMx.out.mono ?_
      rintro e w5 ⟨rfl, hr5, hg5⟩
      have HR5 := Lib.hid hr5
      have HG5 := Lib.hid (grown_trans HG1.out hg5)
      have HC5 := Lib.hid (HC1.out.state (blocks kf (v / 64) (run B1) (l1.take v)))
      have hld : (l1.drop v).length = m1 - v := by rw [List.length_drop, HL1.out]
      have HCp := Lib.hid (Cp.mk' (w := w5.drew) (A := A3) (l := l1.drop v) (off := 8) (o := o1 + v) (k := m1 - v) (World.rowIs.drew HR5.out) (w0 := w) (grown_drewN HG5.out 1) hg hgH (by omega) hld HA3.out (fun i hi => by
        have := HE1.out (v + i) (by omega)
        rw [← Nat.add_assoc] at this
        rw [this]
        simp [List.getD, List.getElem?_drop]))
      have hlc : (bv (l1.drop v)).length = m1 - v := by rw [bv, List.length_map, hld]
      have HMn : Hid ((bv (l1.drop v)).length = Nat.min (m1 - v) 64) := Lib.hid (by rw [hlc]; show m1 - v = min (m1 - v) 64; omega)
      have HR6 := Lib.hid (row_lay (World.rowIs.drew HR5.out) 8 (bv (l1.drop v)))
      have HG6 := Lib.hid (grown_setCells (bv (l1.drop v)) 8 _ (grown_drewN HG5.out 1))
      have HC6 := Lib.hid (HC5.out.lay 0 (l1.drop v) (by omega))
      have HFin := Lib.hid (hs_end (F := layF (stF F2 (blocks kf (v / 64) (run B1) (l1.take v))) 8 (bv (l1.drop v))) (x := x2) HM1.out HL1.out HN1.out (by rw [← HV.out]; exact HC6.out))
      rw [HD1.out] at HFin
      clear hvm hv64 hr5 hg5 HMx HC6 HC5 HR5 HG5 hlc hld HR1 HC1 HG1
      generalize bv (l1.drop v) = CS at *
      go_wp2_with fail
      go_region_held3 (fun _ => True) (trivial) (first
        | (refine step_copy_mid rfl (.tmp 68) (.tmp 71) rfl (some ⟨H, 8, none⟩) A3 64 64 (m1 - v) (C1 - v) rfl rfl H 8 CS HMn.out HCp.out.pos HCp.out.here HCp.out.free HCp.out.one ?_))
      all_goals go_end0
      all_goals exact ⟨rfl, ⟨_, HR6.out, HFin.out⟩, HG6.out⟩
end Go.Proofs.Ytgmcdkkjemjneaa.Sm
