/- DeltaTurns: whatever the input, the law returns true, and each argument reads as it did before. No condition. -/
import Derived.Test.YtkelgaanehihbaaRows
import Derived.WalkKit
import Derived.ProofKit
import Derived.OpenShut
import Derived.ShutString
import Derived.SizedLaws
import Derived.Below
import Derived.Deep.QuietTactic
import Derived.BigQuiet
import Derived.RegionTactic
import Derived.BigRegion
import Derived.Outline
import Derived.Lib.Hide
import Derived.WalkSpells
import Derived.WalkLawsBesides
import Derived.Test.YtkelgaanehihbaaFrInts
import Derived.Test.YtkelgaanehihbaaDtOpen
namespace Go.Proofs.Ytkelgaanehihbaa.deltaTurns
open Go.ChangeShapes Go.WideShapes Go.ChangeAt Go.RowKit
open Go.ChangeMaps (open_string shut_string)
set_option linter.unusedVariables false

theorem own : ownKnob Try.prog.godebug = none := by kernel_rfl
theorem laidOut : laidOutB Try.prog = true := by kernel_rfl

theorem mk_len (z1 z2 : List Int) : 8 ≤ (Dt.mk z1 z2).length ∧ (Dt.mk z1 z2).length ≤ z2.length + 31 := by
  constructor
  · unfold Dt.mk Dt.mkW Dt.nb
    simp only [List.length_append, List.length_cons, List.length_nil]
    omega
  · exact Dt.mkW_len _ _ _ _

set_option maxRecDepth 100000 in
set_option maxHeartbeats 2000000 in
theorem walk_out (w : World) (v0 v1 : Option Addr) (l0 l1 l5 c0 c1 c5 : Nat) (v2 v3 : Value) (x : Int) (v5 : Option Addr) (h0 : l0 ≤ 140737488355328) (h1 : l1 ≤ 140737488355328) (h5 : l5 ≤ 140737488355328) (h : 5000 < l0 ∨ (l0 ≤ 5000 ∧ 5000 < l1) ∨ (l0 ≤ 5000 ∧ l1 ≤ 5000 ∧ 500 < l5)) :
    Calls Try.prog 4 #[.slice v0 l0 c0, .slice v1 l1 c1, v2, v3, .int .i64 x, .slice v5 l5 c5] w fun e w' => e = .returned (.bool true) ∧ Below w.heap.size w w' := by
  have HK := Lib.hid (Dt.known_any w)
  rcases h with h | ⟨ha, h⟩ | ⟨ha, hb, h⟩
  all_goals
    go_enter Try.func4, Try.ntmps4
    go_wp2_with fail
    refine HK.out.mono ?_
    rintro e w1 ⟨rfl, hb⟩
    have HB := Lib.hid hb
    clear hb
    go_wp2
    go_ret
    exact ⟨rfl, HB.out⟩

set_option maxRecDepth 100000 in
set_option maxHeartbeats 2000000 in
theorem walk (w : World) (a0 : Option Addr) (len0 cap0 : Nat) (z0 : List Int) (w0 : Fr.IsInts .u8 1 w a0 len0 cap0 z0) (a1 : Option Addr) (len1 cap1 : Nat) (z1 : List Int) (w1 : Fr.IsInts .u8 1 w a1 len1 cap1 z1) (a2 : Option Addr) (len2 cap2 : Nat) (z2 : List Int) (w2 : Fr.IsInts .i64 8 w a2 len2 cap2 z2) (a3 : Option Addr) (len3 cap3 : Nat) (z3 : List Int) (w3 : Fr.IsInts .u8 1 w a3 len3 cap3 z3) (a4 : Int) (w4 : (Lit.int .i64 a4).wf = true) (a5 : Option Addr) (len5 cap5 : Nat) (z5 : List Int) (w5 : Fr.IsInts .u8 1 w a5 len5 cap5 z5) :
    Calls Try.prog 4 #[.slice a0 len0 cap0, .slice a1 len1 cap1, .slice a2 len2 cap2, .slice a3 len3 cap3, .int .i64 a4, .slice a5 len5 cap5] w fun e w' => e = .returned (.bool true) ∧ Below w.heap.size w w' := by
  obtain ⟨s0, n0⟩ := Dt.sl_of_ints w0
  obtain ⟨s1, n1⟩ := Dt.sl_of_ints w1
  obtain ⟨s3, n3⟩ := Dt.sl_of_ints w3
  obtain ⟨s5, n5⟩ := Dt.sl_of_ints w5
  have i2 := Dt.int_cell w2
  have wb := Wi.wf_bounds w4
  by_cases hbig : 5000 < len0 ∨ (len0 ≤ 5000 ∧ 5000 < len1) ∨ (len0 ≤ 5000 ∧ len1 ≤ 5000 ∧ 500 < len5)
  · exact walk_out w a0 a1 len0 len1 len5 cap0 cap1 cap5 _ _ a4 a5 s0.hbig s1.hbig s5.hbig hbig
  have b0 : len0 ≤ 5000 := by omega
  have b1 : len1 ≤ 5000 := by omega
  have b5 : len5 ≤ 500 := by omega
  clear hbig
  have HK := Lib.hid (Dt.known_any w)
  have HS0 := Lib.hid s0; have HN0 := Lib.hid n0
  have HS1 := Lib.hid s1; have HN1 := Lib.hid n1
  have HS3 := Lib.hid s3; have HN3 := Lib.hid n3
  have HS5 := Lib.hid s5; have HN5 := Lib.hid n5
  have HI2 := Lib.hid i2.2.2
  have hi2 : len2 ≤ 17592186044416 := by have := i2.1; have := i2.2.1; omega
  have b3 := s3.hbig
  have hML := mk_len z0 z1
  rw [s1.hlen] at hML
  have hMB := Dt.mk_byte z0 z1 (by rw [s1.hlen]; exact s1.hbyte)
  have HMB := Lib.hid hMB
  clear s0 s1 s3 s5 n0 n1 n3 n5 w0 w1 w2 w3 w5 i2 hMB
  obtain ⟨i0, hi, hz0, hz1, hz2⟩ := info_parts Dt.info5
  go_enter Try.func4, Try.ntmps4
  go_wp2_with fail
  refine HK.out.mono ?_
  rintro e w1 ⟨rfl, hb⟩
  have hsz1 := hb.size
  have HB1 := Lib.hid hb
  clear hb HK
  go_wp2_with fail
  refine (Dt.rmake_any w.heap.size _ _ _ z0 _ _ _ z1 _ (HS0.out.kept HB1.out HN0.out) (HS1.out.kept HB1.out HN1.out) hsz1 HN1.out (by omega)).mono ?_
  rintro e w2 ⟨v2, rfl, ho2, hn2, hb2⟩
  rcases ho2.2 with ⟨h, _⟩ | ⟨g, C, cur, rfl, hg, _, hc1, hc2, _⟩
  · exact absurd h hn2
  have HO2 := Lib.hid ho2
  have HB2 := Lib.hid (HB1.out.trans hb2)
  unfold maxLen at hc2
  generalize hD0 : Dt.mk z0 z1 = D0 at *
  generalize hn : D0.length = n at *
  clear ho2 hb2 HB1 hn2 hsz1
  have hn8 : 8 ≤ n := hML.1
  have hn5k : n ≤ len1 + 31 := hML.2
  clear hML
  go_wp2
  have HD0 := Lib.hid hD0
  have HNN := Lib.hid hn
  clear hD0 hn
  go_loopw [14] (fun i wr => ∃ (k : Nat) (D : List Int), k ≤ 4 ∧ k ≤ len2 ∧ k ≤ len3 ∧ i = .int .i64 k ∧ Hid (wr.ownsRow w.heap.size 5 1 (.slice (some ⟨g, 0, none⟩) n C) n (Dt.bv D)) ∧ Hid (∀ y ∈ D, 0 ≤ y ∧ y ≤ 255) ∧ Hid (Below w.heap.size w wr)) (fun i _ => 4 - (intOf i).toNat)
  case atStart => exact ⟨0, D0, by omega, by omega, by omega, rfl, HO2, HMB, HB2⟩
  case round =>
    clear HO2 HMB HB2
    obtain ⟨k, D, hk4, hk2, hk3, rfl, HO, HMB, HB⟩ := hrel
    by_cases hgo : k < len2 ∧ k < len3 ∧ k < 4
    · obtain ⟨g2, g3, g4⟩ := hgo
      obtain ⟨x2, o2, rfl, q2, hx2, hl2, hh2⟩ := HI2.out k g2
      obtain ⟨x3, o3, rfl, q3⟩ := HS3.out.hcell k g3
      have hy3 := HS3.out.hbyte k g3
      have hx3 := HN3.out x3 o3 rfl (by omega)
      have q2' : wr.cell? ⟨x2, o2 + k, none⟩ = some (.int .i64 (z2.getD k 0)) := by rw [← q2]; exact HB.out.cell (p := ⟨x2, o2 + k, none⟩) hx2
      have q3' : wr.cell? ⟨x3, o3 + k, none⟩ = some (.int .u8 (z3.getD k 0)) := by rw [← q3]; exact HB.out.cell (p := ⟨x3, o3 + k, none⟩) hx3
      generalize z2.getD k 0 = y2 at *
      generalize z3.getD k 0 = y3 at *
      obtain ⟨r, hr, hrn⟩ : ∃ r : Nat, y2 % (n : Int) = (r : Int) ∧ r < n := ⟨(y2 % (n : Int)).toNat, by have := Int.emod_nonneg y2 (b := (n : Int)) (by omega); omega, by have := Int.emod_lt_of_pos y2 (b := (n : Int)) (by omega); have := Int.emod_nonneg y2 (b := (n : Int)) (by omega); omega⟩
      have HW : Hid (∀ W, Calls Try.prog 12 #[.int .i64 y2, .int .i64 n] W fun e w' => e = .returned (.int .i64 r) ∧ W = w') := Lib.hid (fun W => by have := Wi.within_any y2 n W (by omega) (by omega) hl2 hh2; rw [hr] at this; exact this)
      have hDl : D.length = n := by have := HO.out.1; simpa [Dt.bv] using this
      have q1 : wr.cell? ⟨g, r, none⟩ = some (.int .u8 (D.getD r 0)) := by rw [HO.out.cellAt r (by omega)]; simp [Dt.bv, hDl, hrn]
      have f1 : wr.frozen? ⟨g, r, none⟩ = false := HO.out.frozenAt r
      have hy1 : 0 ≤ D.getD r 0 ∧ D.getD r 0 ≤ 255 := HMB.out _ (by rw [List.getD_eq_getElem?_getD, List.getElem?_eq_getElem (by omega)]; exact List.getElem_mem _)
      have HDL := Lib.hid hDl
      generalize hd : D.getD r 0 = y1 at *
      clear hr q2 q3 hd hDl hl2 hh2
      go_wp2_with fail
      refine (HW.out _).mono ?_
      rintro e w' ⟨rfl, rfl⟩
      clear HW
      go_wp2
      go_region
      all_goals go_wp2
      have hst := HO.out.stored r (.int .u8 ((y1 + y3) % 256))
      have hsz := HB.out.size
      have HO3 : Hid ((wr.setCell ⟨g, r, none⟩ (.int .u8 ((y1 + y3) % 256))).drew.ownsRow w.heap.size 5 1 (.slice (some ⟨g, 0, none⟩) n C) n (Dt.bv (D.set r ((y1 + y3) % 256)))) := Lib.hid (by rw [show Dt.bv (D.set r ((y1 + y3) % 256)) = (Dt.bv D).set r (.int .u8 ((y1 + y3) % 256)) from by simp [Dt.bv, List.map_set]]; exact hst.1.drew)
      have HM3 : Hid (∀ y ∈ D.set r ((y1 + y3) % 256), 0 ≤ y ∧ y ≤ 255) := Lib.hid (fun y hy => by
        rcases List.mem_or_eq_of_mem_set hy with h | rfl
        · exact HMB.out y h
        · omega)
      have HB3 : Hid (Below w.heap.size w (wr.setCell ⟨g, r, none⟩ (.int .u8 ((y1 + y3) % 256))).drew) := Lib.hid (Dt.below_drewN (HB.out.setCell (p := ⟨g, r, none⟩) hg _) 1)
      clear hst HO HMB HB
      go_roundw
      case rel => exact ⟨k + 1, _, by omega, by omega, by omega, by go_num, HO3, HM3, HB3⟩
      case measure => simp [intOf]; omega
    · have hDl : D.length = n := by have := HO.out.1; simpa [Dt.bv] using this
      obtain ⟨r, hr, hrn⟩ : ∃ r : Nat, a4 % (n : Int) = (r : Int) ∧ r < n := ⟨(a4 % (n : Int)).toNat, by have := Int.emod_nonneg a4 (b := (n : Int)) (by omega); omega, by have := Int.emod_lt_of_pos a4 (b := (n : Int)) (by omega); have := Int.emod_nonneg a4 (b := (n : Int)) (by omega); omega⟩
      have HW : Hid (∀ W, Calls Try.prog 12 #[.int .i64 a4, .int .i64 n] W fun e w' => e = .returned (.int .i64 r) ∧ W = w') := Lib.hid (fun W => by have := Wi.within_any a4 n W (by omega) (by omega) wb.1 wb.2; rw [hr] at this; exact this)
      clear hr
      have HDL := Lib.hid hDl
      clear hDl
      have HD3 := Lib.hid (Dt.own_take HO.out (n - r) (by omega))
      have HB3 := Lib.hid (show ∀ y ∈ D.take (n - r) ++ z5, 0 ≤ y ∧ y ≤ 255 from fun y hy => by
        rcases List.mem_append.1 hy with h | h
        · exact HMB.out y (List.mem_of_mem_take h)
        · obtain ⟨j, hj, rfl⟩ := List.getElem_of_mem h
          have hj5 : j < len5 := by rw [← HS5.out.hlen]; exact hj
          have := HS5.out.hbyte j hj5
          simpa [List.getD, hj] using this)
      have hsz := HB.out.size
      rcases (show (¬ k < len2) ∨ (k < len2 ∧ ¬ k < len3) ∨ (k < len2 ∧ k < len3 ∧ 4 ≤ k) from by omega) with h2 | ⟨h2, h3⟩ | ⟨h2, h3, h4⟩
      all_goals
        clear hgo
        cases a5 with
        | none =>
          obtain rfl : len5 = 0 := by have := HS5.out.hnone rfl; have := HS5.out.hcap; omega
          obtain rfl : z5 = [] := List.eq_nil_of_length_eq_zero HS5.out.hlen
          obtain rfl : cap5 = 0 := HS5.out.hnone rfl
          go_wp2_with fail
          refine (HW.out _).mono ?_
          rintro e w' ⟨rfl, rfl⟩
          clear HW
          have HB3' : Hid (∀ y ∈ D.take (n - r), 0 ≤ y ∧ y ≤ 255) := Lib.hid (fun y hy => HB3.out y (List.mem_append_left _ hy))
          have HD3' : Hid (wr.ownsRow w.heap.size 5 1 (.slice (some ⟨g, 0, none⟩) (n - r) C) (n - r) (Dt.bv (D.take (n - r)))) := Lib.hid (by have := HD3.out; rwa [show (Dt.bv D).take (n - r) = Dt.bv (D.take (n - r)) from by simp [Dt.bv]] at this)
          have hszF := HB.out.size
          have hsl := (Dt.own_sl HD3'.out (Dt.getD_byte HB3'.out) (by omega)).1
          have HSL := Lib.hid hsl
          have HLT := Lib.hid (Dt.own_lt HD3'.out)
          clear hsl
          go_wp2_with fail
          refine (Dt.apply_any wr.heap.size _ _ _ z0 _ _ _ _ _ (HS0.out.kept HB.out HN0.out) HSL.out (Nat.le_refl _) (fun b off he hl => by have := HN0.out b off he hl; omega) (fun b off he _ => HLT.out b off he)).mono ?_
          rintro e w5 ⟨v5, rfl, ho5, hb5⟩
          have hsz5 := hb5.size
          have HO5 := Lib.hid ho5
          have HB5 := Lib.hid hb5
          clear ho5 hb5
          go_wp2_with fail
          refine (Dt.rapply_any w5.heap.size _ _ _ z0 _ _ _ _ _ (HS0.out.kept (HB.out.trans (HB5.out.mono hszF)) HN0.out) (HSL.out.kept HB5.out (fun b off he _ => HLT.out b off he)) (Nat.le_refl _) (fun b off he hl => by have := HN0.out b off he hl; omega) (fun b off he _ => by have := HLT.out b off he; omega)).mono ?_
          rintro e w6 ⟨v6, rfl, ho6, hb6⟩
          have ho5 := Dt.own_later HO5.out hb6
          have HB6 := Lib.hid ((HB.out.trans (HB5.out.mono hszF)).trans (hb6.mono (by omega)))
          clear hb6
          generalize Dt.ap z0 _ = res at *
          obtain ⟨A5, C5, hv5, -, -, -⟩ := Dt.own_shape ho5
          subst hv5
          obtain ⟨A6, C6, hv6, -, -, -⟩ := Dt.own_shape ho6
          subst hv6
          have cv5 := Dt.conv_own ho5
          have cv6 := Dt.conv_own ho6
          clear ho5 ho6 HO5 HB5 HSL HLT
          obtain ⟨r1, r2⟩ := res
          have hq : ((Dt.sb r1).toList == (Dt.sb r1).toList) = true := by simp
          go_wp2
          go_ret
          exact ⟨Dt.ret_bool (by simp), HB6.out⟩
        | some x5 =>
          obtain ⟨x5b, x5o, x5s⟩ := x5
          by_cases hz5 : len5 = 0
          · subst hz5
            obtain rfl : z5 = [] := List.eq_nil_of_length_eq_zero HS5.out.hlen
            have HB3' : Hid (∀ y ∈ D.take (n - r), 0 ≤ y ∧ y ≤ 255) := Lib.hid (fun y hy => HB3.out y (List.mem_append_left _ hy))
            have HNW := Lib.hid (show ∀ j u, (Dt.bv [])[j]? = some u → wr.cell? (Addr.add ⟨x5b, x5o, x5s⟩ j) = some u from fun j u h => by simp [Dt.bv] at h)
            go_wp2_with fail
            refine (HW.out _).mono ?_
            rintro e w' ⟨rfl, rfl⟩
            clear HW
            go_wp2_with (at_builtin; refine wpList_append_own _ rfl _ _ 22 rfl w.heap.size 5 i0 (.int .u8 0) 1 1 Try.underlying22 hi hz0 hz1 hz2 rfl (by decide) _ _ _ rfl HD3.out ⟨x5b, x5o, x5s⟩ 0 cap5 (Dt.bv []) rfl ?c1 HNW.out (Dt.bv_one _) ?c3 ?c4 ?c5 ?_)
            case c1 => rfl
            case c3 => unfold maxLen; omega
            case c4 => omega
            case c5 => omega
            intro v4 w4 ho hg4 hn4
            obtain ⟨A4, C4, hv4, -, -, -⟩ := Dt.own_shape ho
            subst hv4
            have HD4 : Hid (w4.ownsRow w.heap.size 5 1 (.slice A4 (n - r) C4) (n - r) (Dt.bv (D.take (n - r)))) := Lib.hid (Dt.own_eq ho (by simp [Dt.bv]) (by omega))
            have HB4 := Lib.hid (HB.out.trans (Dt.below_grown hsz HD3.out hg4))
            clear ho hg4 hn4 HNW HD3
            have hszF := HB4.out.size
            have hsl := (Dt.own_sl HD4.out (Dt.getD_byte HB3'.out) (by omega)).1
            have HSL := Lib.hid hsl
            have HLT := Lib.hid (Dt.own_lt HD4.out)
            clear hsl
            go_wp2_with fail
            refine (Dt.apply_any w4.heap.size _ _ _ z0 _ _ _ _ _ (HS0.out.kept HB4.out HN0.out) HSL.out (Nat.le_refl _) (fun b off he hl => by have := HN0.out b off he hl; omega) (fun b off he _ => HLT.out b off he)).mono ?_
            rintro e w5 ⟨v5, rfl, ho5, hb5⟩
            have hsz5 := hb5.size
            have HO5 := Lib.hid ho5
            have HB5 := Lib.hid hb5
            clear ho5 hb5
            go_wp2_with fail
            refine (Dt.rapply_any w5.heap.size _ _ _ z0 _ _ _ _ _ (HS0.out.kept (HB4.out.trans (HB5.out.mono hszF)) HN0.out) (HSL.out.kept HB5.out (fun b off he _ => HLT.out b off he)) (Nat.le_refl _) (fun b off he hl => by have := HN0.out b off he hl; omega) (fun b off he _ => by have := HLT.out b off he; omega)).mono ?_
            rintro e w6 ⟨v6, rfl, ho6, hb6⟩
            have ho5 := Dt.own_later HO5.out hb6
            have HB6 := Lib.hid ((HB4.out.trans (HB5.out.mono hszF)).trans (hb6.mono (by omega)))
            clear hb6
            generalize Dt.ap z0 _ = res at *
            obtain ⟨A5, C5, hv5, -, -, -⟩ := Dt.own_shape ho5
            subst hv5
            obtain ⟨A6, C6, hv6, -, -, -⟩ := Dt.own_shape ho6
            subst hv6
            have cv5 := Dt.conv_own ho5
            have cv6 := Dt.conv_own ho6
            clear ho5 ho6 HO5 HB5 HSL HLT
            obtain ⟨r1, r2⟩ := res
            have hq : ((Dt.sb r1).toList == (Dt.sb r1).toList) = true := by simp
            go_wp2
            go_ret
            exact ⟨Dt.ret_bool (by simp), HB6.out⟩
          obtain ⟨b', o', he', -⟩ := HS5.out.hcell 0 (by omega)
          simp only [Option.some.injEq, Addr.mk.injEq] at he'
          obtain ⟨rfl, rfl, rfl⟩ := he'
          have HNW := Lib.hid (Dt.piece_cells HS5.out HN5.out HB.out 0 len5 (by omega))
          rw [List.drop_zero, List.take_of_length_le (by rw [HS5.out.hlen]; omega), Nat.add_zero] at HNW
          go_wp2_with fail
          refine (HW.out _).mono ?_
          rintro e w' ⟨rfl, rfl⟩
          clear HW
          go_wp2_with (at_builtin; refine wpList_append_own _ rfl _ _ 22 rfl w.heap.size 5 i0 (.int .u8 0) 1 1 Try.underlying22 hi hz0 hz1 hz2 rfl (by decide) _ _ _ rfl HD3.out ⟨x5b, x5o, none⟩ len5 cap5 (Dt.bv z5) rfl ?c1 HNW.out (Dt.bv_one _) ?c3 ?c4 ?c5 ?_)
          case c1 => rw [Dt.bv, List.length_map, HS5.out.hlen]; omega
          case c3 => unfold maxLen; omega
          case c4 => omega
          case c5 => omega
          intro v4 w4 ho hg4 hn4
          obtain ⟨A4, C4, hv4, -, -, -⟩ := Dt.own_shape ho
          subst hv4
          have HD4 : Hid (w4.ownsRow w.heap.size 5 1 (.slice A4 (n - r + len5) C4) (n - r + len5) (Dt.bv (D.take (n - r) ++ z5))) := Lib.hid (Dt.own_eq ho (by simp [Dt.bv]) rfl)
          have HB4 := Lib.hid (HB.out.trans (Dt.below_grown hsz HD3.out hg4))
          clear ho hg4 hn4 HNW HD3
          have hszF := HB4.out.size
          have hsl := (Dt.own_sl HD4.out (Dt.getD_byte HB3.out) (by omega)).1
          have HSL := Lib.hid hsl
          have HLT := Lib.hid (Dt.own_lt HD4.out)
          clear hsl
          go_wp2_with fail
          refine (Dt.apply_any w4.heap.size _ _ _ z0 _ _ _ _ _ (HS0.out.kept HB4.out HN0.out) HSL.out (Nat.le_refl _) (fun b off he hl => by have := HN0.out b off he hl; omega) (fun b off he _ => HLT.out b off he)).mono ?_
          rintro e w5 ⟨v5, rfl, ho5, hb5⟩
          have hsz5 := hb5.size
          have HO5 := Lib.hid ho5
          have HB5 := Lib.hid hb5
          clear ho5 hb5
          go_wp2_with fail
          refine (Dt.rapply_any w5.heap.size _ _ _ z0 _ _ _ _ _ (HS0.out.kept (HB4.out.trans (HB5.out.mono hszF)) HN0.out) (HSL.out.kept HB5.out (fun b off he _ => HLT.out b off he)) (Nat.le_refl _) (fun b off he hl => by have := HN0.out b off he hl; omega) (fun b off he _ => by have := HLT.out b off he; omega)).mono ?_
          rintro e w6 ⟨v6, rfl, ho6, hb6⟩
          have ho5 := Dt.own_later HO5.out hb6
          have HB6 := Lib.hid ((HB4.out.trans (HB5.out.mono hszF)).trans (hb6.mono (by omega)))
          clear hb6
          generalize Dt.ap z0 _ = res at *
          obtain ⟨A5, C5, hv5, -, -, -⟩ := Dt.own_shape ho5
          subst hv5
          obtain ⟨A6, C6, hv6, -, -, -⟩ := Dt.own_shape ho6
          subst hv6
          have cv5 := Dt.conv_own ho5
          have cv6 := Dt.conv_own ho6
          clear ho5 ho6 HO5 HB5 HSL HLT
          obtain ⟨r1, r2⟩ := res
          have hq : ((Dt.sb r1).toList == (Dt.sb r1).toList) = true := by simp
          go_wp2
          go_ret
          exact ⟨Dt.ret_bool (by simp), HB6.out⟩

set_option maxRecDepth 100000 in
theorem lifted (os : Os) (started : os.Started) (H : Type) (enc : TypeId × Value → H) :
    ReturnsInHanded {} Try.checked os 4 .any (Rows.deltaTurnsSpec.pre6 enc Try.prog Try.f4 Rows.deltaTurnsRow.domain false) (Rows.deltaTurnsSpec.post enc Try.prog Try.f4 false true false false) := by
  refine returnsInHanded_of_change_sized (C := Try.checked) own started (by kernel_rfl) Try.func4
    (ChangeSpec.witness6 (enc := enc) (C := Try.checked) false ⟨#[], #[.slice none 0 0, .slice none 0 0, .slice none 0 0, .slice none 0 0, .int .i64 0, .slice none 0 0], []⟩ 8 (by kernel_rfl) (by kernel_rfl) (by kernel_rfl) (by kernel_rfl)) ?_
  intro W base args ds gs before hval0 hW _ hsz0 _
  have hsz : (DataW.weightsEach Try.prog (Try.f4.params.toList ++ Rows.deltaTurnsSpec.plain.varTypes Try.prog) (ds ++ gs)).all (· ≤ reachBytes) = true := hsz0
  clear hsz0
  have hval : ∀ (j : Nat) t v, Try.f4.params[j]? = some t → args[j]? = some v → Value.okWide Try.prog W .any base t v := hval0
  have hW' := hW
  obtain ⟨p, q, hA0, hV, rfl, _, _⟩ := hW
  have hA : DataW.TrodAll enc Try.prog W 0 (fun _ => true) true Try.f4.params.toList args.toList ds p := hA0
  rw [Try.params4] at hA hval hsz
  obtain ⟨v0, vs0, d0, ds0, p0, q0, hargs, rfl, rfl, h0, r0⟩ := trodAll_cons hA
  obtain ⟨v1, vs1, d1, ds1, p1, q1, rfl, rfl, rfl, h1, r1⟩ := trodAll_cons r0
  obtain ⟨v2, vs2, d2, ds2, p2, q2, rfl, rfl, rfl, h2, r2⟩ := trodAll_cons r1
  obtain ⟨v3, vs3, d3, ds3, p3, q3, rfl, rfl, rfl, h3, r3⟩ := trodAll_cons r2
  obtain ⟨v4, vs4, d4, ds4, p4, q4, rfl, rfl, rfl, h4, r4⟩ := trodAll_cons r3
  obtain ⟨v5, vs5, d5, ds5, p5, q5, rfl, rfl, rfl, h5, r5⟩ := trodAll_cons r4
  obtain ⟨rfl, rfl, rfl⟩ := trodAll_nil r5
  obtain rfl : args = #[v0, v1, v2, v3, v4, v5] := by cases args; simp_all
  obtain ⟨rfl, rfl⟩ := trodVars_none hV
  have k0 := h0
  have lt0 : ∀ x ∈ p0, x.block < W.heap.size := by obtain ⟨m, hm⟩ := k0; exact DataW.trod_lt m _ _ _ hm
  have k1 := h1
  have lt1 : ∀ x ∈ p1, x.block < W.heap.size := by obtain ⟨m, hm⟩ := k1; exact DataW.trod_lt m _ _ _ hm
  have k2 := h2
  have lt2 : ∀ x ∈ p2, x.block < W.heap.size := by obtain ⟨m, hm⟩ := k2; exact DataW.trod_lt m _ _ _ hm
  have k3 := h3
  have lt3 : ∀ x ∈ p3, x.block < W.heap.size := by obtain ⟨m, hm⟩ := k3; exact DataW.trod_lt m _ _ _ hm
  have k4 := h4
  have lt4 : ∀ x ∈ p4, x.block < W.heap.size := by obtain ⟨m, hm⟩ := k4; exact DataW.trod_lt m _ _ _ hm
  have k5 := h5
  have lt5 : ∀ x ∈ p5, x.block < W.heap.size := by obtain ⟨m, hm⟩ := k5; exact DataW.trod_lt m _ _ _ hm
  obtain ⟨a0, len0, cap0, rfl⟩ := okWide_slice Try.underlying22 (hval 0 22 v0 rfl rfl)
  obtain ⟨z0, w0⟩ := Fr.isInts_of (b := 1) Try.underlying22 Try.underlying5 (by kernel_rfl) (by kernel_rfl) hsz (j := 0) rfl rfl h0
  obtain ⟨a1, len1, cap1, rfl⟩ := okWide_slice Try.underlying22 (hval 1 22 v1 rfl rfl)
  obtain ⟨z1, w1⟩ := Fr.isInts_of (b := 1) Try.underlying22 Try.underlying5 (by kernel_rfl) (by kernel_rfl) hsz (j := 1) rfl rfl h1
  obtain ⟨a2, len2, cap2, rfl⟩ := okWide_slice Try.underlying31 (hval 2 31 v2 rfl rfl)
  obtain ⟨z2, w2⟩ := Fr.isInts_of (b := 8) Try.underlying31 Try.underlying3 (by kernel_rfl) (by kernel_rfl) hsz (j := 2) rfl rfl h2
  obtain ⟨a3, len3, cap3, rfl⟩ := okWide_slice Try.underlying22 (hval 3 22 v3 rfl rfl)
  obtain ⟨z3, w3⟩ := Fr.isInts_of (b := 1) Try.underlying22 Try.underlying5 (by kernel_rfl) (by kernel_rfl) hsz (j := 3) rfl rfl h3
  obtain ⟨a4, rfl, rfl, rfl, w4⟩ := open_int Try.underlying3 (hval 4 3 v4 rfl rfl) h4
  obtain ⟨a5, len5, cap5, rfl⟩ := okWide_slice Try.underlying22 (hval 5 22 v5 rfl rfl)
  obtain ⟨z5, w5⟩ := Fr.isInts_of (b := 1) Try.underlying22 Try.underlying5 (by kernel_rfl) (by kernel_rfl) hsz (j := 5) rfl rfl h5
  clear hA0 hval0
  simp only [List.append_nil] at hW'
  refine (walk W a0 len0 cap0 z0 w0 a1 len1 cap1 z1 w1 a2 len2 cap2 z2 w2 a3 len3 cap3 z3 w3 a4 w4 a5 len5 cap5 z5 w5).mono fun e W' ⟨he, bel⟩ => ?_
  subst he
  exact ⟨_, rfl, _, _, _, [], _, [], hW', trodAll_mk1 (shut_bool Try.underlying4 _), (trodAll_cons_mk (Below.trod laidOut (by kernel_rfl) (of_decide_eq_true (by kernel_rfl)) k0 bel lt0) (trodAll_cons_mk (Below.trod laidOut (by kernel_rfl) (of_decide_eq_true (by kernel_rfl)) k1 bel lt1) (trodAll_cons_mk (Below.trod laidOut (by kernel_rfl) (of_decide_eq_true (by kernel_rfl)) k2 bel lt2) (trodAll_cons_mk (Below.trod laidOut (by kernel_rfl) (of_decide_eq_true (by kernel_rfl)) k3 bel lt3) (trodAll_cons_mk (Below.trod laidOut (by kernel_rfl) (of_decide_eq_true (by kernel_rfl)) k4 bel lt4) (trodAll_cons_mk (Below.trod laidOut (by kernel_rfl) (of_decide_eq_true (by kernel_rfl)) k5 bel lt5) trodAll_mk0)))))), rfl, bel.frame _, fun h => by cases h⟩

theorem over : Rows.deltaTurnsRow.holds Try.pinned (OpenSpec.ofChange Rows.deltaTurnsSpec) :=
  OpenClaim.holds_of_wide 4 Try.f4 rfl rfl rfl rfl rfl rfl rfl ⟨rfl, rfl, rfl, rfl, rfl⟩ rfl rfl rfl rfl rfl (by kernel_rfl) Try.func4 (by kernel_rfl)
    (of_decide_eq_true (by kernel_rfl)) (by unfold Func.isWrapper; first | (rw [if_pos (by decide +kernel)]; kernel_rfl) | (rw [if_neg (by decide +kernel)]; exact ⟨rfl, rfl⟩))
    (fun os started H enc _ => lifted os started H enc)

/-- The statement. -/
theorem proved : Rows.DeltaTurnsSaid := over
#print axioms proved
end Go.Proofs.Ytkelgaanehihbaa.deltaTurns
