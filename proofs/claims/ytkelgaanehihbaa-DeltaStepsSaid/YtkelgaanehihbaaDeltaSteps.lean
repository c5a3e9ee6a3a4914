/- DeltaSteps: whatever the input, the law returns true, and each argument reads as it did before. No condition. -/
import Derived.Test.YtkelgaanehihbaaRows
import Derived.WalkKit
import Derived.ProofKit
import Derived.OpenShut
import Derived.ShutString
import Derived.SizedLaws
import Derived.Below
import Derived.Deep.QuietTactic
import Derived.BigQuiet
import Derived.RegionTactic
import Derived.BigRegion
import Derived.Outline
import Derived.Deep.RegionLaw
import Derived.Deep.RegionHeld3
import Derived.Lib.Hide
import Derived.WalkSpells
import Derived.WalkLawsBesides
import Derived.Test.YtkelgaanehihbaaFrInts
import Derived.Test.YtkelgaanehihbaaDtSteps
namespace Go.Proofs.Ytkelgaanehihbaa.deltaSteps
open Go.ChangeShapes Go.WideShapes Go.ChangeAt Go.RowKit
open Go.ChangeMaps (open_string shut_string)
set_option linter.unusedVariables false

theorem own : ownKnob Try.prog.godebug = none := by kernel_rfl
theorem laidOut : laidOutB Try.prog = true := by kernel_rfl

set_option maxRecDepth 100000 in
set_option maxHeartbeats 2000000 in
theorem walk_out (w : World) (v0 v1 v2 : Option Addr) (l0 l1 l2 c0 c1 c2 : Nat) (h0 : l0 ≤ 140737488355328) (h1 : l1 ≤ 140737488355328) (h2 : l2 ≤ 140737488355328) (h : 2000 < l0 ∨ l0 = 0 ∨ (l0 ≤ 2000 ∧ 0 < l0 ∧ 2000 < l2)) :
    Calls Try.prog 6 #[.slice v0 l0 c0, .slice v1 l1 c1, .slice v2 l2 c2] w fun e w' => e = .returned (.bool true) ∧ Below w.heap.size w w' := by
  have HK := Lib.hid (Dt.known_any w)
  rcases h with h | rfl | ⟨ha, hb, h⟩
  all_goals
    go_enter Try.func6, Try.ntmps6
    go_wp2_with fail
    refine HK.out.mono ?_
    rintro e w1 ⟨rfl, hb⟩
    have HB := Lib.hid hb
    clear hb
    go_wp2
    go_ret
    exact ⟨rfl, HB.out⟩
theorem td_bound (y : Int) (c : Int) (hc : 2 ≤ c) (h1 : -9223372036854775808 ≤ y) (h2 : y ≤ 9223372036854775807) : -9223372036854775808 ≤ y.tdiv c ∧ y.tdiv c ≤ 9223372036854775807 := by
  have h : (y.tdiv c).natAbs = y.natAbs / c.natAbs := Int.natAbs_tdiv y c
  have hd2 : (y.natAbs / c.natAbs) ≤ y.natAbs / 2 := Nat.div_le_div_left (by omega) (by decide)
  generalize y.natAbs / c.natAbs = dd at *
  generalize y.tdiv c = t at *
  omega


set_option maxRecDepth 100000 in
set_option maxHeartbeats 2000000 in
theorem walk (w : World) (a0 : Option Addr) (len0 cap0 : Nat) (z0 : List Int) (w0 : Fr.IsInts .u8 1 w a0 len0 cap0 z0) (a1 : Option Addr) (len1 cap1 : Nat) (z1 : List Int) (w1 : Fr.IsInts .i64 8 w a1 len1 cap1 z1) (a2 : Option Addr) (len2 cap2 : Nat) (z2 : List Int) (w2 : Fr.IsInts .u8 1 w a2 len2 cap2 z2) :
    Calls Try.prog 6 #[.slice a0 len0 cap0, .slice a1 len1 cap1, .slice a2 len2 cap2] w fun e w' => e = .returned (.bool true) ∧ Below w.heap.size w w' := by
  obtain ⟨s0, n0⟩ := Dt.sl_of_ints w0
  obtain ⟨s2, n2⟩ := Dt.sl_of_ints w2
  have i1 := Dt.int_cell w1
  by_cases hbig : 2000 < len0 ∨ len0 = 0 ∨ (len0 ≤ 2000 ∧ 0 < len0 ∧ 2000 < len2)
  · exact walk_out w a0 a1 a2 len0 len1 len2 cap0 cap1 cap2 s0.hbig (by have := i1.1; have := i1.2.1; omega) s2.hbig hbig
  have b0 : len0 ≤ 2000 := by omega
  have b0' : 0 < len0 := by omega
  have b2 : len2 ≤ 2000 := by omega
  clear hbig
  have hb1 : len1 ≤ 17592186044416 := by have := i1.1; have := i1.2.1; omega
  have HK := Lib.hid (Dt.known_any w)
  have HS0 := Lib.hid s0; have HN0 := Lib.hid n0
  have HS2 := Lib.hid s2; have HN2 := Lib.hid n2
  have HI1 := Lib.hid i1.2.2
  have hc0 := s0.hcap
  have hc2 := s2.hcap
  have HZ0 := Lib.hid s0.hlen
  have HZ2 := Lib.hid s2.hlen
  clear s0 s2 n0 n2 w0 w1 w2 i1
  have hz : ((len0 : Int) == 0) = false := by simp; omega
  go_enter Try.func6, Try.ntmps6
  go_wp2_with fail
  refine HK.out.mono ?_
  rintro e w1 ⟨rfl, hb⟩
  have hsz1 := hb.size
  have HB1 := Lib.hid hb
  clear hb HK
  go_wp2
  go_loopw [7, 8, 9] (fun s7 s8 s9 wr => ∃ (k : Nat) (Wl Bd : List Int) (nw nb : Nat) (A7 A8 : Option Addr) (C7 C8 : Nat), k ≤ 20 ∧ k ≤ len1 ∧ nw ≤ k * 2000 ∧ nb ≤ k * 2009 ∧ s7 = .slice A7 nw C7 ∧ s8 = .slice A8 nb C8 ∧ s9 = .int .i64 k ∧ Hid (Dt.Two wr w.heap.size (.slice A7 nw C7) nw Wl (.slice A8 nb C8) nb Bd) ∧ Hid (Below w.heap.size w wr) ∧ Hid (Dt.SOk z0 Bd Wl) ∧ Hid (Wl.length = nw ∧ ∀ y ∈ Bd, 0 ≤ y ∧ y ≤ 255)) (fun _ _ i _ => 20 - (intOf i).toNat)
  case atStart => exact ⟨0, [], [], 0, 0, none, none, 0, 0, by omega, by omega, by omega, by omega, rfl, rfl, rfl, Lib.hid (Dt.Two.nil w1 _), HB1, Lib.hid (Dt.SOk.nil z0), Lib.hid ⟨rfl, fun y hy => by simp at hy⟩⟩
  case round =>
    obtain ⟨k, Wl, Bd, nw, nb, A7, A8, C7, C8, hk, hk1, hwl, hbl, rfl, rfl, rfl, HTW, HB, HSO, HBY⟩ := hrel
    have hsw := HB.out.size
    by_cases hgo : k < len1 ∧ k < 20
    · obtain ⟨g1, g2⟩ := hgo
      obtain ⟨x1, o1, rfl, q1, hx1, hl1, hh1⟩ := HI1.out k g1
      have q1' : wr.cell? ⟨x1, o1 + k, none⟩ = some (.int .i64 (z1.getD k 0)) := by rw [← q1]; exact HB.out.cell (p := ⟨x1, o1 + k, none⟩) hx1
      generalize z1.getD k 0 = y at *
      clear q1
      have t2 := td_bound y 2 (by decide) hl1 hh1
      have t7 := td_bound y 7 (by decide) hl1 hh1
      obtain ⟨r, hr, hrn⟩ : ∃ r : Nat, y.tdiv 2 % (len0 : Int) = (r : Int) ∧ r < len0 := ⟨(y.tdiv 2 % (len0 : Int)).toNat, by have := Int.emod_nonneg (y.tdiv 2) (b := (len0 : Int)) (by omega); omega, by have := Int.emod_lt_of_pos (y.tdiv 2) (b := (len0 : Int)) (by omega); have := Int.emod_nonneg (y.tdiv 2) (b := (len0 : Int)) (by omega); omega⟩
      have HW1 : Hid (∀ W, Calls Try.prog 12 #[.int .i64 (y.tdiv 2), .int .i64 len0] W fun e w' => e = .returned (.int .i64 r) ∧ W = w') := Lib.hid (fun W => by have := Wi.within_any (y.tdiv 2) len0 W (by omega) (by omega) t2.1 t2.2; rw [hr] at this; exact this)
      clear hr
      obtain ⟨q, hq, hqn⟩ : ∃ q : Nat, y.tdiv 7 % ((len0 : Int) - (r : Int)) = (q : Int) ∧ r + q < len0 := ⟨(y.tdiv 7 % ((len0 : Int) - (r : Int))).toNat, by have := Int.emod_nonneg (y.tdiv 7) (b := ((len0 : Int) - (r : Int))) (by omega); omega, by have := Int.emod_lt_of_pos (y.tdiv 7) (b := ((len0 : Int) - (r : Int))) (by omega); have := Int.emod_nonneg (y.tdiv 7) (b := ((len0 : Int) - (r : Int))) (by omega); omega⟩
      have HW2 : Hid (∀ W, Calls Try.prog 12 #[.int .i64 (y.tdiv 7), .int .i64 ((len0 : Int) - (r : Int))] W fun e w' => e = .returned (.int .i64 q) ∧ W = w') := Lib.hid (fun W => by have := Wi.within_any (y.tdiv 7) ((len0 : Int) - (r : Int)) W (by omega) (by omega) t7.1 t7.2; rw [hq] at this; exact this)
      clear hq t2 t7
      rcases (show ((y.tmod 2 == 0) = true) ∨ ((y.tmod 2 == 0) = false ∧ len2 = 0) ∨ ((y.tmod 2 == 0) = false ∧ ¬ len2 = 0) from by cases h : (y.tmod 2 == 0) <;> simp <;> omega) with he | ⟨he, hl⟩ | ⟨he, hl⟩
      · have hnz : y.tmod 2 = 0 := by simpa using he
        go_wp2_with fail
        refine (HW1.out _).mono ?_
        rintro e w' ⟨rfl, rfl⟩
        clear HW1
        go_wp2_with fail
        refine (HW2.out _).mono ?_
        rintro e w' ⟨rfl, rfl⟩
        clear HW2
        have HL := Lib.hid (Dt.sl_mark wr [1, 0, 0, (r : Int) / 256, (r : Int) % 256, 0, 0, (1 + (q : Int)) / 256, (1 + (q : Int)) % 256] 5 (0, 0) 9 rfl (by omega) (by
          intro i hi
          have hi : i < 9 := hi
          match i, hi with
          | 0, _ | 1, _ | 2, _ | 3, _ | 4, _ | 5, _ | 6, _ | 7, _ | 8, _ => simp [List.getD] <;> omega))
        have HTA := Lib.hid (HTW.out.alloc (.cells (Dt.bv [1, 0, 0, (r : Int) / 256, (r : Int) % 256, 0, 0, (1 + (q : Int)) / 256, (1 + (q : Int)) % 256]).toArray 5)).swap
        have HBA := Lib.hid (HB.out.alloc hsw (.cells (Dt.bv [1, 0, 0, (r : Int) / 256, (r : Int) % 256, 0, 0, (1 + (q : Int)) / 256, (1 + (q : Int)) % 256]).toArray 5))
        have hswa := HBA.out.size
        have HSO2 := Lib.hid (HSO.out.copy r (q + 1) (by omega) (by have := HZ0.out; omega) (by have := HZ0.out; omega) [1, 0, 0, (r : Int) / 256, (r : Int) % 256, 0, 0, (1 + (q : Int)) / 256, (1 + (q : Int)) % 256] (by
          rw [Dt.nb_small (r : Int) (by omega) (by omega), Dt.nb_small ((q + 1 : Nat) : Int) (by omega) (by omega)]
          have e1 : (r : Int) / 256 % 256 = (r : Int) / 256 := by omega
          have e2 : ((q + 1 : Nat) : Int) / 256 % 256 = (1 + (q : Int)) / 256 := by omega
          have e3 : ((q + 1 : Nat) : Int) % 256 = (1 + (q : Int)) % 256 := by omega
          rw [e1, e2, e3]
          rfl) _ rfl)
        go_wp2_with (at_builtin; refine Dt.wpList_append_two _ rfl (.tmp 71) (.tmp 82) rfl w.heap.size _ nb Bd _ nw Wl rfl HTA.out (some ⟨wr.heap.size, 0, none⟩) 9 9 [1, 0, 0, (r : Int) / 256, (r : Int) % 256, 0, 0, (1 + (q : Int)) / 256, (1 + (q : Int)) % 256] rfl HL.out (nb + 9) rfl _ rfl (by omega) hswa ?_)
        intro A5 C5 w5 ho5 hb5
        have HT5 := Lib.hid ho5.swap
        have HB5 := Lib.hid (HBA.out.trans hb5)
        clear ho5 hb5 HL HTA HBA hswa
        have hsw5 := HB5.out.size
        have HSB : Hid (Dt.Sl w5 (Option.map (fun x => x.add r) a0) (1 + q) (cap0 - r) ((z0.drop r).take (q + 1))) := Lib.hid (by
          have h := (HS0.out.kept HB5.out HN0.out).drop r (by omega)
          rw [if_neg (by omega)] at h
          rw [Nat.add_comm q 1]
          exact h.take (1 + q) (by omega))
        go_wp2_with (at_builtin; refine Dt.wpList_append_two w5 rfl (.tmp 84) (.tmp 90) rfl w.heap.size (.slice A7 nw C7) nw Wl (.slice A5 (nb + 9) C5) (nb + 9) (Bd ++ [1, 0, 0, (r : Int) / 256, (r : Int) % 256, 0, 0, (1 + (q : Int)) / 256, (1 + (q : Int)) % 256]) rfl HT5.out (Option.map (fun x => x.add r) a0) (1 + q) (cap0 - r) ((z0.drop r).take (q + 1)) ?hx HSB.out (nw + (1 + q)) rfl (Wl ++ (z0.drop r).take (q + 1)) rfl (by omega) hsw5 ?_)
        case hx =>
          show Value.slice _ _ _ = _
          simp only [Nat.add_sub_cancel_left]
        intro A6 C6 w6 ho6 hb6
        have HT6 := Lib.hid ho6
        have HB6 := Lib.hid (HB5.out.trans hb6)
        clear ho6 hb6 HSB HT5 HB5 hsw5
        have HBY2 : Hid ((Wl ++ (z0.drop r).take (q + 1)).length = nw + (1 + q) ∧ ∀ y ∈ Bd ++ [1, 0, 0, (r : Int) / 256, (r : Int) % 256, 0, 0, (1 + (q : Int)) / 256, (1 + (q : Int)) % 256], 0 ≤ y ∧ y ≤ 255) := Lib.hid ⟨by rw [List.length_append, List.length_take, List.length_drop, HBY.out.1, HZ0.out]; omega, fun y hy => by
          rcases List.mem_append.1 hy with h | h
          · exact HBY.out.2 y h
          · simp only [List.mem_cons, List.not_mem_nil, or_false] at h
            rcases h with rfl | rfl | rfl | rfl | rfl | rfl | rfl | rfl | rfl <;> omega⟩
        go_wp2
        go_roundw
        case rel => first
          | exact ⟨k + 1, _, _, nw + (1 + q), nb + 9, A6, A5, C6, C5, by omega, by omega, by omega, by omega, rfl, rfl, by go_num, HT6, HB6, HSO2, HBY2⟩
          | ((repeat apply Exists.intro); exact ⟨⟨k + 1, _, _, nw + (1 + q), nb + 9, A6, A5, C6, C5, by omega, by omega, by omega, by omega, rfl, rfl, by go_num, HT6, HB6, HSO2, HBY2⟩, rfl⟩)
        case measure => simp [intOf]; omega
      · have hl0 : ((len2 : Int) == 0) = true := by simp; omega
        clear hl
        have hnz : ¬ y.tmod 2 = 0 := by simpa using he
        go_wp2_with fail
        refine (HW1.out _).mono ?_
        rintro e w' ⟨rfl, rfl⟩
        clear HW1
        go_wp2_with fail
        refine (HW2.out _).mono ?_
        rintro e w' ⟨rfl, rfl⟩
        clear HW2
        have HL := Lib.hid (Dt.sl_mark wr [1, 0, 0, (r : Int) / 256, (r : Int) % 256, 0, 0, (1 + (q : Int)) / 256, (1 + (q : Int)) % 256] 5 (0, 0) 9 rfl (by omega) (by
          intro i hi
          have hi : i < 9 := hi
          match i, hi with
          | 0, _ | 1, _ | 2, _ | 3, _ | 4, _ | 5, _ | 6, _ | 7, _ | 8, _ => simp [List.getD] <;> omega))
        have HTA := Lib.hid (HTW.out.alloc (.cells (Dt.bv [1, 0, 0, (r : Int) / 256, (r : Int) % 256, 0, 0, (1 + (q : Int)) / 256, (1 + (q : Int)) % 256]).toArray 5)).swap
        have HBA := Lib.hid (HB.out.alloc hsw (.cells (Dt.bv [1, 0, 0, (r : Int) / 256, (r : Int) % 256, 0, 0, (1 + (q : Int)) / 256, (1 + (q : Int)) % 256]).toArray 5))
        have hswa := HBA.out.size
        have HSO2 := Lib.hid (HSO.out.copy r (q + 1) (by omega) (by have := HZ0.out; omega) (by have := HZ0.out; omega) [1, 0, 0, (r : Int) / 256, (r : Int) % 256, 0, 0, (1 + (q : Int)) / 256, (1 + (q : Int)) % 256] (by
          rw [Dt.nb_small (r : Int) (by omega) (by omega), Dt.nb_small ((q + 1 : Nat) : Int) (by omega) (by omega)]
          have e1 : (r : Int) / 256 % 256 = (r : Int) / 256 := by omega
          have e2 : ((q + 1 : Nat) : Int) / 256 % 256 = (1 + (q : Int)) / 256 := by omega
          have e3 : ((q + 1 : Nat) : Int) % 256 = (1 + (q : Int)) % 256 := by omega
          rw [e1, e2, e3]
          rfl) _ rfl)
        go_wp2_with (at_builtin; refine Dt.wpList_append_two _ rfl (.tmp 71) (.tmp 82) rfl w.heap.size _ nb Bd _ nw Wl rfl HTA.out (some ⟨wr.heap.size, 0, none⟩) 9 9 [1, 0, 0, (r : Int) / 256, (r : Int) % 256, 0, 0, (1 + (q : Int)) / 256, (1 + (q : Int)) % 256] rfl HL.out (nb + 9) rfl _ rfl (by omega) hswa ?_)
        intro A5 C5 w5 ho5 hb5
        have HT5 := Lib.hid ho5.swap
        have HB5 := Lib.hid (HBA.out.trans hb5)
        clear ho5 hb5 HL HTA HBA hswa
        have hsw5 := HB5.out.size
        have HSB : Hid (Dt.Sl w5 (Option.map (fun x => x.add r) a0) (1 + q) (cap0 - r) ((z0.drop r).take (q + 1))) := Lib.hid (by
          have h := (HS0.out.kept HB5.out HN0.out).drop r (by omega)
          rw [if_neg (by omega)] at h
          rw [Nat.add_comm q 1]
          exact h.take (1 + q) (by omega))
        go_wp2_with (at_builtin; refine Dt.wpList_append_two w5 rfl (.tmp 84) (.tmp 90) rfl w.heap.size (.slice A7 nw C7) nw Wl (.slice A5 (nb + 9) C5) (nb + 9) (Bd ++ [1, 0, 0, (r : Int) / 256, (r : Int) % 256, 0, 0, (1 + (q : Int)) / 256, (1 + (q : Int)) % 256]) rfl HT5.out (Option.map (fun x => x.add r) a0) (1 + q) (cap0 - r) ((z0.drop r).take (q + 1)) ?hx HSB.out (nw + (1 + q)) rfl (Wl ++ (z0.drop r).take (q + 1)) rfl (by omega) hsw5 ?_)
        case hx =>
          show Value.slice _ _ _ = _
          simp only [Nat.add_sub_cancel_left]
        intro A6 C6 w6 ho6 hb6
        have HT6 := Lib.hid ho6
        have HB6 := Lib.hid (HB5.out.trans hb6)
        clear ho6 hb6 HSB HT5 HB5 hsw5
        have HBY2 : Hid ((Wl ++ (z0.drop r).take (q + 1)).length = nw + (1 + q) ∧ ∀ y ∈ Bd ++ [1, 0, 0, (r : Int) / 256, (r : Int) % 256, 0, 0, (1 + (q : Int)) / 256, (1 + (q : Int)) % 256], 0 ≤ y ∧ y ≤ 255) := Lib.hid ⟨by rw [List.length_append, List.length_take, List.length_drop, HBY.out.1, HZ0.out]; omega, fun y hy => by
          rcases List.mem_append.1 hy with h | h
          · exact HBY.out.2 y h
          · simp only [List.mem_cons, List.not_mem_nil, or_false] at h
            rcases h with rfl | rfl | rfl | rfl | rfl | rfl | rfl | rfl | rfl <;> omega⟩
        go_wp2
        go_roundw
        case rel => first
          | exact ⟨k + 1, _, _, nw + (1 + q), nb + 9, A6, A5, C6, C5, by omega, by omega, by omega, by omega, rfl, rfl, by go_num, HT6, HB6, HSO2, HBY2⟩
          | ((repeat apply Exists.intro); exact ⟨⟨k + 1, _, _, nw + (1 + q), nb + 9, A6, A5, C6, C5, by omega, by omega, by omega, by omega, rfl, rfl, by go_num, HT6, HB6, HSO2, HBY2⟩, rfl⟩)
        case measure => simp [intOf]; omega
      · have hl0 : ((len2 : Int) == 0) = false := by simp; omega
        have hnz : ¬ y.tmod 2 = 0 := by simpa using he
        clear HW1 HW2 hqn hrn
        have t2 := td_bound y 2 (by decide) hl1 hh1
        obtain ⟨p, hp, hpn⟩ : ∃ p : Nat, y.tdiv 2 % (len2 : Int) = (p : Int) ∧ p < len2 := ⟨(y.tdiv 2 % (len2 : Int)).toNat, by have := Int.emod_nonneg (y.tdiv 2) (b := (len2 : Int)) (by omega); omega, by have := Int.emod_lt_of_pos (y.tdiv 2) (b := (len2 : Int)) (by omega); have := Int.emod_nonneg (y.tdiv 2) (b := (len2 : Int)) (by omega); omega⟩
        have HW3 : Hid (∀ W, Calls Try.prog 12 #[.int .i64 (y.tdiv 2), .int .i64 len2] W fun e w' => e = .returned (.int .i64 p) ∧ W = w') := Lib.hid (fun W => by have := Wi.within_any (y.tdiv 2) len2 W (by omega) (by omega) t2.1 t2.2; rw [hp] at this; exact this)
        clear hp t2
        go_wp2_with fail
        refine (HW3.out _).mono ?_
        rintro e w' ⟨rfl, rfl⟩
        clear HW3
        have hLW : [2, 0, 0, IntKind.u8.wrap ((1 + (p : Int)) / 256), IntKind.u8.wrap (1 + (p : Int))] = [2, 0, 0, (1 + (p : Int)) / 256, (1 + (p : Int)) % 256] := by
          have e2 : IntKind.u8.wrap ((1 + (p : Int)) / 256) = (1 + (p : Int)) / 256 := by
            have h : IntKind.u8.wrap ((1 + (p : Int)) / 256) = (1 + (p : Int)) / 256 % 256 := rfl
            rw [h]
            omega
          have e3 : IntKind.u8.wrap (1 + (p : Int)) = (1 + (p : Int)) % 256 := rfl
          rw [e2, e3]
        have HL3 : Hid (Dt.Sl (wr.alloc (.cells (Dt.bv [2, 0, 0, IntKind.u8.wrap ((1 + (p : Int)) / 256), IntKind.u8.wrap (1 + (p : Int))]).toArray 5)).drew (some ⟨wr.heap.size, 0, none⟩) 5 5 [2, 0, 0, IntKind.u8.wrap ((1 + (p : Int)) / 256), IntKind.u8.wrap (1 + (p : Int))]) := Lib.hid ((Dt.sl_mark wr [2, 0, 0, IntKind.u8.wrap ((1 + (p : Int)) / 256), IntKind.u8.wrap (1 + (p : Int))] 5 (0, 0) 5 rfl (by omega) (by
          rw [hLW]
          intro i hi
          have hi : i < 5 := hi
          match i, hi with
          | 0, _ | 1, _ | 2, _ | 3, _ | 4, _ => simp [List.getD] <;> omega)).drawn 1)
        have HTA3 := Lib.hid (HTW.out.alloc (.cells (Dt.bv [2, 0, 0, IntKind.u8.wrap ((1 + (p : Int)) / 256), IntKind.u8.wrap (1 + (p : Int))]).toArray 5)).drew.swap
        have HBA3 : Hid (Below w.heap.size w (wr.alloc (.cells (Dt.bv [2, 0, 0, IntKind.u8.wrap ((1 + (p : Int)) / 256), IntKind.u8.wrap (1 + (p : Int))]).toArray 5)).drew) := Lib.hid (Dt.below_drewN (HB.out.alloc hsw _) 1)
        have HLW := Lib.hid hLW
        clear hLW
        have hsw3 := HBA3.out.size
        obtain ⟨T2, hT2⟩ : ∃ T2, z2.take (p + 1) = T2 := ⟨_, rfl⟩
        have hT2l : T2.length = 1 + p := by rw [← hT2, List.length_take, HZ2.out]; omega
        have HSD : Hid (∀ W, Below w.heap.size w W → Dt.Sl W a2 (1 + p) cap2 T2) := Lib.hid (fun W hb => by rw [← hT2, Nat.add_comm p 1]; exact (HS2.out.kept hb HN2.out).take (1 + p) (by omega))
        have HSO3 := Lib.hid (HSO.out.give (p + 1) (by omega) (by omega) T2 (by omega) ([2, 0, 0, (1 + (p : Int)) / 256, (1 + (p : Int)) % 256] ++ T2) (by
          rw [Dt.nb_small ((p + 1 : Nat) : Int) (by omega) (by omega)]
          have e2 : ((p + 1 : Nat) : Int) / 256 % 256 = (1 + (p : Int)) / 256 := by omega
          have e3 : ((p + 1 : Nat) : Int) % 256 = (1 + (p : Int)) % 256 := by omega
          rw [e2, e3]))
        have HBY3 : Hid ((Wl ++ T2).length = nw + (1 + p) ∧ ∀ y ∈ Bd ++ ([2, 0, 0, (1 + (p : Int)) / 256, (1 + (p : Int)) % 256] ++ T2), 0 ≤ y ∧ y ≤ 255) := Lib.hid ⟨by rw [List.length_append, HBY.out.1, hT2l], fun y hy => by
          rcases List.mem_append.1 hy with h | h
          · exact HBY.out.2 y h
          · rcases List.mem_append.1 h with h | h
            · simp only [List.mem_cons, List.not_mem_nil, or_false] at h
              rcases h with rfl | rfl | rfl | rfl | rfl <;> omega
            · rw [← hT2] at h
              obtain ⟨j, hj, rfl⟩ := List.getElem_of_mem (List.mem_of_mem_take h)
              have := HS2.out.hbyte j (by have := HZ2.out; omega)
              simpa [List.getD, hj] using this⟩
        have HT2l := Lib.hid hT2l
        clear hT2 hT2l
        have hp0 : (0 : Int) ≤ 1 + (p : Int) := by omega
        have hpc : 1 + (p : Int) ≤ (cap2 : Int) := by omega
        have hpt : (1 + (p : Int)).toNat = 1 + p := by omega
        go_upto_region 15 with (fail)
        go_cut [8] (fun s8 wx => ∃ A C, s8 = .slice A (nb + 5 + (1 + p)) C ∧ Hid (Dt.Two wx w.heap.size (.slice A7 nw C7) nw Wl (.slice A (nb + 5 + (1 + p)) C) (nb + 5 + (1 + p)) (Bd ++ ([2, 0, 0, (1 + (p : Int)) / 256, (1 + (p : Int)) % 256] ++ T2))) ∧ Hid (Below w.heap.size w wx))
        case first =>
          go_region_law (first
            | (refine Dt.step_append_two _ rfl (.tmp 101) (.tmp 107) rfl w.heap.size (.slice A8 nb C8) nb Bd (.slice A7 nw C7) nw Wl rfl HTA3.out (some ⟨wr.heap.size, 0, none⟩) 5 5 [2, 0, 0, IntKind.u8.wrap ((1 + (p : Int)) / 256), IntKind.u8.wrap (1 + (p : Int))] rfl HL3.out (nb + 5) rfl (Bd ++ [2, 0, 0, (1 + (p : Int)) / 256, (1 + (p : Int)) % 256]) (congrArg (Bd ++ ·) HLW.out) (by omega) hsw3 ?_
               intro A5 C5 W5 ho5 hb5
               have HT5 := Lib.hid ho5
               have HB5 := Lib.hid (HBA3.out.trans hb5)
               clear ho5 hb5)
            | (refine Dt.step_append_two _ rfl (.tmp 108) (.tmp 111) rfl w.heap.size (.slice A5 (nb + 5) C5) (nb + 5) (Bd ++ [2, 0, 0, (1 + (p : Int)) / 256, (1 + (p : Int)) % 256]) (.slice A7 nw C7) nw Wl rfl HT5.out a2 (1 + p) cap2 T2 rfl (HSD.out _ HB5.out) (nb + 5 + (1 + p)) rfl (Bd ++ ([2, 0, 0, (1 + (p : Int)) / 256, (1 + (p : Int)) % 256] ++ T2)) (List.append_assoc _ _ _) (by omega) HB5.out.size ?_
               intro A6 C6 W6 ho6 hb6
               have HT6 := Lib.hid ho6.swap
               have HB6 := Lib.hid (HB5.out.trans hb6)
               clear ho6 hb6))
          all_goals (go_wp2; go_meet)
          all_goals exact ⟨_, _, rfl, HT6, HB6⟩
        case rest =>
          obtain ⟨A5, C5, rfl, HT5, HB5⟩ := hcut
          clear HTA3 HL3 HBA3 hsw3
          have hswc := HB5.out.size
          have HSD5 := Lib.hid (HSD.out _ HB5.out)
          go_wp2_with (at_builtin; refine Dt.wpList_append_two wc rfl _ _ rfl w.heap.size (.slice A7 nw C7) nw Wl (.slice A5 (nb + 5 + (1 + p)) C5) (nb + 5 + (1 + p)) (Bd ++ ([2, 0, 0, (1 + (p : Int)) / 256, (1 + (p : Int)) % 256] ++ T2)) rfl HT5.out a2 (1 + p) cap2 T2 rfl HSD5.out (nw + (1 + p)) rfl (Wl ++ T2) rfl (by omega) hswc ?_)
          intro A6 C6 w6 ho6 hb6
          have HT6 := Lib.hid ho6
          have HB6 := Lib.hid (HB5.out.trans hb6)
          clear ho6 hb6 HSD HSD5 HT5 HB5 hswc
          go_wp2
          go_roundw
          case rel => first
            | exact ⟨k + 1, _, _, nw + (1 + p), nb + 5 + (1 + p), A6, A5, C6, C5, by omega, by omega, by omega, by omega, rfl, rfl, by go_num, HT6, HB6, HSO3, HBY3⟩
            | ((repeat apply Exists.intro); exact ⟨⟨k + 1, _, _, nw + (1 + p), nb + 5 + (1 + p), A6, A5, C6, C5, by omega, by omega, by omega, by omega, rfl, rfl, by go_num, HT6, HB6, HSO3, HBY3⟩, rfl⟩)
          case measure => simp [intOf]; omega
    · have HLB := Lib.hid (Dt.own_new wr [0, 0, (len0 : Int) / 256, (len0 : Int) % 256, 0, (nw : Int) / 65536, (nw : Int) / 256, (nw : Int) % 256] 8 rfl (by omega))
      have HBA := Lib.hid ((Below.refl wr.heap.size wr).alloc (Nat.le_refl _) (.cells (Dt.bv [0, 0, (len0 : Int) / 256, (len0 : Int) % 256, 0, (nw : Int) / 65536, (nw : Int) / 256, (nw : Int) % 256]).toArray 5))
      have HBS := Lib.hid ((Dt.own_sl HTW.out.2.1 (Dt.getD_byte HBY.out.2) (by omega)).1.kept HBA.out (fun b off he _ => Dt.own_lt HTW.out.2.1 b off he))
      have HDB := Lib.hid (show ∀ y ∈ [0, 0, (len0 : Int) / 256, (len0 : Int) % 256, 0, (nw : Int) / 65536, (nw : Int) / 256, (nw : Int) % 256] ++ Bd, 0 ≤ y ∧ y ≤ 255 from fun y hy => by
        rcases List.mem_append.1 hy with h | h
        · simp only [List.mem_cons, List.not_mem_nil, or_false] at h
          rcases h with rfl | rfl | rfl | rfl | rfl | rfl | rfl | rfl <;> omega
        · exact HBY.out.2 y h)
      have HAP := Lib.hid (HSO.out.ap (by have := HZ0.out; omega) (by have := HBY.out.1; omega) ([0, 0, (len0 : Int) / 256, (len0 : Int) % 256, 0, (nw : Int) / 65536, (nw : Int) / 256, (nw : Int) % 256] ++ Bd) (by
        rw [HZ0.out, HBY.out.1, Dt.nb_small (len0 : Int) (by omega) (by omega), Dt.nb_mid (nw : Int) (by omega) (by omega)]
        have e1 : (len0 : Int) / 256 % 256 = (len0 : Int) / 256 := by omega
        have e2 : (nw : Int) / 65536 % 256 = (nw : Int) / 65536 := by omega
        have e3 : (nw : Int) / 256 % 256 = (nw : Int) / 256 := by omega
        rw [e1, e2, e3]
        rfl))
      have hnb : nb ≤ 50000 := by omega
      obtain ⟨Dd, hDd⟩ : ∃ Dd, [0, 0, (len0 : Int) / 256, (len0 : Int) % 256, 0, (nw : Int) / 65536, (nw : Int) / 256, (nw : Int) % 256] ++ Bd = Dd := ⟨_, rfl⟩
      rw [hDd] at HDB HAP
      have HDd := Lib.hid hDd
      clear hDd
      rcases (show ¬ k < len1 ∨ (k < len1 ∧ ¬ k < 20) from by omega) with h1 | ⟨h1, h2⟩
      all_goals
        go_wp2_with (at_builtin; refine Dt.wpList_append_sl _ rfl (.tmp 137) (.tmp 138) rfl wr.heap.size _ 8 _ rfl HLB.out A8 nb C8 Bd rfl HBS.out (8 + nb) rfl Dd HDd.out (by omega) HBA.out.size ?_)
        intro A5 C5 w5 ho5 hb5
        have hbw : Below wr.heap.size wr w5 := HBA.out.trans hb5
        have HB5 := Lib.hid (HB.out.trans (hbw.mono hsw))
        have hs5 := HB5.out.size
        have hs5r := hbw.size
        have HW5 := Lib.hid (Dt.own_later HTW.out.1 hbw)
        have HD5 := Lib.hid (Dt.own_sl ho5 (Dt.getD_byte HDB.out) (by omega)).1
        have HDL := Lib.hid (Dt.own_lt ho5)
        clear ho5 hb5 hbw HBS HLB HBA HDB HTW HB
        go_wp2_with fail
        refine (Dt.apply_any w5.heap.size _ _ _ z0 _ _ _ _ _ (HS0.out.kept HB5.out HN0.out) HD5.out (Nat.le_refl _) (fun b off he hl => by have := HN0.out b off he hl; omega) (fun b off he _ => HDL.out b off he)).mono ?_
        rw [HAP.out]
        rintro e w6 ⟨v6, rfl, ho6, hb6⟩
        obtain ⟨A6, C6, hv6, -, -, -⟩ := Dt.own_shape ho6
        subst hv6
        have cvW := Dt.conv_own (Dt.own_later HW5.out hb6)
        have cv6 := Dt.conv_own ho6
        have HB6 := Lib.hid (HB5.out.trans (hb6.mono hs5))
        clear ho6 hb6 HD5 HDL HW5 HB5
        have hq : ((Dt.sb Wl).toList == (Dt.sb Wl).toList) = true := by simp
        go_wp2
        go_ret
        exact ⟨rfl, HB6.out⟩

set_option maxRecDepth 100000 in
theorem lifted (os : Os) (started : os.Started) (H : Type) (enc : TypeId × Value → H) :
    ReturnsInHanded {} Try.checked os 6 .any (Rows.deltaStepsSpec.pre6 enc Try.prog Try.f6 Rows.deltaStepsRow.domain false) (Rows.deltaStepsSpec.post enc Try.prog Try.f6 false true false false) := by
  refine returnsInHanded_of_change_sized (C := Try.checked) own started (by kernel_rfl) Try.func6
    (ChangeSpec.witness6 (enc := enc) (C := Try.checked) false ⟨#[], #[.slice none 0 0, .slice none 0 0, .slice none 0 0], []⟩ 8 (by kernel_rfl) (by kernel_rfl) (by kernel_rfl) (by kernel_rfl)) ?_
  intro W base args ds gs before hval0 hW _ hsz0 _
  have hsz : (DataW.weightsEach Try.prog (Try.f6.params.toList ++ Rows.deltaStepsSpec.plain.varTypes Try.prog) (ds ++ gs)).all (· ≤ reachBytes) = true := hsz0
  clear hsz0
  have hval : ∀ (j : Nat) t v, Try.f6.params[j]? = some t → args[j]? = some v → Value.okWide Try.prog W .any base t v := hval0
  have hW' := hW
  obtain ⟨p, q, hA0, hV, rfl, _, _⟩ := hW
  have hA : DataW.TrodAll enc Try.prog W 0 (fun _ => true) true Try.f6.params.toList args.toList ds p := hA0
  rw [Try.params6] at hA hval hsz
  obtain ⟨v0, vs0, d0, ds0, p0, q0, hargs, rfl, rfl, h0, r0⟩ := trodAll_cons hA
  obtain ⟨v1, vs1, d1, ds1, p1, q1, rfl, rfl, rfl, h1, r1⟩ := trodAll_cons r0
  obtain ⟨v2, vs2, d2, ds2, p2, q2, rfl, rfl, rfl, h2, r2⟩ := trodAll_cons r1
  obtain ⟨rfl, rfl, rfl⟩ := trodAll_nil r2
  obtain rfl : args = #[v0, v1, v2] := by cases args; simp_all
  obtain ⟨rfl, rfl⟩ := trodVars_none hV
  have k0 := h0
  have lt0 : ∀ x ∈ p0, x.block < W.heap.size := by obtain ⟨m, hm⟩ := k0; exact DataW.trod_lt m _ _ _ hm
  have k1 := h1
  have lt1 : ∀ x ∈ p1, x.block < W.heap.size := by obtain ⟨m, hm⟩ := k1; exact DataW.trod_lt m _ _ _ hm
  have k2 := h2
  have lt2 : ∀ x ∈ p2, x.block < W.heap.size := by obtain ⟨m, hm⟩ := k2; exact DataW.trod_lt m _ _ _ hm
  obtain ⟨a0, len0, cap0, rfl⟩ := okWide_slice Try.underlying22 (hval 0 22 v0 rfl rfl)
  obtain ⟨z0, w0⟩ := Fr.isInts_of (b := 1) Try.underlying22 Try.underlying5 (by kernel_rfl) (by kernel_rfl) hsz (j := 0) rfl rfl h0
  obtain ⟨a1, len1, cap1, rfl⟩ := okWide_slice Try.underlying31 (hval 1 31 v1 rfl rfl)
  obtain ⟨z1, w1⟩ := Fr.isInts_of (b := 8) Try.underlying31 Try.underlying3 (by kernel_rfl) (by kernel_rfl) hsz (j := 1) rfl rfl h1
  obtain ⟨a2, len2, cap2, rfl⟩ := okWide_slice Try.underlying22 (hval 2 22 v2 rfl rfl)
  obtain ⟨z2, w2⟩ := Fr.isInts_of (b := 1) Try.underlying22 Try.underlying5 (by kernel_rfl) (by kernel_rfl) hsz (j := 2) rfl rfl h2
  clear hA0 hval0
  simp only [List.append_nil] at hW'
  refine (walk W a0 len0 cap0 z0 w0 a1 len1 cap1 z1 w1 a2 len2 cap2 z2 w2).mono fun e W' ⟨he, bel⟩ => ?_
  subst he
  exact ⟨_, rfl, _, _, _, [], _, [], hW', trodAll_mk1 (shut_bool Try.underlying4 _), (trodAll_cons_mk (Below.trod laidOut (by kernel_rfl) (of_decide_eq_true (by kernel_rfl)) k0 bel lt0) (trodAll_cons_mk (Below.trod laidOut (by kernel_rfl) (of_decide_eq_true (by kernel_rfl)) k1 bel lt1) (trodAll_cons_mk (Below.trod laidOut (by kernel_rfl) (of_decide_eq_true (by kernel_rfl)) k2 bel lt2) trodAll_mk0))), rfl, bel.frame _, fun h => by cases h⟩

theorem over : Rows.deltaStepsRow.holds Try.pinned (OpenSpec.ofChange Rows.deltaStepsSpec) :=
  OpenClaim.holds_of_wide 6 Try.f6 rfl rfl rfl rfl rfl rfl rfl ⟨rfl, rfl, rfl, rfl, rfl⟩ rfl rfl rfl rfl rfl (by kernel_rfl) Try.func6 (by kernel_rfl)
    (of_decide_eq_true (by kernel_rfl)) (by unfold Func.isWrapper; first | (rw [if_pos (by decide +kernel)]; kernel_rfl) | (rw [if_neg (by decide +kernel)]; exact ⟨rfl, rfl⟩))
    (fun os started H enc _ => lifted os started H enc)

/-- The statement. -/
theorem proved : Rows.DeltaStepsSaid := over
#print axioms proved
end Go.Proofs.Ytkelgaanehihbaa.deltaSteps
