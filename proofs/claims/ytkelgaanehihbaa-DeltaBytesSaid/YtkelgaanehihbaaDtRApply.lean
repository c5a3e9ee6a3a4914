/- The document's Apply, walked: it answers what the program's answers. -/
import Derived.Test.YtkelgaanehihbaaDtApply2
import Derived.Test.YtkelgaanehihbaaDtGet
namespace Go.Proofs.Ytkelgaanehihbaa.Dt
open Go.RowKit
set_option linter.unusedVariables false

theorem c1_cut {base zs out : List Int} {want : Int} (hz : ¬ zs.length = 0) (h1 : zs.getD 0 0 = 1) (h2 : zs.length < 9) : run base want (zs.length + 1) zs out = ([], 14) :=
  run_err _ _ _ _ hz (by unfold step; rw [if_pos h1, if_pos h2])
theorem c1_bad {base zs out : List Int} {want : Int} (hz : ¬ zs.length = 0) (h1 : zs.getD 0 0 = 1) (h2 : ¬ zs.length < 9) (hp1 : 0 ≤ num (zs.drop 1)) (hp5 : 0 ≤ num (zs.drop 5))
    (h : num (zs.drop 5) = 0 ∨ (base.length : Int) < num (zs.drop 1) ∨ (base.length : Int) - num (zs.drop 1) < num (zs.drop 5) ∨ want - (out.length : Int) < num (zs.drop 5)) : run base want (zs.length + 1) zs out = ([], 16) := by
  by_cases ha : (base.length : Int) < num (zs.drop 1) ∨ (base.length : Int) - num (zs.drop 1) < num (zs.drop 5)
  · exact run_err _ _ _ _ hz (by unfold step; rw [if_pos h1, if_neg h2, if_pos ha])
  · by_cases hb : num (zs.drop 5) = 0
    · exact run_err _ _ _ _ hz (by unfold step; rw [if_pos h1, if_neg h2, if_neg ha, if_pos hb])
    · refine run_big _ _ _ _ hz (by unfold step; rw [if_pos h1, if_neg h2, if_neg ha, if_neg hb]) ?_
      rw [List.length_take, List.length_drop]
      omega
theorem c1_ok {base zs out : List Int} {want : Int} (hz : ¬ zs.length = 0) (h1 : zs.getD 0 0 = 1) (h2 : ¬ zs.length < 9) (hp1 : 0 ≤ num (zs.drop 1)) (hp5 : 0 ≤ num (zs.drop 5))
    (h : ¬ (num (zs.drop 5) = 0 ∨ (base.length : Int) < num (zs.drop 1) ∨ (base.length : Int) - num (zs.drop 1) < num (zs.drop 5) ∨ want - (out.length : Int) < num (zs.drop 5))) :
    run base want (zs.length + 1) zs out = run base want ((zs.drop 9).length + 1) (zs.drop 9) (out ++ (base.drop (num (zs.drop 1)).toNat).take (num (zs.drop 5)).toNat) := by
  refine run_on _ _ _ _ hz (by unfold step; rw [if_pos h1, if_neg h2, if_neg (by omega), if_neg (by omega)]) ?_
  rw [List.length_take, List.length_drop]
  omega
theorem c2_cut {base zs out : List Int} {want : Int} (hz : ¬ zs.length = 0) (h1 : zs.getD 0 0 = 2) (h2 : zs.length < 5) : run base want (zs.length + 1) zs out = ([], 14) :=
  run_err _ _ _ _ hz (by unfold step; rw [if_neg (by rw [h1]; decide), if_pos h1, if_pos h2])
theorem c2_cut2 {base zs out : List Int} {want : Int} (hz : ¬ zs.length = 0) (h1 : zs.getD 0 0 = 2) (h2 : ¬ zs.length < 5) (h3 : ((zs.length - 5 : Nat) : Int) < num (zs.drop 1)) : run base want (zs.length + 1) zs out = ([], 14) :=
  run_err _ _ _ _ hz (by unfold step; rw [if_neg (by rw [h1]; decide), if_pos h1, if_neg h2, if_pos h3])
theorem c2_bad {base zs out : List Int} {want : Int} (hz : ¬ zs.length = 0) (h1 : zs.getD 0 0 = 2) (h2 : ¬ zs.length < 5) (hp1 : 0 ≤ num (zs.drop 1)) (h3 : ¬ ((zs.length - 5 : Nat) : Int) < num (zs.drop 1))
    (h : num (zs.drop 1) = 0 ∨ want - (out.length : Int) < num (zs.drop 1)) : run base want (zs.length + 1) zs out = ([], 16) := by
  by_cases hb : num (zs.drop 1) = 0
  · exact run_err _ _ _ _ hz (by unfold step; rw [if_neg (by rw [h1]; decide), if_pos h1, if_neg h2, if_neg h3, if_pos hb])
  · refine run_big _ _ _ _ hz (by unfold step; rw [if_neg (by rw [h1]; decide), if_pos h1, if_neg h2, if_neg h3, if_neg hb]) ?_
    rw [List.length_take, List.length_drop]
    omega
theorem c2_ok {base zs out : List Int} {want : Int} (hz : ¬ zs.length = 0) (h1 : zs.getD 0 0 = 2) (h2 : ¬ zs.length < 5) (hp1 : 0 ≤ num (zs.drop 1)) (h3 : ¬ ((zs.length - 5 : Nat) : Int) < num (zs.drop 1))
    (h : ¬ (num (zs.drop 1) = 0 ∨ want - (out.length : Int) < num (zs.drop 1))) :
    run base want (zs.length + 1) zs out = run base want ((zs.drop (5 + (num (zs.drop 1)).toNat)).length + 1) (zs.drop (5 + (num (zs.drop 1)).toNat)) (out ++ (zs.drop 5).take (num (zs.drop 1)).toNat) := by
  refine run_on _ _ _ _ hz (by unfold step; rw [if_neg (by rw [h1]; decide), if_pos h1, if_neg h2, if_neg h3, if_neg (by omega)]) ?_
  rw [List.length_take, List.length_drop]
  omega
theorem c3_bad {base zs out : List Int} {want : Int} (hz : ¬ zs.length = 0) (h1 : ¬ zs.getD 0 0 = 1) (h2 : ¬ zs.getD 0 0 = 2) : run base want (zs.length + 1) zs out = ([], 16) :=
  run_err _ _ _ _ hz (by unfold step; rw [if_neg h1, if_neg h2])

/-- a piece of bytes that came in, as cells -/
theorem piece_cells {w w' : World} {B x o l c : Nat} {z : List Int} (h : Sl w (some ⟨x, o, none⟩) l c z) (hlt : ∀ b off, some (⟨x, o, none⟩ : Addr) = some ⟨b, off, none⟩ → 0 < l → b < B) (hb : Below B w w') (p n : Nat) (hpn : p + n ≤ l) :
    ∀ j u, (bv ((z.drop p).take n))[j]? = some u → w'.cell? (Addr.add ⟨x, o + p, none⟩ j) = some u := by
  intro j u hj
  obtain ⟨hj1, hj2⟩ := List.getElem?_eq_some_iff.1 hj
  rw [bv, List.length_map, List.length_take, List.length_drop, h.hlen] at hj1
  have hk := h.kept hb hlt
  obtain ⟨b, off, he, hc⟩ := hk.hcell (p + j) (by omega)
  simp only [Option.some.injEq, Addr.mk.injEq, and_true] at he
  obtain ⟨rfl, rfl⟩ := he
  rw [show Addr.add ⟨x, o + p, none⟩ j = (⟨x, o + (p + j), none⟩ : Addr) from by simp [Addr.add, Nat.add_assoc], hc, ← hj2]
  have : p + j < z.length := by rw [h.hlen]; omega
  simp [bv, this]

set_option maxRecDepth 100000 in
set_option maxHeartbeats 4000000 in
theorem rapply_any (B : Nat) (a1 : Option Addr) (l1 c1 : Nat) (z1 : List Int) (a2 : Option Addr) (l2 c2 : Nat) (z2 : List Int) (w : World) (h1 : Sl w a1 l1 c1 z1) (h2 : Sl w a2 l2 c2 z2) (hB : B ≤ w.heap.size)
    (hlt1 : ∀ b off, a1 = some ⟨b, off, none⟩ → 0 < l1 → b < B) (hlt2 : ∀ b off, a2 = some ⟨b, off, none⟩ → 0 < l2 → b < B) :
    Calls Try.prog 9 #[.slice a1 l1 c1, .slice a2 l2 c2] w (ApRet B (ap z1 z2) w) := by
  have hl2 := h2.hlen
  have hl1 := h1.hlen
  have b1 : l1 ≤ 140737488355328 := h1.hbig
  have b2 : l2 ≤ 140737488355328 := h2.hbig
  have e1 := h1.hcap
  have e2 := h2.hcap
  have e3 := h1.hreach
  have e4 := h2.hreach
  have H1 := Lib.hid h1
  have H2 := Lib.hid h2
  have HL1 := Lib.hid hlt1
  have HL2 := Lib.hid hlt2
  have hbd := h2.hbyte
  rw [← hl2] at hbd
  have HBD := Lib.hid hbd
  have hn0 := num_bd _ hbd
  have hn4 := num_bd _ (drop_bd hbd 4)
  have HB0 := Lib.hid (Below.refl B w)
  clear h1 h2 hlt1 hlt2 hbd
  by_cases g8 : l2 < 8
  · have HAP : Hid (ap z1 z2 = ([], 14)) := Lib.hid (by unfold ap; rw [if_pos (by omega)])
    rw [HAP.out]
    go_enter Try.func9, Try.ntmps9
    go_wp2
    go_ret2
    exact ApRet.nil HB0.out
  have HG0 : Hid (Calls Try.prog 15 #[.slice a2 l2 c2, .int .i64 0, .int .i64 4] w fun e w' => e = .returned (.int .i64 (num z2)) ∧ w = w') := Lib.hid (by have := get_any a2 l2 c2 z2 0 w H2.out (by omega) (by omega); simpa using this)
  have HG4 : Hid (Calls Try.prog 15 #[.slice a2 l2 c2, .int .i64 4, .int .i64 4] w fun e w' => e = .returned (.int .i64 (num (z2.drop 4))) ∧ w = w') := Lib.hid (by have := get_any a2 l2 c2 z2 4 w H2.out (by omega) (by omega); simpa using this)
  have HAP0 : Hid (ap z1 z2 = if num z2 ≠ (l1 : Int) then ([], 1) else run z1 (num (z2.drop 4)) (z2.length + 1) (z2.drop 8) []) := Lib.hid (by unfold ap; rw [if_neg (by omega), hl1])
  generalize num z2 = n0 at *
  generalize num (z2.drop 4) = n4 at *
  by_cases gt' : ¬ n0 = (l1 : Int)
  · have HAP : Hid (ap z1 z2 = ([], 1)) := Lib.hid (by rw [HAP0.out, if_pos gt'])
    rw [HAP.out]
    have hne : (n0 != (l1 : Int)) = true := by simp; exact gt'
    clear gt'
    go_enter Try.func9, Try.ntmps9
    go_wp2_with fail
    refine HG0.out.mono ?_
    rintro e w' ⟨rfl, rfl⟩
    go_wp2
    go_ret2
    exact ApRet.nil HB0.out
  have gt : n0 = (l1 : Int) := Decidable.not_not.1 gt'
  have HRUN0 : Hid (ap z1 z2 = run z1 n4 ((z2.drop 8).length + 1) (z2.drop 8) []) := Lib.hid (by rw [HAP0.out, if_neg gt']; exact run_fuel _ _ _ _ _ _ (by simp; omega) (by omega))
  have hne : (n0 != (l1 : Int)) = false := by simp [gt]
  clear gt gt' HAP0
  obtain ⟨i0, hi, hz0, hz1, hz2⟩ := info_parts info5
  go_enter Try.func9, Try.ntmps9
  go_wp2_with fail
  refine HG0.out.mono ?_
  rintro e w' ⟨rfl, rfl⟩
  go_wp2_with fail
  refine HG4.out.mono ?_
  rintro e w' ⟨rfl, rfl⟩
  clear HG0 HG4
  go_wp2
  go_loopg [7, 8] l2 (fun gk v t wr => ∃ k out, Hid (l2 - k ≤ gk) ∧ 8 ≤ k ∧ k ≤ l2 ∧ t = .int .i64 k ∧ Hid (wr.ownsRow B 5 1 v out.length (bv out)) ∧ Hid (Below B w wr) ∧ Hid (ap z1 z2 = run z1 n4 ((z2.drop k).length + 1) (z2.drop k) out) ∧ (out.length : Int) ≤ n4)
  case atStart => exact ⟨8, [], Lib.hid (by omega), by omega, by omega, rfl, Lib.hid (World.ownsRow_nil _ _ _ _), HB0, HRUN0, by simp; omega⟩
  case round =>
    clear HB0 HRUN0
    obtain ⟨k, out, HK, hk8, hkl, rfl, HOW, HB, HRUN, hout⟩ := hrel
    obtain ⟨A, C, hv, hc1, hc2, hown⟩ := own_shape HOW.out
    subst hv
    have HOWN := Lib.hid hown
    clear hown
    have hsz := HB.out.size
    have hszB : B ≤ wr.heap.size := by omega
    by_cases hlt : k < l2
    · have hzk : (z2.drop k).length = l2 - k := by rw [List.length_drop, hl2]
      have hz : ¬ (z2.drop k).length = 0 := by omega
      have HS2 := Lib.hid (H2.out.kept HB.out HL2.out)
      have hbk := drop_bd HBD.out k
      have hn1 := num_bd _ (drop_bd hbk 1)
      have hn5 := num_bd _ (drop_bd hbk 5)
      have d1 : (z2.drop k).drop 1 = z2.drop (k + 1) := by rw [List.drop_drop]
      have d5 : (z2.drop k).drop 5 = z2.drop (k + 5) := by rw [List.drop_drop]
      have HC1 := Lib.hid (fun (a : (z2.drop k).getD 0 0 = 1) b => c1_cut (base := z1) (out := out) (want := n4) hz a b)
      have HC1B := Lib.hid (fun (a : (z2.drop k).getD 0 0 = 1) b c => c1_bad (base := z1) (out := out) (want := n4) hz a b hn1.1 hn5.1 c)
      have HC1O := Lib.hid (fun (a : (z2.drop k).getD 0 0 = 1) b c => c1_ok (base := z1) (out := out) (want := n4) hz a b hn1.1 hn5.1 c)
      have HC2 := Lib.hid (fun (a : (z2.drop k).getD 0 0 = 2) b => c2_cut (base := z1) (out := out) (want := n4) hz a b)
      have HC2C := Lib.hid (fun (a : (z2.drop k).getD 0 0 = 2) b c => c2_cut2 (base := z1) (out := out) (want := n4) hz a b c)
      have HC2B := Lib.hid (fun (a : (z2.drop k).getD 0 0 = 2) b c d => c2_bad (base := z1) (out := out) (want := n4) hz a b hn1.1 c d)
      have HC2O := Lib.hid (fun (a : (z2.drop k).getD 0 0 = 2) b c d => c2_ok (base := z1) (out := out) (want := n4) hz a b hn1.1 c d)
      have HC3 := Lib.hid (fun a b => c3_bad (base := z1) (zs := z2.drop k) (out := out) (want := n4) hz a b)
      have HG1 := Lib.hid (fun (h : k + 5 ≤ l2) => (by have := get_any a2 l2 c2 z2 ((k : Int) + 1) wr HS2.out (by omega) (by omega); rw [show ((k : Int) + 1).toNat = k + 1 from by omega] at this; exact this : Calls Try.prog 15 #[.slice a2 l2 c2, .int .i64 ((k : Int) + 1), .int .i64 4] wr fun e w' => e = .returned (.int .i64 (num (z2.drop (k + 1)))) ∧ wr = w'))
      have HG5 := Lib.hid (fun (h : k + 9 ≤ l2) => (by have := get_any a2 l2 c2 z2 ((k : Int) + 5) wr HS2.out (by omega) (by omega); rw [show ((k : Int) + 5).toNat = k + 5 from by omega] at this; exact this : Calls Try.prog 15 #[.slice a2 l2 c2, .int .i64 ((k : Int) + 5), .int .i64 4] wr fun e w' => e = .returned (.int .i64 (num (z2.drop (k + 5)))) ∧ wr = w'))
      rw [d1] at hn1 HC1B HC1O HC2C HC2B HC2O
      rw [d5] at hn5 HC1B HC1O
      rw [hzk] at HC1 HC1B HC1O HC2 HC2C HC2B HC2O HC3 HRUN
      rw [hl1] at HC1B HC1O
      obtain ⟨x2, o2, rfl, q0⟩ := HS2.out.hcell k hlt
      have e0 : (z2.drop k).getD 0 0 = z2.getD k 0 := by simp [List.getD]
      rw [e0] at HC1 HC1B HC1O HC2 HC2C HC2B HC2O HC3
      generalize num (z2.drop (k + 1)) = n1 at *
      generalize num (z2.drop (k + 5)) = n5 at *
      generalize z2.getD k 0 = z0 at *
      clear e0 d1 d5 hz hzk hbk
      by_cases t1 : z0 = 1
      · have q1 : (z0 == 1) = true := by simp [t1]
        by_cases t9 : l2 - k < 9
        · have HR : Hid (ap z1 z2 = ([], 14)) := Lib.hid (by rw [HRUN.out]; exact HC1.out t1 t9)
          clear t1 HC1 HC1B HC1O HC2 HC2C HC2B HC2O HC3 HRUN
          go_wp2
          go_ret2
          rw [HR.out]
          exact ApRet.nil HB.out
        by_cases tb : n5 = 0 ∨ (l1 : Int) < n1 ∨ (l1 : Int) - n1 < n5 ∨ n4 - (out.length : Int) < n5
        · have HR : Hid (ap z1 z2 = ([], 16)) := Lib.hid (by rw [HRUN.out]; exact HC1B.out t1 t9 tb)
          clear t1 HC1 HC1B HC1O HC2 HC2C HC2B HC2O HC3 HRUN
          rcases (show n5 = 0 ∨ (¬ n5 = 0 ∧ (l1 : Int) < n1) ∨ (¬ n5 = 0 ∧ n1 ≤ (l1 : Int) ∧ (l1 : Int) - n1 < n5) ∨ (¬ n5 = 0 ∧ n1 ≤ (l1 : Int) ∧ n5 ≤ (l1 : Int) - n1 ∧ n4 - (out.length : Int) < n5) from by omega) with t | ⟨tz, t⟩ | ⟨tz, ta, t⟩ | ⟨tz, ta, tb, t⟩
          · have tq : (n5 == 0) = true := by simp [t]
            clear tb t
            go_wp2_with fail
            refine (HG1.out (by omega)).mono ?_
            rintro e w' ⟨rfl, rfl⟩
            go_wp2_with fail
            refine (HG5.out (by omega)).mono ?_
            rintro e w' ⟨rfl, rfl⟩
            go_wp2
            go_ret2
            rw [HR.out]
            exact ApRet.nil HB.out
          · have tq : (n5 == 0) = false := by simp [tz]
            clear tb tz
            go_wp2_with fail
            refine (HG1.out (by omega)).mono ?_
            rintro e w' ⟨rfl, rfl⟩
            go_wp2_with fail
            refine (HG5.out (by omega)).mono ?_
            rintro e w' ⟨rfl, rfl⟩
            go_wp2
            go_ret2
            rw [HR.out]
            exact ApRet.nil HB.out
          · have tq : (n5 == 0) = false := by simp [tz]
            clear tb tz
            go_wp2_with fail
            refine (HG1.out (by omega)).mono ?_
            rintro e w' ⟨rfl, rfl⟩
            go_wp2_with fail
            refine (HG5.out (by omega)).mono ?_
            rintro e w' ⟨rfl, rfl⟩
            go_wp2
            go_ret2
            rw [HR.out]
            exact ApRet.nil HB.out
          · have tq : (n5 == 0) = false := by simp [tz]
            clear tz
            go_wp2_with fail
            refine (HG1.out (by omega)).mono ?_
            rintro e w' ⟨rfl, rfl⟩
            go_wp2_with fail
            refine (HG5.out (by omega)).mono ?_
            rintro e w' ⟨rfl, rfl⟩
            go_wp2
            go_ret2
            rw [HR.out]
            exact ApRet.nil HB.out
        · have HR0 := Lib.hid (HRUN.out.trans (HC1O.out t1 t9 tb))
          clear t1 HC1 HC1B HC1O HC2 HC2C HC2B HC2O HC3 HRUN
          have tq : (n5 == 0) = false := by simp; omega
          obtain ⟨p1, rfl⟩ := Int.eq_ofNat_of_zero_le hn1.1
          obtain ⟨p5, rfl⟩ := Int.eq_ofNat_of_zero_le hn5.1
          rw [Int.toNat_natCast, Int.toNat_natCast, List.drop_drop] at HR0
          obtain ⟨x1, o1, rfl, -⟩ := H1.out.hcell p1 (by omega)
          have f1 : p1 + p5 ≤ l1 := by omega
          have f2 : 0 < p5 := by omega
          have hcap : ¬ c1 = p1 := by omega
          have f3 : n4 - (out.length : Int) ≥ p5 := by omega
          have HNW := Lib.hid (piece_cells H1.out HL1.out HB.out p1 p5 f1)
          clear tb
          go_wp2_with fail
          refine (HG1.out (by omega)).mono ?_
          rintro e w' ⟨rfl, rfl⟩
          go_wp2_with fail
          refine (HG5.out (by omega)).mono ?_
          rintro e w' ⟨rfl, rfl⟩
          go_wp2_with (at_builtin; refine wpList_append_own _ rfl _ _ 22 rfl B 5 i0 (.int .u8 0) 1 1 Try.underlying22 hi hz0 hz1 hz2 rfl (by decide) _ _ _ rfl HOW.out ⟨x1, o1 + p1, none⟩ _ (c1 - p1) (bv ((z1.drop p1).take p5)) rfl ?c1 HNW.out (bv_one _) ?c3 ?c4 ?c5 ?_)
          case c1 => rw [bv, List.length_map, List.length_take, List.length_drop, hl1]; omega
          case c3 => unfold maxLen; omega
          case c4 => omega
          case c5 => omega
          intro v4 w4 ho hg4 hn4'
          have HB4 := Lib.hid (HB.out.trans (below_grown hszB HOW.out hg4))
          have HOW4 : Hid (w4.ownsRow B 5 1 v4 (out ++ (z1.drop p1).take p5).length (bv (out ++ (z1.drop p1).take p5))) := Lib.hid (own_conv ho (by simp [bv]))
          have hout4 : ((out ++ (z1.drop p1).take p5).length : Int) ≤ n4 := by rw [List.length_append, List.length_take, List.length_drop, hl1]; omega
          clear ho hg4 hn4' HOW HNW HOWN HG1 HG5
          go_wp2
          go_roundg (l2 - (k + 9))
          case measure => have := HK.out; omega
          case rel => exact ⟨k + 9, _, Lib.hid (Nat.le_refl _), by omega, by omega, by go_num, HOW4, HB4, HR0, hout4⟩
      by_cases t2 : z0 = 2
      · have q1 : (z0 == 1) = false := by simp [t1]
        have q2 : (z0 == 2) = true := by simp [t2]
        clear t1
        by_cases t5 : l2 - k < 5
        · have HR : Hid (ap z1 z2 = ([], 14)) := Lib.hid (by rw [HRUN.out]; exact HC2.out t2 t5)
          clear t2 HC1 HC1B HC1O HC2 HC2C HC2B HC2O HC3 HRUN
          go_wp2
          go_ret2
          rw [HR.out]
          exact ApRet.nil HB.out
        by_cases tc : ((l2 - k - 5 : Nat) : Int) < n1
        · have HR : Hid (ap z1 z2 = ([], 14)) := Lib.hid (by rw [HRUN.out]; exact HC2C.out t2 t5 tc)
          have tc' : (l2 : Int) - (k : Int) - 5 < n1 := by omega
          clear t2 tc HC1 HC1B HC1O HC2 HC2C HC2B HC2O HC3 HRUN
          go_wp2_with fail
          refine (HG1.out (by omega)).mono ?_
          rintro e w' ⟨rfl, rfl⟩
          go_wp2
          go_ret2
          rw [HR.out]
          exact ApRet.nil HB.out
        have tc' : n1 ≤ (l2 : Int) - (k : Int) - 5 := by omega
        by_cases tb : n1 = 0 ∨ n4 - (out.length : Int) < n1
        · have HR : Hid (ap z1 z2 = ([], 16)) := Lib.hid (by rw [HRUN.out]; exact HC2B.out t2 t5 tc tb)
          clear t2 tc HC1 HC1B HC1O HC2 HC2C HC2B HC2O HC3 HRUN
          rcases (show n1 = 0 ∨ (¬ n1 = 0 ∧ n4 - (out.length : Int) < n1) from by omega) with t | ⟨tz, t⟩
          · have tq : (n1 == 0) = true := by simp [t]
            clear tb t
            go_wp2_with fail
            refine (HG1.out (by omega)).mono ?_
            rintro e w' ⟨rfl, rfl⟩
            go_wp2
            go_ret2
            rw [HR.out]
            exact ApRet.nil HB.out
          · have tq : (n1 == 0) = false := by simp [tz]
            clear tb tz
            go_wp2_with fail
            refine (HG1.out (by omega)).mono ?_
            rintro e w' ⟨rfl, rfl⟩
            go_wp2
            go_ret2
            rw [HR.out]
            exact ApRet.nil HB.out
        · have HR0 := Lib.hid (HRUN.out.trans (HC2O.out t2 t5 tc tb))
          clear t2 tc HC1 HC1B HC1O HC2 HC2C HC2B HC2O HC3 HRUN
          have tq : (n1 == 0) = false := by simp; omega
          obtain ⟨p1, rfl⟩ := Int.eq_ofNat_of_zero_le hn1.1
          rw [Int.toNat_natCast, List.drop_drop, List.drop_drop] at HR0
          have f1 : (k + 5) + p1 ≤ l2 := by omega
          have f2 : 0 < p1 := by omega
          have hcap : ¬ c2 = k + 5 := by omega
          have f3 : n4 - (out.length : Int) ≥ p1 := by omega
          have HNW := Lib.hid (piece_cells H2.out HL2.out HB.out (k + 5) p1 f1)
          clear tb
          go_wp2_with fail
          refine (HG1.out (by omega)).mono ?_
          rintro e w' ⟨rfl, rfl⟩
          go_wp2_with (at_builtin; refine wpList_append_own _ rfl _ _ 22 rfl B 5 i0 (.int .u8 0) 1 1 Try.underlying22 hi hz0 hz1 hz2 rfl (by decide) _ _ _ rfl HOW.out ⟨x2, o2 + (k + 5), none⟩ _ (c2 - (k + 5)) (bv ((z2.drop (k + 5)).take p1)) rfl ?c1 HNW.out (bv_one _) ?c3 ?c4 ?c5 ?_)
          case c1 => rw [bv, List.length_map, List.length_take, List.length_drop, hl2]; omega
          case c3 => unfold maxLen; omega
          case c4 => omega
          case c5 => omega
          intro v4 w4 ho hg4 hn4'
          have HB4 := Lib.hid (HB.out.trans (below_grown hszB HOW.out hg4))
          have HOW4 : Hid (w4.ownsRow B 5 1 v4 (out ++ (z2.drop (k + 5)).take p1).length (bv (out ++ (z2.drop (k + 5)).take p1))) := Lib.hid (own_conv ho (by simp [bv]))
          have hout4 : ((out ++ (z2.drop (k + 5)).take p1).length : Int) ≤ n4 := by rw [List.length_append, List.length_take, List.length_drop, hl2]; omega
          clear ho hg4 hn4' HOW HNW HOWN HG1 HG5
          go_wp2
          go_roundg (l2 - (k + 5 + p1))
          case measure => have := HK.out; omega
          case rel => exact ⟨k + 5 + p1, _, Lib.hid (Nat.le_refl _), by omega, by omega, by go_num, HOW4, HB4, by rw [Nat.add_assoc]; exact HR0, hout4⟩
      · have HR : Hid (ap z1 z2 = ([], 16)) := Lib.hid (by rw [HRUN.out]; exact HC3.out t1 t2)
        have q1 : (z0 == 1) = false := by simp [t1]
        have q2 : (z0 == 2) = false := by simp [t2]
        clear t1 t2 HC1 HC1B HC1O HC2 HC2C HC2B HC2O HC3 HRUN
        go_wp2
        go_ret2
        rw [HR.out]
        exact ApRet.nil HB.out
    · have hz : (z2.drop k).length = 0 := by rw [List.length_drop, hl2]; omega
      have HE := Lib.hid (run_stop z1 n4 (z2.drop k) out hz)
      clear hz
      by_cases hw : (out.length : Int) < n4
      · have HR : Hid (ap z1 z2 = ([], 16)) := Lib.hid (by rw [HRUN.out, HE.out, if_pos hw])
        have hq : ((out.length : Int) != n4) = true := by simp; omega
        clear HE HRUN
        go_wp2
        go_ret2
        rw [HR.out]
        exact ApRet.nil HB.out
      · have HR : Hid (ap z1 z2 = (out, 0)) := Lib.hid (by rw [HRUN.out, HE.out, if_neg hw])
        have hq : ((out.length : Int) != n4) = false := by simp; omega
        clear HE HRUN
        go_wp2
        go_ret2
        rw [HR.out]
        exact ⟨_, rfl, HOW.out, HB.out⟩
end Go.Proofs.Ytkelgaanehihbaa.Dt
