/- DeltaBack: whatever the input, the law returns true, and each argument reads as it did before. No condition. -/
import Derived.Test.YtkelgaanehihbaaRows
import Derived.WalkKit
import Derived.ProofKit
import Derived.OpenShut
import Derived.ShutString
import Derived.SizedLaws
import Derived.Below
import Derived.Deep.QuietTactic
import Derived.BigQuiet
import Derived.RegionTactic
import Derived.BigRegion
import Derived.Outline
import Derived.Deep.RegionLaw
import Derived.Lib.Hide
import Derived.WalkSpells
import Derived.WalkLawsBesides
import Derived.Test.YtkelgaanehihbaaFrInts
import Derived.Test.YtkelgaanehihbaaDtApp
namespace Go.Proofs.Ytkelgaanehihbaa.deltaBack
open Go.ChangeShapes Go.WideShapes Go.ChangeAt Go.RowKit
open Go.ChangeMaps (open_string shut_string)
set_option linter.unusedVariables false

theorem own : ownKnob Try.prog.godebug = none := by kernel_rfl
theorem laidOut : laidOutB Try.prog = true := by kernel_rfl

set_option maxRecDepth 100000 in
set_option maxHeartbeats 2000000 in
theorem walk_out (w : World) (v0 v3 : Option Addr) (l0 l3 c0 c3 : Nat) (v1 v2 : Int) (h0 : l0 ≤ 140737488355328) (h3 : l3 ≤ 140737488355328) (h : 5000 < l0 ∨ (l0 ≤ 5000 ∧ 5000 < l3)) :
    Calls Try.prog 5 #[.slice v0 l0 c0, .int .i64 v1, .int .i64 v2, .slice v3 l3 c3] w fun e w' => e = .returned (.bool true) ∧ Below w.heap.size w w' := by
  have HK := Lib.hid (Dt.known_any w)
  rcases h with h | ⟨ha, h⟩
  all_goals
    go_enter Try.func5, Try.ntmps5
    go_wp2_with fail
    refine HK.out.mono ?_
    rintro e w1 ⟨rfl, hb⟩
    have HB := Lib.hid hb
    clear hb
    go_wp2
    go_ret
    exact ⟨rfl, HB.out⟩

set_option maxRecDepth 100000 in
set_option maxHeartbeats 2000000 in
theorem walk (w : World) (a0 : Option Addr) (len0 cap0 : Nat) (z0 : List Int) (w0 : Fr.IsInts .u8 1 w a0 len0 cap0 z0) (a1 : Int) (w1 : (Lit.int .i64 a1).wf = true) (a2 : Int) (w2 : (Lit.int .i64 a2).wf = true) (a3 : Option Addr) (len3 cap3 : Nat) (z3 : List Int) (w3 : Fr.IsInts .u8 1 w a3 len3 cap3 z3) :
    Calls Try.prog 5 #[.slice a0 len0 cap0, .int .i64 a1, .int .i64 a2, .slice a3 len3 cap3] w fun e w' => e = .returned (.bool true) ∧ Below w.heap.size w w' := by
  obtain ⟨s0, n0⟩ := Dt.sl_of_ints w0
  obtain ⟨s3, n3⟩ := Dt.sl_of_ints w3
  have wb1 := Wi.wf_bounds w1
  have wb2 := Wi.wf_bounds w2
  by_cases hbig : 5000 < len0 ∨ (len0 ≤ 5000 ∧ 5000 < len3)
  · exact walk_out w a0 a3 len0 len3 cap0 cap3 a1 a2 s0.hbig s3.hbig hbig
  have b0 : len0 ≤ 5000 := by omega
  have b3 : len3 ≤ 5000 := by omega
  clear hbig
  have HK := Lib.hid (Dt.known_any w)
  have HS0 := Lib.hid s0; have HN0 := Lib.hid n0
  have HS3 := Lib.hid s3; have HN3 := Lib.hid n3
  have hcap := s0.hcap
  have hz0 := s0.hlen
  have hz3 := s3.hlen
  clear s0 s3 n0 n3 w0 w3 w1 w2
  obtain ⟨i, hi, hil⟩ : ∃ i : Nat, a1 % ((len0 : Int) + 1) = (i : Int) ∧ i ≤ len0 := ⟨(a1 % ((len0 : Int) + 1)).toNat, by have := Int.emod_nonneg a1 (b := ((len0 : Int) + 1)) (by omega); omega, by have := Int.emod_lt_of_pos a1 (b := ((len0 : Int) + 1)) (by omega); have := Int.emod_nonneg a1 (b := ((len0 : Int) + 1)) (by omega); omega⟩
  obtain ⟨k, hk, hkl⟩ : ∃ k : Nat, a2 % ((len0 : Int) + 1) = (k : Int) ∧ k ≤ len0 := ⟨(a2 % ((len0 : Int) + 1)).toNat, by have := Int.emod_nonneg a2 (b := ((len0 : Int) + 1)) (by omega); omega, by have := Int.emod_lt_of_pos a2 (b := ((len0 : Int) + 1)) (by omega); have := Int.emod_nonneg a2 (b := ((len0 : Int) + 1)) (by omega); omega⟩
  have HW1 : Hid (∀ W, Calls Try.prog 12 #[.int .i64 a1, .int .i64 ((len0 : Int) + 1)] W fun e w' => e = .returned (.int .i64 i) ∧ W = w') := Lib.hid (fun W => by have := Wi.within_any a1 ((len0 : Int) + 1) W (by omega) (by omega) wb1.1 wb1.2; rw [hi] at this; exact this)
  have HW2 : Hid (∀ W, Calls Try.prog 12 #[.int .i64 a2, .int .i64 ((len0 : Int) + 1)] W fun e w' => e = .returned (.int .i64 k) ∧ W = w') := Lib.hid (fun W => by have := Wi.within_any a2 ((len0 : Int) + 1) W (by omega) (by omega) wb2.1 wb2.2; rw [hk] at this; exact this)
  clear hi hk wb1 wb2
  go_enter Try.func5, Try.ntmps5
  go_wp2_with fail
  refine HK.out.mono ?_
  rintro e w1 ⟨rfl, hb⟩
  have hsz1 := hb.size
  have HB1 := Lib.hid hb
  clear hb HK
  go_wp2_with fail
  refine (HW1.out _).mono ?_
  rintro e w' ⟨rfl, rfl⟩
  clear HW1
  go_wp2_with fail
  refine (HW2.out _).mono ?_
  rintro e w' ⟨rfl, rfl⟩
  clear HW2
  have HT1 : Hid (∀ W, Below w.heap.size w W → Dt.Sl W a0 i cap0 (z0.take i)) := Lib.hid (fun W hb => (HS0.out.kept hb HN0.out).take i hil)
  have HT2 : Hid (∀ W, Below w.heap.size w W → Dt.Sl W a3 len3 cap3 z3) := Lib.hid (fun W hb => HS3.out.kept hb HN3.out)
  obtain ⟨AD, hAD⟩ : ∃ AD, (if cap0 = k then a0 else Option.map (fun x => x.add k) a0) = AD := ⟨_, rfl⟩
  have HT3 : Hid (∀ W, Below w.heap.size w W → Dt.Sl W AD (len0 - k) (cap0 - k) (z0.drop k)) := Lib.hid (fun W hb => by rw [← hAD]; exact (HS0.out.kept hb HN0.out).drop k hkl)
  have HBA : Hid (Below w.heap.size w (w1.alloc (.cells #[] 5)).drew) := Lib.hid (Dt.below_drewN (HB1.out.alloc hsz1 _) 1)
  have HOA : Hid ((w1.alloc (.cells #[] 5)).drew.ownsRow w.heap.size 5 1 (.slice (some ⟨w1.heap.size, 0, none⟩) 0 0) 0 (Dt.bv [])) := Lib.hid (Dt.own_empty w1 w.heap.size hsz1).drew
  have hicap : i ≤ cap0 := by omega
  generalize hT : z0.take i ++ z3 ++ z0.drop k = T
  have HTB : Hid (∀ y ∈ T, 0 ≤ y ∧ y ≤ 255) := Lib.hid (fun y hy => by
    have hall : ∀ (l : List Int) (n : Nat), l.length = n → (∀ i, i < n → 0 ≤ l.getD i 0 ∧ l.getD i 0 ≤ 255) → ∀ y ∈ l, 0 ≤ y ∧ y ≤ 255 := by
      intro l n hl hb y hy
      obtain ⟨j, hj, rfl⟩ := List.getElem_of_mem hy
      have := hb j (by omega)
      simpa [List.getD, hj] using this
    rw [← hT] at hy
    rcases List.mem_append.1 hy with h | h
    · rcases List.mem_append.1 h with h | h
      · exact hall z0 len0 hz0 HS0.out.hbyte y (List.mem_of_mem_take h)
      · exact hall z3 len3 hz3 HS3.out.hbyte y h
    · exact hall z0 len0 hz0 HS0.out.hbyte y (List.mem_of_mem_drop h))
  have hTl : T.length = i + len3 + (len0 - k) := by rw [← hT, List.length_append, List.length_append, List.length_take, List.length_drop]; omega
  go_upto_region 6 with (fail)
  go_cut [11] (fun s wx => ∃ A C, s = .slice A (i + len3 + (len0 - k)) C ∧ Hid (wx.ownsRow w.heap.size 5 1 (.slice A (i + len3 + (len0 - k)) C) (i + len3 + (len0 - k)) (Dt.bv T)) ∧ Hid (Below w.heap.size w wx))
  case first =>
    go_region_law (first
      | (refine Dt.step_append_sl _ rfl (.tmp 38) (.tmp 41) rfl w.heap.size _ 0 [] rfl HOA.out a0 i cap0 (z0.take i) rfl (HT1.out _ HBA.out) i (Nat.zero_add i) (z0.take i) rfl (by omega) HBA.out.size ?_
         intro A1 C1 W1 ho1 hb1
         have HO1 := Lib.hid ho1; have HB1' := Lib.hid (HBA.out.trans (hb1.mono (Nat.le_refl _))); clear ho1 hb1)
      | (refine Dt.step_append_sl _ rfl (.tmp 42) (.tmp 43) rfl w.heap.size _ _ _ rfl HO1.out a3 len3 cap3 z3 rfl (HT2.out _ HB1'.out) (i + len3) rfl (z0.take i ++ z3) rfl (by omega) HB1'.out.size ?_
         intro A2 C2 W2 ho2 hb2
         have HO2 := Lib.hid ho2; have HB2' := Lib.hid (HB1'.out.trans hb2); clear ho2 hb2)
      | (refine Dt.step_append_sl _ rfl (.tmp 44) (.tmp 47) rfl w.heap.size _ _ _ rfl HO2.out AD (len0 - k) (cap0 - k) (z0.drop k) rfl (HT3.out _ HB2'.out) (i + len3 + (len0 - k)) rfl T hT (by omega) HB2'.out.size ?_
         intro A3 C3 W3 ho3 hb3
         have HO3 := Lib.hid ho3; have HB3' := Lib.hid (HB2'.out.trans hb3); clear ho3 hb3))
    all_goals (clear hAD; go_wp2; go_meet)
    all_goals exact ⟨_, _, rfl, HO3, HB3'⟩
  case rest =>
    obtain ⟨A, C, rfl, HOT, HBT⟩ := hcut
    clear hAD HT1 HT2 HT3 HOA HBA HB1 HS3 HN3 hT hicap
    generalize hn : i + len3 + (len0 - k) = n at *
    have hnn : n ≤ 15000 := by omega
    have HTL := Lib.hid hTl
    have HZL := Lib.hid hz0
    clear hn hz3
    have HSLT := Lib.hid (Dt.own_sl HOT.out (Dt.getD_byte HTB.out) (by omega)).1
    have HLTT := Lib.hid (Dt.own_lt HOT.out)
    have hszT := HBT.out.size
    have HAPM := Lib.hid (Dt.ap_mk z0 T (by omega) (by omega))
    have HOTH := Lib.hid (fun y (hy : y.length ≠ z0.length) => Dt.ap_other z0 T y (by omega) hy)
    have hml : (Dt.mk z0 T).length ≤ T.length + 31 := Dt.mkW_len _ _ _ _
    rw [hTl] at hml
    have HMB := Lib.hid (Dt.mk_byte z0 T (Dt.getD_byte HTB.out))
    generalize hDD : Dt.mk z0 T = D at *
    have HDD := Lib.hid hDD
    clear hDD
    generalize hDn : D.length = dn at *
    have HDN := Lib.hid hDn
    clear hTl hz0 hDn
    go_wp2_with fail
    refine (Dt.make_any wc.heap.size _ _ _ z0 _ _ _ T _ (HS0.out.kept HBT.out HN0.out) HSLT.out (Nat.le_refl _) (fun b off he _ => HLTT.out b off he) (by omega)).mono ?_
    rw [HDD.out, HDN.out]
    rintro e w2 ⟨v2, rfl, ho2, hn2, hb2⟩
    obtain ⟨A2, C2, hv2, -, -, -⟩ := Dt.own_shape ho2
    subst hv2
    have hsz2 := hb2.size
    have HO2 := Lib.hid ho2
    have HB2 := Lib.hid (HBT.out.trans (hb2.mono hszT))
    have HOT2 := Lib.hid (Dt.own_later HOT.out hb2)
    clear ho2 hn2 hb2 HSLT HLTT
    have HSL2 := Lib.hid (Dt.own_sl HO2.out (Dt.getD_byte HMB.out) (by omega)).1
    have HLT2 := Lib.hid (Dt.own_lt HO2.out)
    go_wp2_with fail
    refine (Dt.apply_any w2.heap.size _ _ _ z0 _ _ _ D _ (HS0.out.kept HB2.out HN0.out) HSL2.out (Nat.le_refl _) (fun b off he hl => by have := HN0.out b off he hl; omega) (fun b off he _ => HLT2.out b off he)).mono ?_
    rw [HAPM.out]
    rintro e w3 ⟨v3, rfl, ho3, hb3⟩
    obtain ⟨A3, C3, hv3, -, -, -⟩ := Dt.own_shape ho3
    subst hv3
    have hsz3 := hb3.size
    have HSL3 := Lib.hid (HSL2.out.kept hb3 (fun b off he _ => HLT2.out b off he))
    have HB3 := Lib.hid (HB2.out.trans (hb3.mono (by omega)))
    have cvT := Dt.conv_own (Dt.own_later HOT2.out hb3)
    have cv3 := Dt.conv_own ho3
    clear ho3 hb3 HO2 HOT2 HSL2 HAPM HMB HTB HOT
    have hq : ((Dt.sb T).toList == (Dt.sb T).toList) = true := by simp
    go_wp2_with fail
    clear cvT cv3 hq
    have hbb := HS0.out.hbyte
    have HMS := Lib.hid (show (0 < len0 → (Dt.mk z0 z0).length = 17) from fun h => Dt.mk_same z0 (by rw [HZL.out]; exact h))
    have HB3s := HB3.out.size
    refine (Dt.make_any w3.heap.size _ _ _ z0 _ _ _ z0 _ (HS0.out.kept HB3.out HN0.out) (HS0.out.kept HB3.out HN0.out) (Nat.le_refl _) (fun b off he hl => by have := HN0.out b off he hl; omega) (by omega)).mono ?_
    rintro e w4 ⟨v4, rfl, ho4, hn4, hb4⟩
    obtain ⟨A4, C4, hv4, -, -, -⟩ := Dt.own_shape ho4
    subst hv4
    have hsz4 := hb4.size
    have HSL4 := Lib.hid (HSL3.out.kept hb4 (fun b off he _ => by have := HLT2.out b off he; omega))
    have HB4 := Lib.hid (HB3.out.trans (hb4.mono (by omega)))
    clear ho4 hn4 hb4 HSL3 hbb
    generalize (Dt.mk z0 z0).length = sn at *
    have hsw4 := HB4.out.size
    have HBE := Lib.hid (HB4.out.alloc hsw4 (.cells #[] 5))
    have HBX := Lib.hid ((Below.refl w4.heap.size w4).alloc (Nat.le_refl _) (.cells #[] 5))
    have HOE := Lib.hid (Dt.own_empty w4 w4.heap.size (Nat.le_refl _))
    have HSE := Lib.hid (HS0.out.kept HBE.out HN0.out)
    have HS1 := Lib.hid (fun W => Dt.sl_mark W [1] 5 (0, 0) 1 rfl (by omega) (by decide))
    have hcases : 0 < len0 ∨ len0 = 0 := by omega
    have HDL := Lib.hid (show (∀ b off, A2 = some (⟨b, off, none⟩ : Addr) → 0 < dn → b < w4.heap.size) from fun b off he _ => by have := HLT2.out b off he; omega)
    have HZ1 := Lib.hid (show (z0 ++ [1]).length ≠ z0.length by simp)
    have HZB := Lib.hid (show ∀ y ∈ z0 ++ [1], 0 ≤ y ∧ y ≤ 255 from fun y hy => by
      rcases List.mem_append.1 hy with h | h
      · obtain ⟨j, hj, rfl⟩ := List.getElem_of_mem h
        have := HS0.out.hbyte j (by have := HZL.out; omega)
        simpa [List.getD, hj] using this
      · simp at h; subst h; omega)
    rcases hcases with hpos | hpos
    · obtain rfl := HMS.out hpos
      clear HMS
      go_wp2_with (at_builtin; refine Dt.wpList_append_sl _ rfl (.tmp 87) (.tmp 88) rfl w4.heap.size _ 0 [] rfl HOE.out a0 len0 cap0 z0 rfl HSE.out len0 (Nat.zero_add _) z0 rfl (by omega) HBX.out.size ?_)
      intro A5 C5 w5 ho5 hb5
      have HB5 := Lib.hid (HBX.out.trans hb5)
      have hsw5 := HB5.out.size
      have HO5 := Lib.hid ho5
      clear ho5 hb5
      go_wp2_with (at_builtin; refine Dt.wpList_append_sl _ rfl _ _ rfl w4.heap.size _ len0 z0 rfl (HO5.out.alloc _) (some ⟨w5.heap.size, 0, none⟩) 1 1 [1] rfl (HS1.out w5) (len0 + 1) rfl (z0 ++ [1]) rfl (by omega) (by simp; omega) ?_)
      intro A6 C6 w6 ho6 hb6
      have HB6 := Lib.hid ((HB5.out.alloc hsw5 _).trans hb6)
      have hsw6 := HB6.out.size
      have HSL6 := Lib.hid (HSL4.out.kept HB6.out HDL.out)
      have HX6 := Lib.hid (Dt.own_sl ho6 (Dt.getD_byte HZB.out) (by omega)).1
      have HXL := Lib.hid (Dt.own_lt ho6)
      clear ho6 hb6 HO5 HB5
      go_wp2_with fail
      refine (Dt.apply_any w6.heap.size _ _ _ (z0 ++ [1]) _ _ _ D _ HX6.out HSL6.out (Nat.le_refl _) (fun b off he _ => HXL.out b off he) (fun b off he hl => by have := HDL.out b off he hl; omega)).mono ?_
      rw [HOTH.out _ HZ1.out]
      rintro e w7 ⟨v7, rfl, ho7, hb7⟩
      have HB7 := Lib.hid ((HB4.out.trans (HB6.out.mono hsw4)).trans (hb7.mono (by omega)))
      clear ho7 hb7
      go_wp2
      go_ret
      exact ⟨rfl, HB7.out⟩
    · subst hpos
      clear HMS
      go_wp2_with (at_builtin; refine Dt.wpList_append_sl _ rfl (.tmp 87) (.tmp 88) rfl w4.heap.size _ 0 [] rfl HOE.out a0 0 cap0 z0 rfl HSE.out 0 (Nat.zero_add _) z0 rfl (by omega) HBX.out.size ?_)
      intro A5 C5 w5 ho5 hb5
      have HB5 := Lib.hid (HBX.out.trans hb5)
      have hsw5 := HB5.out.size
      have HO5 := Lib.hid ho5
      clear ho5 hb5
      go_wp2_with (at_builtin; refine Dt.wpList_append_sl _ rfl _ _ rfl w4.heap.size _ 0 z0 rfl (HO5.out.alloc _) (some ⟨w5.heap.size, 0, none⟩) 1 1 [1] rfl (HS1.out w5) (0 + 1) rfl (z0 ++ [1]) rfl (by omega) (by simp; omega) ?_)
      intro A6 C6 w6 ho6 hb6
      have HB6 := Lib.hid ((HB5.out.alloc hsw5 _).trans hb6)
      have hsw6 := HB6.out.size
      have HSL6 := Lib.hid (HSL4.out.kept HB6.out HDL.out)
      have HX6 := Lib.hid (Dt.own_sl ho6 (Dt.getD_byte HZB.out) (by omega)).1
      have HXL := Lib.hid (Dt.own_lt ho6)
      clear ho6 hb6 HO5 HB5
      go_wp2_with fail
      refine (Dt.apply_any w6.heap.size _ _ _ (z0 ++ [1]) _ _ _ D _ HX6.out HSL6.out (Nat.le_refl _) (fun b off he _ => HXL.out b off he) (fun b off he hl => by have := HDL.out b off he hl; omega)).mono ?_
      rw [HOTH.out _ HZ1.out]
      rintro e w7 ⟨v7, rfl, ho7, hb7⟩
      have HB7 := Lib.hid ((HB4.out.trans (HB6.out.mono hsw4)).trans (hb7.mono (by omega)))
      clear ho7 hb7
      go_wp2
      go_ret
      exact ⟨rfl, HB7.out⟩

set_option maxRecDepth 100000 in
theorem lifted (os : Os) (started : os.Started) (H : Type) (enc : TypeId × Value → H) :
    ReturnsInHanded {} Try.checked os 5 .any (Rows.deltaBackSpec.pre6 enc Try.prog Try.f5 Rows.deltaBackRow.domain false) (Rows.deltaBackSpec.post enc Try.prog Try.f5 false true false false) := by
  refine returnsInHanded_of_change_sized (C := Try.checked) own started (by kernel_rfl) Try.func5
    (ChangeSpec.witness6 (enc := enc) (C := Try.checked) false ⟨#[], #[.slice none 0 0, .int .i64 0, .int .i64 0, .slice none 0 0], []⟩ 8 (by kernel_rfl) (by kernel_rfl) (by kernel_rfl) (by kernel_rfl)) ?_
  intro W base args ds gs before hval0 hW _ hsz0 _
  have hsz : (DataW.weightsEach Try.prog (Try.f5.params.toList ++ Rows.deltaBackSpec.plain.varTypes Try.prog) (ds ++ gs)).all (· ≤ reachBytes) = true := hsz0
  clear hsz0
  have hval : ∀ (j : Nat) t v, Try.f5.params[j]? = some t → args[j]? = some v → Value.okWide Try.prog W .any base t v := hval0
  have hW' := hW
  obtain ⟨p, q, hA0, hV, rfl, _, _⟩ := hW
  have hA : DataW.TrodAll enc Try.prog W 0 (fun _ => true) true Try.f5.params.toList args.toList ds p := hA0
  rw [Try.params5] at hA hval hsz
  obtain ⟨v0, vs0, d0, ds0, p0, q0, hargs, rfl, rfl, h0, r0⟩ := trodAll_cons hA
  obtain ⟨v1, vs1, d1, ds1, p1, q1, rfl, rfl, rfl, h1, r1⟩ := trodAll_cons r0
  obtain ⟨v2, vs2, d2, ds2, p2, q2, rfl, rfl, rfl, h2, r2⟩ := trodAll_cons r1
  obtain ⟨v3, vs3, d3, ds3, p3, q3, rfl, rfl, rfl, h3, r3⟩ := trodAll_cons r2
  obtain ⟨rfl, rfl, rfl⟩ := trodAll_nil r3
  obtain rfl : args = #[v0, v1, v2, v3] := by cases args; simp_all
  obtain ⟨rfl, rfl⟩ := trodVars_none hV
  have k0 := h0
  have lt0 : ∀ x ∈ p0, x.block < W.heap.size := by obtain ⟨m, hm⟩ := k0; exact DataW.trod_lt m _ _ _ hm
  have k1 := h1
  have lt1 : ∀ x ∈ p1, x.block < W.heap.size := by obtain ⟨m, hm⟩ := k1; exact DataW.trod_lt m _ _ _ hm
  have k2 := h2
  have lt2 : ∀ x ∈ p2, x.block < W.heap.size := by obtain ⟨m, hm⟩ := k2; exact DataW.trod_lt m _ _ _ hm
  have k3 := h3
  have lt3 : ∀ x ∈ p3, x.block < W.heap.size := by obtain ⟨m, hm⟩ := k3; exact DataW.trod_lt m _ _ _ hm
  obtain ⟨a0, len0, cap0, rfl⟩ := okWide_slice Try.underlying22 (hval 0 22 v0 rfl rfl)
  obtain ⟨z0, w0⟩ := Fr.isInts_of (b := 1) Try.underlying22 Try.underlying5 (by kernel_rfl) (by kernel_rfl) hsz (j := 0) rfl rfl h0
  obtain ⟨a1, rfl, rfl, rfl, w1⟩ := open_int Try.underlying3 (hval 1 3 v1 rfl rfl) h1
  obtain ⟨a2, rfl, rfl, rfl, w2⟩ := open_int Try.underlying3 (hval 2 3 v2 rfl rfl) h2
  obtain ⟨a3, len3, cap3, rfl⟩ := okWide_slice Try.underlying22 (hval 3 22 v3 rfl rfl)
  obtain ⟨z3, w3⟩ := Fr.isInts_of (b := 1) Try.underlying22 Try.underlying5 (by kernel_rfl) (by kernel_rfl) hsz (j := 3) rfl rfl h3
  clear hA0 hval0
  simp only [List.append_nil] at hW'
  refine (walk W a0 len0 cap0 z0 w0 a1 w1 a2 w2 a3 len3 cap3 z3 w3).mono fun e W' ⟨he, bel⟩ => ?_
  subst he
  exact ⟨_, rfl, _, _, _, [], _, [], hW', trodAll_mk1 (shut_bool Try.underlying4 _), (trodAll_cons_mk (Below.trod laidOut (by kernel_rfl) (of_decide_eq_true (by kernel_rfl)) k0 bel lt0) (trodAll_cons_mk (Below.trod laidOut (by kernel_rfl) (of_decide_eq_true (by kernel_rfl)) k1 bel lt1) (trodAll_cons_mk (Below.trod laidOut (by kernel_rfl) (of_decide_eq_true (by kernel_rfl)) k2 bel lt2) (trodAll_cons_mk (Below.trod laidOut (by kernel_rfl) (of_decide_eq_true (by kernel_rfl)) k3 bel lt3) trodAll_mk0)))), rfl, bel.frame _, fun h => by cases h⟩

theorem over : Rows.deltaBackRow.holds Try.pinned (OpenSpec.ofChange Rows.deltaBackSpec) :=
  OpenClaim.holds_of_wide 5 Try.f5 rfl rfl rfl rfl rfl rfl rfl ⟨rfl, rfl, rfl, rfl, rfl⟩ rfl rfl rfl rfl rfl (by kernel_rfl) Try.func5 (by kernel_rfl)
    (of_decide_eq_true (by kernel_rfl)) (by unfold Func.isWrapper; first | (rw [if_pos (by decide +kernel)]; kernel_rfl) | (rw [if_neg (by decide +kernel)]; exact ⟨rfl, rfl⟩))
    (fun os started H enc _ => lifted os started H enc)

/-- The statement. -/
theorem proved : Rows.DeltaBackSaid := over
#print axioms proved
end Go.Proofs.Ytkelgaanehihbaa.deltaBack
