/- The walk of MergeSides. -/
import Derived.Test.YtlaneilmffdahaaMgKnown
import Derived.Test.YtlaneilmffdahaaMgSC
import Derived.Test.YtlaneilmffdahaaMgTurn
namespace Go.Proofs.Ytlaneilmffdahaa.Mg
open Go.RowKit Go.Proofs.Ytlaneilmffdahaa.Ln
set_option linter.unusedVariables false

theorem rjoin_bs (A : Option Addr) (n C : Nat) (ss : List ByteArray) (w : World) (h : Rd w w.heap.size A n C (sv ss)) (hs : (ints ss).length ≤ 100000000) :
    Calls Try.prog 24 #[.slice A n C] w (BsRet (ints ss) w) :=
  (rjoin_any A n C ss w h (by rw [sz_ints]; omega)).mono fun e w' hr => by
    obtain ⟨A', C', he, ho, hb⟩ := hr.outOf
    rw [sz_ints] at he ho
    exact ⟨A', C', he, ho, hb⟩
theorem BsRet.hid {d : List Int} {w w' : World} {e : Ending} (h : BsRet d w e w') (n : Nat) (hn : d.length = n) : ∃ A C, e = .returned (.slice A n C) ∧ Hid (w'.ownsRow w.heap.size 5 1 (.slice A n C) n (bv d)) ∧ Hid (Below w.heap.size w w') := by
  subst hn
  obtain ⟨A, C, he, ho, hb⟩ := h
  exact ⟨A, C, he, Lib.hid ho, Lib.hid hb⟩
theorem ChRet.rdn {l : List Ch} {w w' : World} {e : Ending} (h : ChRet l w e w') (hl : linesC l ≤ 100000000) (n : Nat) (hn : l.length = n) : ∃ A C, e = .returned (.tuple #[.slice A n C, .int .i64 0]) ∧ Hid (RdC w' w'.heap.size A n C l) ∧ Hid (Below w.heap.size w w') := by
  subst hn
  obtain ⟨A, C, he, hr, hb⟩ := h.rd hl
  exact ⟨A, C, he, Lib.hid hr, Lib.hid hb⟩
theorem turnK_turnK (k : Int) : turnK (turnK k) = k := by
  unfold turnK
  by_cases h1 : k = 1
  · simp [h1]
  · by_cases h2 : k = 2
    · simp [h2]
    · simp [h1, h2]
theorem turn_turn (l : List Ch) : (l.map turnC).map turnC = l := by
  rw [List.map_map]
  conv => rhs; rw [← List.map_id l]
  refine List.map_congr_left fun c _ => ?_
  obtain ⟨k, b, o, t⟩ := c
  simp only [Function.comp, id, turnC, turnK_turnK]
theorem rd_of {w w' : World} {B n : Nat} {A : Option Addr} {C : Nat} {d : List Int} (h : w.ownsRow B 5 1 (.slice A n C) n (bv d)) (hn : n ≤ 100000000) (hb : Below w.heap.size w w') : Rd w' w'.heap.size A n C (bv d) :=
  (Rd.of_own (own_keep h hb) (by omega)).1

set_option maxRecDepth 100000 in
set_option maxHeartbeats 4000000 in
theorem walk_sides (w : World) (a0 : Option Addr) (len0 cap0 : Nat) (s0 : List ByteArray) (a1 : Option Addr) (len1 cap1 : Nat) (s1 : List ByteArray) (a2 : Option Addr) (len2 cap2 : Nat) (s2 : List ByteArray)
    (r0 : Rd w w.heap.size a0 len0 cap0 (sv s0)) (r1 : Rd w w.heap.size a1 len1 cap1 (sv s1)) (r2 : Rd w w.heap.size a2 len2 cap2 (sv s2))
    (q0 : ∀ s ∈ s0, s.size ≤ 140737488351232) (q1 : ∀ s ∈ s1, s.size ≤ 140737488351232) (q2 : ∀ s ∈ s2, s.size ≤ 140737488351232) :
    Calls Try.prog 5 #[.slice a0 len0 cap0, .slice a1 len1 cap1, .slice a2 len2 cap2] w fun e w' => e = .returned (.bool true) ∧ Below w.heap.size w w' := by
  have HK := Lib.hid (known_any w)
  have RR := Lib.hid (fun (wx : World) (hb : Below w.heap.size w wx) => (show Rd wx wx.heap.size a0 len0 cap0 (sv s0) ∧ Rd wx wx.heap.size a1 len1 cap1 (sv s1) ∧ Rd wx wx.heap.size a2 len2 cap2 (sv s2) from ⟨(r0.below hb).more hb.size, (r1.below hb).more hb.size, (r2.below hb).more hb.size⟩))
  have M : Hid ((∀ s ∈ s0, s.size ≤ maxLen) ∧ (∀ s ∈ s1, s.size ≤ maxLen) ∧ ∀ s ∈ s2, s.size ≤ maxLen) := Lib.hid
    ⟨fun s hs => Nat.le_trans (q0 s hs) (by unfold maxLen; omega), fun s hs => Nat.le_trans (q1 s hs) (by unfold maxLen; omega), fun s hs => Nat.le_trans (q2 s hs) (by unfold maxLen; omega)⟩
  have Q := Lib.hid (And.intro q0 (And.intro q1 q2))
  have E0 := Lib.hid (rd_len r0)
  have E1 := Lib.hid (rd_len r1)
  have E2 := Lib.hid (rd_len r2)
  clear r0 r1 r2 q0 q1 q2
  go_enter Try.func5, Try.ntmps5
  go_wp2_with fail
  refine HK.out.mono ?_
  rintro e w1 ⟨rfl, hb1⟩
  have HB1 := Lib.hid hb1
  have hz1 := HB1.out.size
  clear HK hb1
  go_wp2_with fail
  refine (few3_any w1.heap.size a0 len0 cap0 s0 a1 len1 cap1 s1 a2 len2 cap2 s2 w1 (RR.out w1 HB1.out).1 (RR.out w1 HB1.out).2.1 (RR.out w1 HB1.out).2.2 (Nat.le_refl _) Q.out.1 Q.out.2.1 Q.out.2.2).mono ?_
  rintro e w2 ⟨f, rfl, hf, hb2⟩
  have HB2 := Lib.hid (HB1.out.trans (hb2.mono hz1))
  have hz2 := HB2.out.size
  clear hb2 HB1 hz1 Q
  cases f
  · clear hf
    go_wp2
    go_ret
    exact ⟨rfl, HB2.out⟩
  obtain ⟨⟨n0, y0⟩, ⟨n1, y1⟩, ⟨n2, y2⟩⟩ := hf rfl
  rw [sz_ints] at y0 y1 y2
  have hl1 := linesC_chunks s0 s1 s2
  have hl2 := linesC_chunks s0 s2 s1
  rw [E0.out, E1.out, E2.out] at hl1 hl2
  have hk1 := len_lines _ (chunks_kind s0 s1 s2)
  have hk2 := len_lines _ (chunks_kind s0 s2 s1)
  have HT := Lib.hid (chunks_turn s0 s1 s2)
  have b0 := ints_byte s0
  have b1 := ints_byte s1
  have b2 := ints_byte s2
  have HTz := Lib.hid (chunks_turn (spl (ints s0)) (spl (ints s1)) (spl (ints s2)))
  have HKz := Lib.hid (chunks_kind (spl (ints s0)) (spl (ints s1)) (spl (ints s2)))
  have p0 := spl_lines (ints s0)
  have p1 := spl_lines (ints s1)
  have p2 := spl_lines (ints s2)
  clear hf
  go_wp2_with fail
  refine (chunks_any a0 len0 cap0 s0 a1 len1 cap1 s1 a2 len2 cap2 s2 w2 (RR.out w2 HB2.out).1 (RR.out w2 HB2.out).2.1 (RR.out w2 HB2.out).2.2 M.out.1 M.out.2.1 M.out.2.2 (by omega) (by omega) (by omega)).mono ?_
  rintro e w3 hr
  obtain ⟨m, hm⟩ : ∃ m, m = (chunks s0 s1 s2).length := ⟨_, rfl⟩
  obtain ⟨A3, C3, rfl, HR3, hb3⟩ := hr.rdn (by omega) m hm.symm
  have HMl := Lib.hid hm
  have hm1 : m ≤ 1000 := by omega
  clear hm
  have HB3 := Lib.hid (HB2.out.trans (hb3.out.mono hz2))
  have hz3 := HB3.out.size
  clear hr hb3 HB2 hz2
  go_wp2_with fail
  refine (chunks_any a0 len0 cap0 s0 a2 len2 cap2 s2 a1 len1 cap1 s1 w3 (RR.out w3 HB3.out).1 (RR.out w3 HB3.out).2.2 (RR.out w3 HB3.out).2.1 M.out.1 M.out.2.2 M.out.2.1 (by omega) (by omega) (by omega)).mono ?_
  rintro e w4 hr
  obtain ⟨A4, C4, rfl, HR4, hb4⟩ := hr.rdn (by omega) m (by rw [HT.out, List.length_map]; exact HMl.out.symm)
  have HB4 := Lib.hid (HB3.out.trans (hb4.out.mono hz3))
  have hz4 := HB4.out.size
  have HR3' := Lib.hid ((HR3.out.below hb4.out).more hb4.out.size)
  clear hr hb4 HB3 hz3 HR3 hl1 hl2 hk1 hk2 M
  obtain ⟨j0, hj0⟩ : ∃ j, (ints s0).length = j := ⟨_, rfl⟩
  obtain ⟨j1, hj1⟩ : ∃ j, (ints s1).length = j := ⟨_, rfl⟩
  obtain ⟨j2, hj2⟩ : ∃ j, (ints s2).length = j := ⟨_, rfl⟩
  rw [hj0] at y0 p0
  rw [hj1] at y1 p1
  rw [hj2] at y2 p2
  have J0 := Lib.hid hj0
  have J1 := Lib.hid hj1
  have J2 := Lib.hid hj2
  have B0 := Lib.hid b0
  have B1 := Lib.hid b1
  have B2 := Lib.hid b2
  clear hj0 hj1 hj2 b0 b1 b2
  have MM := Lib.hid (fun (wx : World) (x0 x1 x2 x3 x4 x5 : _) (h0 : Rd wx wx.heap.size x0 j0 x1 (bv (ints s0))) (h1 : Rd wx wx.heap.size x2 j1 x3 (bv (ints s1))) (h2 : Rd wx wx.heap.size x4 j2 x5 (bv (ints s2))) =>
    (And.intro (merge_any x0 j0 x1 (ints s0) x2 j1 x3 (ints s1) x4 j2 x5 (ints s2) wx h0 h1 h2 B0.out B1.out B2.out (by omega) (by omega) (by omega) (by omega) (by omega) (by omega))
      (merge_any x0 j0 x1 (ints s0) x4 j2 x5 (ints s2) x2 j1 x3 (ints s1) wx h0 h2 h1 B0.out B2.out B1.out (by omega) (by omega) (by omega) (by omega) (by omega) (by omega))))
  go_wp2_with fail
  refine (rjoin_bs a0 len0 cap0 s0 w4 (RR.out w4 HB4.out).1 (by rw [J0.out]; omega)).mono ?_
  rintro e w5 hr
  obtain ⟨A5, C5, rfl, HO5, hb5⟩ := hr.hid j0 J0.out
  have HB5 := Lib.hid (HB4.out.trans (hb5.out.mono hz4))
  have hz5 := HB5.out.size
  have G5 := Lib.hid (And.intro (HR3'.out.below hb5.out) (HR4.out.below hb5.out))
  have hz45 := hb5.out.size
  clear hr hb5 HB4 HR3' HR4
  go_wp2_with fail
  refine (rjoin_bs a1 len1 cap1 s1 w5 (RR.out w5 HB5.out).2.1 (by rw [J1.out]; omega)).mono ?_
  rintro e w6 hr
  obtain ⟨A6, C6, rfl, HO6, hb6⟩ := hr.hid j1 J1.out
  have HB6 := Lib.hid (HB5.out.trans (hb6.out.mono hz5))
  have hz6 := HB6.out.size
  have HL5 := Lib.hid hb6.out
  have G6 := Lib.hid (And.intro (G5.out.1.below (hb6.out.mono hz45)) (G5.out.2.below (hb6.out.mono hz45)))
  have hz46 := Nat.le_trans hz45 hb6.out.size
  clear hr hb6 HB5 G5 hz45
  go_wp2_with fail
  refine (rjoin_bs a2 len2 cap2 s2 w6 (RR.out w6 HB6.out).2.2 (by rw [J2.out]; omega)).mono ?_
  rintro e w7 hr
  obtain ⟨A7, C7, rfl, HO7, hb7⟩ := hr.hid j2 J2.out
  have HB7 := Lib.hid (HB6.out.trans (hb7.out.mono hz6))
  have hz7 := HB7.out.size
  have G7 := Lib.hid (And.intro (G6.out.1.below (hb7.out.mono hz46)) (G6.out.2.below (hb7.out.mono hz46)))
  have hz47 := Nat.le_trans hz46 hb7.out.size
  have K5 := Lib.hid (rd_of HO5.out (by omega) (HL5.out.trans (hb7.out.mono HL5.out.size)))
  have K6 := Lib.hid (rd_of HO6.out (by omega) hb7.out)
  have K7 := Lib.hid (rd_of HO7.out (by omega) (Below.refl _ _))
  clear hr hb7 HB6 G6 hz46 HO5 HO6 HO7 HL5
  go_wp2_with fail
  refine (MM.out w7 _ _ _ _ _ _ K5.out K6.out K7.out).1.mono ?_
  rintro e w8 hr
  obtain ⟨x8, hx8⟩ : ∃ x, rend (chunks (spl (ints s0)) (spl (ints s1)) (spl (ints s2))) = x := ⟨_, rfl⟩
  obtain ⟨c8, hc8⟩ : ∃ c, clean (chunks (spl (ints s0)) (spl (ints s1)) (spl (ints s2))) = c := ⟨_, rfl⟩
  obtain ⟨A8, C8, rfl, HO8, hb8⟩ := hr.conv x8 x8.length c8 ⟨hx8, hc8⟩ rfl
  have HX8 := Lib.hid hx8
  have HC8 := Lib.hid hc8
  have HB8 := Lib.hid (HB7.out.trans (hb8.out.mono hz7))
  have hz8 := HB8.out.size
  have G8 := Lib.hid (And.intro (G7.out.1.below (hb8.out.mono hz47)) (G7.out.2.below (hb8.out.mono hz47)))
  have hz48 := Nat.le_trans hz47 hb8.out.size
  clear hr hb8 HB7 G7 hz47 K5 K6 K7 hx8 hc8
  go_wp2_with fail
  refine (rjoin_bs a0 len0 cap0 s0 w8 (RR.out w8 HB8.out).1 (by rw [J0.out]; omega)).mono ?_
  rintro e w9 hr
  obtain ⟨A9, C9, rfl, HO9, hb9⟩ := hr.hid j0 J0.out
  have HB9 := Lib.hid (HB8.out.trans (hb9.out.mono hz8))
  have hz9 := HB9.out.size
  have G9 := Lib.hid (And.intro (G8.out.1.below (hb9.out.mono hz48)) (G8.out.2.below (hb9.out.mono hz48)))
  have hz49 := Nat.le_trans hz48 hb9.out.size
  have HO8' := Lib.hid (own_keep HO8.out hb9.out)
  clear hr hb9 HB8 G8 hz48 HO8
  go_wp2_with fail
  refine (rjoin_bs a2 len2 cap2 s2 w9 (RR.out w9 HB9.out).2.2 (by rw [J2.out]; omega)).mono ?_
  rintro e wA hr
  obtain ⟨AA, CA, rfl, HOA, hbA⟩ := hr.hid j2 J2.out
  have HBA := Lib.hid (HB9.out.trans (hbA.out.mono hz9))
  have hzA := HBA.out.size
  have HL9 := Lib.hid hbA.out
  have GA := Lib.hid (And.intro (G9.out.1.below (hbA.out.mono hz49)) (G9.out.2.below (hbA.out.mono hz49)))
  have hz4A := Nat.le_trans hz49 hbA.out.size
  have HO8 := Lib.hid (own_keep HO8'.out hbA.out)
  clear hr hbA HB9 G9 hz49 HO8'
  go_wp2_with fail
  refine (rjoin_bs a1 len1 cap1 s1 wA (RR.out wA HBA.out).2.1 (by rw [J1.out]; omega)).mono ?_
  rintro e wB hr
  obtain ⟨AB, CB, rfl, HOB, hbB⟩ := hr.hid j1 J1.out
  have HBB := Lib.hid (HBA.out.trans (hbB.out.mono hzA))
  have hzB := HBB.out.size
  have GB := Lib.hid (And.intro (GA.out.1.below (hbB.out.mono hz4A)) (GA.out.2.below (hbB.out.mono hz4A)))
  have hz4B := Nat.le_trans hz4A hbB.out.size
  have HO8' := Lib.hid (own_keep HO8.out hbB.out)
  have K9 := Lib.hid (rd_of HO9.out (by omega) (HL9.out.trans (hbB.out.mono HL9.out.size)))
  have KA := Lib.hid (rd_of HOA.out (by omega) hbB.out)
  have KB := Lib.hid (rd_of HOB.out (by omega) (Below.refl _ _))
  clear hr hbB HBA GA hz4A HO8 HO9 HOA HOB HL9
  go_wp2_with fail
  refine (MM.out wB _ _ _ _ _ _ K9.out KB.out KA.out).2.mono ?_
  rintro e wC hr
  obtain ⟨xC, hxC⟩ : ∃ x, rend (chunks (spl (ints s0)) (spl (ints s2)) (spl (ints s1))) = x := ⟨_, rfl⟩
  have hcC : clean (chunks (spl (ints s0)) (spl (ints s2)) (spl (ints s1))) = c8 := by rw [HTz.out, clean_turn, HC8.out]
  obtain ⟨AC, CC, rfl, HOC, hbC⟩ := hr.conv xC xC.length c8 ⟨hxC, hcC⟩ rfl
  have HXC := Lib.hid hxC
  have HBC := Lib.hid (HBB.out.trans (hbC.out.mono hzB))
  have hzC := HBC.out.size
  have GC := Lib.hid (And.intro (GB.out.1.below (hbC.out.mono hz4B)) (GB.out.2.below (hbC.out.mono hz4B)))
  have hz4C := Nat.le_trans hz4B hbC.out.size
  have HO8 := Lib.hid (own_keep HO8'.out hbC.out)
  clear hr hbC HBB GB hz4B HO8' K9 KA KB hxC hcC MM RR
  go_wp2_with fail
  refine (turned_any w4.heap.size A4 m C4 _ wC GC.out.2 hz4C (by omega)).mono ?_
  rintro e wD ⟨AD, CD, rfl, hrD, hbD⟩
  have hlen : (chunks s0 s2 s1).length = m := by rw [HT.out, List.length_map, HMl.out]
  rw [hlen] at hrD ⊢
  have HRD : Hid (RdC wD wD.heap.size AD m CD (chunks s0 s1 s2)) := Lib.hid (by rw [HT.out, turn_turn] at hrD; exact hrD)
  have HR3 := Lib.hid (GC.out.1.below (hbD.mono hz4C))
  have HBD := Lib.hid (HBC.out.trans (hbD.mono hzC))
  have HOx := Lib.hid (own_keep HO8.out hbD)
  have HOy := Lib.hid (own_keep HOC.out hbD)
  clear hrD hbD HBC GC HO8 HOC hlen
  go_wp2_with fail
  refine (sameChunks_any w4.heap.size wD.heap.size A3 m C3 AD CD (chunks s0 s1 s2) wD HR3.out HRD.out (by omega)).mono ?_
  rintro e wE ⟨rfl, dE, rfl⟩
  have HBE := Lib.hid (below_drewN HBD.out dE)
  have hszx : szC (chunks (spl (ints s0)) (spl (ints s1)) (spl (ints s2))) ≤ 5000000 :=
    Nat.le_trans (szC_chunks _ _ _ (x := 2380) (y := 2380) (z := 2380) (m := 8000) (by unfold spl; rw [ints_spl _ B0.out, J0.out]; omega) (by unfold spl; rw [ints_spl _ B1.out, J1.out]; omega) (by unfold spl; rw [ints_spl _ B2.out, J2.out]; omega) (by omega)) (by omega)
  have hlx := Nat.le_trans (rend_le _) hszx
  have hly : (rend (chunks (spl (ints s0)) (spl (ints s2)) (spl (ints s1)))).length ≤ 5000000 := Nat.le_trans (rend_le _) (Nat.le_trans (szC_chunks _ _ _ (x := 2380) (y := 2380) (z := 2380) (m := 8000) (by unfold spl; rw [ints_spl _ B0.out, J0.out]; omega) (by unfold spl; rw [ints_spl _ B2.out, J2.out]; omega) (by unfold spl; rw [ints_spl _ B1.out, J1.out]; omega) (by omega)) (by omega))
  rw [HX8.out] at hlx
  rw [HXC.out] at hly
  have cx := conv_row (own_keep HOx.out (below_drewN (Below.refl _ _) dE)) (by omega)
  have cy := conv_row (own_keep HOy.out (below_drewN (Below.refl _ _) dE)) (by omega)
  cases c8 with
  | false =>
    clear HOx HOy HBD HRD HR3 hszx
    go_wp2_with fail
    go_ret
    exact ⟨rfl, HBE.out⟩
  | true =>
    have hxx : xC = x8 := by rw [← HXC.out, HTz.out, rend_turn HKz.out HC8.out, HX8.out]
    subst hxx
    have hq : ((sb xC).toList == (sb xC).toList) = true := by simp
    clear HOx HOy HBD HRD HR3 hszx
    generalize sb xC = sx at *
    go_wp2_with fail
    go_ret
    exact ⟨rfl, HBE.out⟩
end Go.Proofs.Ytlaneilmffdahaa.Mg
