/- The document's Make, walked: it answers what the program's answers. -/
import Derived.Test.YtkelgaanehihbaaDtRNum
import Derived.Deep.DeepCutAuto
import Derived.Deep.CutBlock
namespace Go.Proofs.Ytkelgaanehihbaa.Dt
open Go.RowKit
set_option linter.unusedVariables false

theorem rev_drop_getD (z : List Int) (p k : Nat) (h : k < z.length - p) : (z.drop p).reverse.getD k 0 = z.getD (z.length - 1 - k) 0 := by
  rw [rev_getD _ _ (by simpa using h)]
  simp only [List.getD, List.getElem?_drop, List.length_drop]
  congr 2
  omega

/-- the row so far -/
def Row (B : Nat) (w : World) (N : Nat) (l : List Int) (v : Value) (wx : World) : Prop :=
  ∃ n, wx.ownsRow B 5 1 v n (bv l) ∧ n ≤ N ∧ v ≠ .slice none 0 0 ∧ Below B w wx

set_option maxRecDepth 100000 in
set_option maxHeartbeats 2000000 in
theorem rmake_core (B : Nat) (a1 : Option Addr) (l1 c1 : Nat) (z1 : List Int) (a2 : Option Addr) (l2 c2 : Nat) (z2 : List Int) (w : World) (h1 : Sl w a1 l1 c1 z1) (h2 : Sl w a2 l2 c2 z2) (hB : B ≤ w.heap.size)
    (hlt : ∀ b off, a2 = some ⟨b, off, none⟩ → 0 < l2 → b < B) (hr : l2 ≤ 140737488000000) (p s : Nat) (hp : cp z1 z2 = p) (hs : cp (z1.drop p).reverse (z2.drop p).reverse = s) (p1 : p ≤ l1) (p2 : p ≤ l2) (s1 : s ≤ l1 - p) (s2 : s ≤ l2 - p) :
    Calls Try.prog 11 #[.slice a1 l1 c1, .slice a2 l2 c2] w (OwnRet B (mkW l1 z2 p s).length (bv (mkW l1 z2 p s)) w) := by
  have H1 := Lib.hid h1
  have H2 := Lib.hid h2
  have HLT := Lib.hid hlt
  have HP := Lib.hid hp
  have HS := Lib.hid hs
  have b1 : l1 ≤ 140737488355328 := h1.hbig
  have g2 := h2.hcap
  have g4 := h2.hreach
  have hz2' := h2.hlen
  have HM2 : Hid (mkW l1 z2 p s = nb l1 ++ nb l2 ++ (if 0 < p then 1 :: nb 0 ++ nb p else []) ++ (if 0 < l2 - s - p then 2 :: nb ((l2 - s - p : Nat) : Int) ++ (z2.drop p).take (l2 - s - p) else []) ++ (if 0 < s then 1 :: nb ((l1 : Int) - (s : Int)) ++ nb s else [])) := Lib.hid (by unfold mkW; rw [hz2'])
  obtain ⟨L1, HL1⟩ : ∃ L, Hid (L = (nb l1 ++ nb l2 ++ (if 0 < p then 1 :: nb 0 ++ nb p else []))) := ⟨_, Lib.hid rfl⟩
  obtain ⟨L2, HL2⟩ : ∃ L, Hid (L = L1 ++ (if 0 < l2 - s - p then 2 :: nb ((l2 - s - p : Nat) : Int) ++ (z2.drop p).take (l2 - s - p) else [])) := ⟨_, Lib.hid rfl⟩
  obtain ⟨L3, HL3⟩ : ∃ L, Hid (L = L2 ++ (if 0 < s then 1 :: nb ((l1 : Int) - (s : Int)) ++ nb s else [])) := ⟨_, Lib.hid rfl⟩
  have HM3 : Hid (mkW l1 z2 p s = L3) := Lib.hid (by rw [HL3.out, HL2.out, HL1.out, HM2.out])
  rw [HM3.out]
  obtain ⟨i0, hi, hz0, hz1, hz2⟩ := info_parts info5
  clear h1 h2 hlt hp hs hz2'
  go_enter Try.func11, Try.ntmps11
  go_upto_block 0 with (fail)
  go_cut [5] (fun s5 wx => s5 = .int .i64 (p : Int) ∧ ∃ d, wx = w.drewN d)
  case first =>
    go_wp2
    go_loopw [5] (fun n wr => ∃ k d : Nat, k ≤ l1 ∧ k ≤ l2 ∧ n = .int .i64 k ∧ wr = w.drewN d ∧ Hid (p = k + cp (z1.drop k) (z2.drop k))) (fun n _ => l1 - (intOf n).toNat)
    case atStart => exact ⟨0, 0, Nat.zero_le _, Nat.zero_le _, rfl, rfl, Lib.hid (by rw [← HP.out]; simp)⟩
    case round =>
      obtain ⟨k, d, hk1, hk2, rfl, rfl, H⟩ := hrel
      by_cases hlt : k < l1 ∧ k < l2
      · obtain ⟨hlt1, hlt2⟩ := hlt
        obtain ⟨x1, o1, rfl, hc1⟩ := H1.out.hcell k hlt1
        obtain ⟨x2, o2, rfl, hc2⟩ := H2.out.hcell k hlt2
        have hs := cp_step z1 z2 k (by rw [H1.out.hlen]; exact hlt1) (by rw [H2.out.hlen]; exact hlt2)
        generalize hv1 : z1.getD k 0 = v1 at hc1 hs
        generalize hv2 : z2.getD k 0 = v2 at hc2 hs
        clear hv1 hv2
        by_cases hq : v1 = v2
        · have HN : Hid (p = (k + 1 : Nat) + cp (z1.drop (k + 1)) (z2.drop (k + 1))) := Lib.hid (by rw [H.out, hs, if_pos hq]; omega)
          have hq' : (v1 == v2) = true := by simp [hq]
          clear hs H hq
          go_wp2
          go_quiet (fail)
          go_wp2
          go_roundw
          case rel => exact ⟨k + 1, _, by omega, by omega, by go_num, rfl, HN⟩
          case measure => simp [intOf]; omega
        · have HN : Hid (p = k) := Lib.hid (by rw [H.out, hs, if_neg hq]; omega)
          have hq' : (v1 == v2) = false := by simp [hq]
          clear hs H hq
          go_wp2
          go_quiet (fail)
          go_wp2
          go_meet
          exact ⟨by rw [HN.out], _, World.drewN_drewN _ _ _⟩
      · have HN : Hid (p = k) := Lib.hid (by rw [H.out, cp_end _ _ _ (by rw [H1.out.hlen, H2.out.hlen]; exact hlt)]; simp)
        clear H
        by_cases h : k < l1
        · have h2 : l2 ≤ k := by omega
          have hd1 : decide (k < l1) = true := by simp; omega
          have hd2 : decide (k < l2) = false := by simp; omega
          clear hlt
          go_wp2
          go_quiet (fail)
          go_wp2
          go_meet
          exact ⟨by rw [HN.out], _, World.drewN_drewN _ _ _⟩
        · have hd1 : decide (k < l1) = false := by simp; omega
          clear hlt
          go_wp2
          go_quiet (fail)
          go_wp2
          go_meet
          exact ⟨by rw [HN.out], _, World.drewN_drewN _ _ _⟩
  case rest =>
    obtain ⟨rfl, d0, rfl⟩ := hcut
    have HS1 := Lib.hid (H1.out.drawn d0)
    have HS2 := Lib.hid (H2.out.drawn d0)
    have HB0 := Lib.hid (below_drewN (Below.refl B w) d0)
    have hB0 : B ≤ (w.drewN d0).heap.size := hB
    generalize w.drewN d0 = W1 at HS1 HS2 HB0 hB0 ⊢
    go_upto_block 2 with (fail)
    go_cut [6] (fun s6 wx => s6 = .int .i64 (s : Int) ∧ ∃ d, wx = W1.drewN d)
    case first =>
      go_wp2
      go_loopw [6] (fun n wr => ∃ k d : Nat, k ≤ l1 - p ∧ k ≤ l2 - p ∧ n = .int .i64 k ∧ wr = W1.drewN d ∧ Hid (s = k + cp ((z1.drop p).reverse.drop k) ((z2.drop p).reverse.drop k))) (fun n _ => l1 - (intOf n).toNat)
      case atStart => exact ⟨0, 0, Nat.zero_le _, Nat.zero_le _, rfl, rfl, Lib.hid (by rw [← HS.out]; simp)⟩
      case round =>
        obtain ⟨k, d, hk1, hk2, rfl, rfl, H⟩ := hrel
        by_cases hlt : k < l1 - p ∧ k < l2 - p
        · obtain ⟨hlt1, hlt2⟩ := hlt
          obtain ⟨x1, o1, rfl, hc1⟩ := HS1.out.hcell (l1 - 1 - k) (by omega)
          obtain ⟨x2, o2, rfl, hc2⟩ := HS2.out.hcell (l2 - 1 - k) (by omega)
          have hs := cp_step (z1.drop p).reverse (z2.drop p).reverse k (by rw [List.length_reverse, List.length_drop, H1.out.hlen]; exact hlt1) (by rw [List.length_reverse, List.length_drop, H2.out.hlen]; exact hlt2)
          rw [rev_drop_getD z1 p k (by rw [H1.out.hlen]; exact hlt1), rev_drop_getD z2 p k (by rw [H2.out.hlen]; exact hlt2), H1.out.hlen, H2.out.hlen] at hs
          generalize hv1 : z1.getD (l1 - 1 - k) 0 = v1 at hc1 hs
          generalize hv2 : z2.getD (l2 - 1 - k) 0 = v2 at hc2 hs
          clear hv1 hv2
          have hi1 : (k : Int) < (l1 : Int) - (p : Int) := by omega
          have hi2 : (k : Int) < (l2 : Int) - (p : Int) := by omega
          by_cases hq : v1 = v2
          · have HN : Hid (s = (k + 1 : Nat) + cp ((z1.drop p).reverse.drop (k + 1)) ((z2.drop p).reverse.drop (k + 1))) := Lib.hid (by rw [H.out, hs, if_pos hq]; omega)
            have hq' : (v1 == v2) = true := by simp [hq]
            clear hs H hq
            go_wp2
            go_quiet (fail)
            go_wp2
            go_roundw
            case rel => exact ⟨k + 1, _, by omega, by omega, by go_num, rfl, HN⟩
            case measure => simp [intOf]; omega
          · have HN : Hid (s = k) := Lib.hid (by rw [H.out, hs, if_neg hq]; omega)
            have hq' : (v1 == v2) = false := by simp [hq]
            clear hs H hq
            go_wp2
            go_quiet (fail)
            go_wp2
            go_meet
            exact ⟨by rw [HN.out], _, World.drewN_drewN _ _ _⟩
        · have HN : Hid (s = k) := Lib.hid (by rw [H.out, cp_end _ _ _ (by rw [List.length_reverse, List.length_reverse, List.length_drop, List.length_drop, H1.out.hlen, H2.out.hlen]; exact hlt)]; simp)
          clear H
          by_cases h : k < l1 - p
          · have hi1 : (k : Int) < (l1 : Int) - (p : Int) := by omega
            have hi2 : ¬ (k : Int) < (l2 : Int) - (p : Int) := by omega
            have hd2 : decide ((k : Int) < (l2 : Int) - (p : Int)) = false := by simp; omega
            clear hlt
            go_wp2
            go_quiet (fail)
            go_wp2
            go_meet
            exact ⟨by rw [HN.out], _, World.drewN_drewN _ _ _⟩
          · have hi1 : ¬ (k : Int) < (l1 : Int) - (p : Int) := by omega
            have hd1 : decide ((k : Int) < (l1 : Int) - (p : Int)) = false := by simp; omega
            clear hlt
            go_wp2
            go_quiet (fail)
            go_wp2
            go_meet
            exact ⟨by rw [HN.out], _, World.drewN_drewN _ _ _⟩
    case rest =>
      obtain ⟨rfl, d1, rfl⟩ := hcut
      have HC2 := Lib.hid (HS2.out.drawn d1)
      have HB2 := Lib.hid (HB0.out.trans (below_drewN (Below.refl B W1) d1))
      have hB2 : B ≤ (W1.drewN d1).heap.size := hB0
      clear HS1 HB0 hB0
      generalize W1.drewN d1 = W2 at HC2 HB2 hB2 ⊢
      clear HS2
      go_wp2_with fail
      refine (rnum_any B _ 0 [] _ _ (by exact hB2) (World.ownsRow_nil _ _ _ _) (by omega) (by omega) (by omega)).mono ?_
      rintro e w1 ⟨v1, rfl, ho1, hn1, hb1⟩
      have HO1 := Lib.hid ho1; have HB1 := Lib.hid hb1
      clear ho1 hn1 hb1
      go_wp2_with fail
      refine (rnum_any B _ _ _ _ _ (by have := HB1.out.size; omega) HO1.out (by omega) (by omega) (by omega)).mono ?_
      rintro e w2 ⟨v2, rfl, ho, hn, hb⟩
      have HR0 : Hid (Row B w 8 (nb l1 ++ nb l2) v2 w2) := Lib.hid ⟨8, own_eq ho (by simp [bv]) rfl, by omega, hn, HB2.out.trans (HB1.out.trans hb)⟩
      clear ho hn hb HO1 HB1 HB2 hB2
      go_upto_if 76 with (fail)
      go_cut [7] (fun s7 wx => Hid (Row B w 17 L1 s7 wx))
      case first =>
        obtain ⟨n0, ho, hN, hn, hb⟩ := HR0.out
        have HO := Lib.hid ho; have HB := Lib.hid hb; have HN := Lib.hid hn
        have hsz : B ≤ w2.heap.size := by have := hb.size; omega
        clear ho hb hn
        by_cases hc : 0 < p
        · go_wp2_with (at_builtin; refine wpList_append_own _ rfl _ _ 22 rfl B 5 i0 (.int .u8 0) 1 1 Try.underlying22 hi hz0 hz1 hz2 rfl (by decide) _ n0 _ rfl (HO.out.alloc _) ⟨w2.heap.size, 0, none⟩ 1 1 (bv [1]) rfl rfl ?c1 (bv_one _) ?c3 ?c4 ?c5 ?_)
          case c1 => exact new_cells [1] w2 _
          case c3 => unfold maxLen; omega
          case c4 => omega
          case c5 => simp; omega
          intro va wa ho hg hn2
          have HOa := Lib.hid ho; have HBa := Lib.hid (HB.out.trans (((Below.refl B w2).alloc hsz _).trans (below_grown (by simp; omega) (HO.out.alloc _) hg)))
          clear ho hg hn2 HO HB HN
          go_wp2_with fail
          refine (rnum_any B va _ _ _ _ (by have := HBa.out.size; omega) HOa.out (by omega) (by omega) (by omega)).mono ?_
          rintro e wb ⟨vb, rfl, ho, hn, hb⟩
          have HOb := Lib.hid ho; have HBb := Lib.hid (HBa.out.trans hb)
          clear ho hn hb HOa HBa
          go_wp2_with fail
          refine (rnum_any B vb _ _ _ _ (by have := HBb.out.size; omega) HOb.out (by omega) (by omega) (by omega)).mono ?_
          rintro e wc ⟨vc, rfl, ho, hn, hb⟩
          have HOc := Lib.hid ho; have HBc := Lib.hid (HBb.out.trans hb); have HNc := Lib.hid hn
          clear ho hn hb HOb HBb
          go_wp2_with fail
          go_meet
          exact Lib.hid ⟨_, own_eq HOc.out (by rw [HL1.out]; simp [bv, hc]) rfl, by omega, HNc.out, HBc.out⟩
        · go_wp2_with fail
          go_meet
          exact Lib.hid ⟨n0, own_eq HO.out (by rw [HL1.out, if_neg hc, List.append_nil]) rfl, by omega, HN.out, HB.out⟩
      case rest =>
        have HR1 := Lib.hid hcut.out
        clear hcut HR0
        go_upto_if 93 with (fail)
        go_cut [7, 8] (fun s7 s8 wx => Hid (Row B w (22 + l2) L2 s7 wx))
        case first =>
          obtain ⟨n0, ho, hN, hn, hb⟩ := HR1.out
          have HO := Lib.hid ho; have HB := Lib.hid hb; have HN := Lib.hid hn
          have hsz : B ≤ wc.heap.size := by have := hb.size; omega
          clear ho hb hn
          by_cases hc : 0 < l2 - s - p
          · obtain ⟨x2, o2, rfl, -⟩ := H2.out.hcell p (by omega)
            have hcp : ¬ c2 = p := by omega
            go_wp2_with (at_builtin; refine wpList_append_own _ rfl _ _ 22 rfl B 5 i0 (.int .u8 0) 1 1 Try.underlying22 hi hz0 hz1 hz2 rfl (by decide) _ n0 _ rfl (HO.out.alloc _) ⟨wc.heap.size, 0, none⟩ 1 1 (bv [2]) rfl rfl ?c1 (bv_one _) ?c3 ?c4 ?c5 ?_)
            case c1 => exact new_cells [2] wc _
            case c3 => unfold maxLen; omega
            case c4 => omega
            case c5 => simp; omega
            intro va wa ho hg hn2
            have HOa := Lib.hid ho; have HBa := Lib.hid (HB.out.trans (((Below.refl B wc).alloc hsz _).trans (below_grown (by simp; omega) (HO.out.alloc _) hg)))
            clear ho hg hn2 HO HB HN
            go_wp2_with fail
            refine (rnum_any B va _ _ _ _ (by have := HBa.out.size; omega) HOa.out (by omega) (by omega) (by omega)).mono ?_
            rintro e wb ⟨vb, rfl, ho, hn, hb⟩
            have HOb := Lib.hid ho; have HBb := Lib.hid (HBa.out.trans hb)
            have HNb := Lib.hid hn
            clear ho hn hb HOa HBa
            have HNW : Hid (∀ j u, (bv ((z2.drop p).take (l2 - s - p)))[j]? = some u → wb.cell? (Addr.add ⟨x2, o2 + p, none⟩ j) = some u) := Lib.hid (mid_cells H2.out HLT.out HBb.out p s)
            go_wp2_with (at_builtin; refine wpList_append_own _ rfl _ _ 22 rfl B 5 i0 (.int .u8 0) 1 1 Try.underlying22 hi hz0 hz1 hz2 rfl (by decide) vb _ _ rfl HOb.out ⟨x2, o2 + p, none⟩ (l2 - s - p) (c2 - p) (bv ((z2.drop p).take (l2 - s - p))) rfl ?d0 HNW.out (bv_one _) ?d3 ?d4 ?d5 ?_)
            case d0 => rw [bv, List.length_map, List.length_take, List.length_drop, H2.out.hlen]; omega
            case d3 => unfold maxLen; omega
            case d4 => omega
            case d5 => have := HBb.out.size; omega
            intro vc wc ho hg hn
            have HOc := Lib.hid ho; have HNc := Lib.hid (show vc ≠ .slice none 0 0 from fun h => HNb.out (hn.1 h).1); have HBc := Lib.hid (HBb.out.trans (below_grown (by have := HBb.out.size; omega) HOb.out hg))
            clear ho hg hn HOb HBb
            go_wp2_with fail
            go_meet
            exact Lib.hid ⟨_, own_eq HOc.out (by rw [HL2.out]; simp [bv, hc]) rfl, by omega, HNc.out, HBc.out⟩
          · by_cases hcp : c2 = p
            · subst hcp
              go_wp2_with fail
              go_meet
              exact Lib.hid ⟨n0, own_eq HO.out (by rw [HL2.out, if_neg hc, List.append_nil]) rfl, by omega, HN.out, HB.out⟩
            · go_wp2_with fail
              go_meet
              exact Lib.hid ⟨n0, own_eq HO.out (by rw [HL2.out, if_neg hc, List.append_nil]) rfl, by omega, HN.out, HB.out⟩
        case rest =>
          have HR2 := Lib.hid hcut.out
          clear hcut HR1
          go_upto_if 104 with (fail)
          go_cut [7] (fun s7 wx => Hid (Row B w (31 + l2) L3 s7 wx))
          case first =>
            obtain ⟨n0, ho, hN, hn, hb⟩ := HR2.out
            have HO := Lib.hid ho; have HB := Lib.hid hb; have HN := Lib.hid hn
            have hsz : B ≤ wc.heap.size := by have := hb.size; omega
            clear ho hb hn
            by_cases hc : 0 < s
            · go_wp2_with (at_builtin; refine wpList_append_own _ rfl _ _ 22 rfl B 5 i0 (.int .u8 0) 1 1 Try.underlying22 hi hz0 hz1 hz2 rfl (by decide) _ n0 _ rfl (HO.out.alloc _) ⟨wc.heap.size, 0, none⟩ 1 1 (bv [1]) rfl rfl ?c1 (bv_one _) ?c3 ?c4 ?c5 ?_)
              case c1 => exact new_cells [1] wc _
              case c3 => unfold maxLen; omega
              case c4 => omega
              case c5 => simp; omega
              intro va wa ho hg hn2
              have HOa := Lib.hid ho; have HBa := Lib.hid (HB.out.trans (((Below.refl B wc).alloc hsz _).trans (below_grown (by simp; omega) (HO.out.alloc _) hg)))
              clear ho hg hn2 HO HB HN
              go_wp2_with fail
              refine (rnum_any B va _ _ _ _ (by have := HBa.out.size; omega) HOa.out (by omega) (by omega) (by omega)).mono ?_
              rintro e wb ⟨vb, rfl, ho, hn, hb⟩
              have HOb := Lib.hid ho; have HBb := Lib.hid (HBa.out.trans hb)
              clear ho hn hb HOa HBa
              go_wp2_with fail
              refine (rnum_any B vb _ _ _ _ (by have := HBb.out.size; omega) HOb.out (by omega) (by omega) (by omega)).mono ?_
              rintro e wc ⟨vc, rfl, ho, hn, hb⟩
              have HOc := Lib.hid ho; have HBc := Lib.hid (HBb.out.trans hb); have HNc := Lib.hid hn
              clear ho hn hb HOb HBb
              go_wp2_with fail
              go_meet
              exact Lib.hid ⟨_, own_eq HOc.out (by rw [HL3.out]; simp [bv, hc]) rfl, by omega, HNc.out, HBc.out⟩
            · go_wp2_with fail
              go_meet
              exact Lib.hid ⟨n0, own_eq HO.out (by rw [HL3.out, if_neg hc, List.append_nil]) rfl, by omega, HN.out, HB.out⟩
          case rest =>
            obtain ⟨n0, ho, hN, hn, hb⟩ := hcut.out
            go_wp2
            go_ret
            exact ⟨_, rfl, own_conv ho rfl, hn, hb⟩
end Go.Proofs.Ytkelgaanehihbaa.Dt
