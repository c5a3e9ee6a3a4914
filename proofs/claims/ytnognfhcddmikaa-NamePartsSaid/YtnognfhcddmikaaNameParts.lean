/- NameParts: whatever the input, the law returns true, and each argument reads as it did before. No condition. -/
import Derived.Test.YtnognfhcddmikaaRows
import Derived.WalkKit
import Derived.ProofKit
import Derived.OpenShut
import Derived.ShutString
import Derived.SizedLaws
import Derived.Below
import Derived.Lib.Hide
import Derived.WalkSpells
import Derived.WalkLawsBesides
import Derived.Test.YtnognfhcddmikaaFrStrs
import Derived.Test.YtnognfhcddmikaaNmOwn
import Derived.Test.YtnognfhcddmikaaNmParts
namespace Go.Proofs.Ytnognfhcddmikaa.nameParts
open Go.ChangeShapes Go.WideShapes Go.ChangeAt Go.RowKit
open Go.ChangeMaps (open_string shut_string)
set_option linter.unusedVariables false

theorem own : ownKnob Try.prog.godebug = none := by kernel_rfl
theorem laidOut : laidOutB Try.prog = true := by kernel_rfl

set_option maxRecDepth 100000 in
set_option maxHeartbeats 2000000 in
theorem walk_zero (w : World) (a0 : Option Addr) (cap0 : Nat) :
    Calls Try.prog 5 #[.slice a0 0 cap0] w fun e w' => e = .returned (.bool true) ∧ Below w.heap.size w w' := by
  have HK := Lib.hid (Nm.known_any w)
  go_enter Try.func5, Try.ntmps5
  go_wp2_with fail
  refine HK.out.mono ?_
  rintro e w1 ⟨rfl, hb⟩
  have HB := Lib.hid hb
  have hx := Nm.check_any { data := #[] } w1 (by decide)
  rw [show Nm.eno (Nm.nm ({ data := #[] } : ByteArray).data.toList) = 7 from by decide +kernel] at hx
  have HX := Lib.hid hx
  clear hb HK hx
  go_wp2
  go_loop [3, 4, 5] (fun s g i => i = .int .i64 0 ∧ s = .string { data := #[] } ∧ g = .bool false) (fun _ _ i => 0)
  case atStart => exact ⟨rfl, rfl, rfl⟩
  case round =>
    obtain ⟨rfl, rfl, rfl⟩ := hrel
    go_wp2
    go_loop [7, 8] (fun sl i => i = .int .i64 0 ∧ sl = .bool false) (fun _ i => 0)
    case atStart => exact ⟨rfl, rfl⟩
    case round =>
      obtain ⟨rfl, rfl⟩ := hrel
      go_wp2_with fail
      refine HX.out.mono ?_
      rintro e w' ⟨rfl, rfl⟩
      go_wp2
      go_ret
      exact ⟨rfl, HB.out⟩

set_option maxRecDepth 100000 in
set_option maxHeartbeats 2000000 in
theorem walk (w : World) (a0 : Option Addr) (len0 cap0 : Nat) (s0 : List ByteArray) (w0 : Fr.IsStrs w a0 len0 cap0 s0) :
    Calls Try.prog 5 #[.slice a0 len0 cap0] w fun e w' => e = .returned (.bool true) ∧ Below w.heap.size w w' := by
  by_cases h0 : len0 = 0
  · subst h0
    exact walk_zero w a0 cap0
  rcases w0 with ⟨rfl, rfl, rfl, rfl⟩ | ⟨⟨b, off, spot⟩, rfl, hl, hm, hz, hcell, hs⟩
  · exact absurd rfl h0
  have hspot : spot = none := by simpa [Addr.add] using World.cell?_spot (hcell 0 (by omega))
  subst hspot
  have HK := Lib.hid (Nm.known_any w)
  have HC0 := Lib.hid hcell
  have HS := Lib.hid hs
  have HZ := Lib.hid hz
  clear hcell hs hz
  go_enter Try.func5, Try.ntmps5
  go_wp2_with fail
  refine HK.out.mono ?_
  rintro e w1 ⟨rfl, hb⟩
  have HB := Lib.hid hb
  have HC := Lib.hid (Nm.cells_kept hb HZ.out HC0.out)
  clear hb HK HC0
  have hpos : decide ((0 : Int) < (len0 : Int)) = true := by simp; omega
  have hpos2 : decide (0 < len0) = true := by simp; omega
  go_wp2
  go_loop [3, 4, 5] (fun s g i => ∃ (k : Nat) (sb : ByteArray) (gb : Bool), k ≤ len0 ∧ k ≤ 20 ∧ i = .int .i64 k ∧ s = .string sb ∧ g = .bool gb ∧ sb.size ≤ 101 * k ∧ Hid (sb.data.toList = Nm.J ((Nm.dl s0).take k)) ∧ Hid (gb = Nm.good ((Nm.dl s0).take k))) (fun _ _ i => 20 - (intOf i).toNat)
  case atStart => exact ⟨0, { data := #[] }, true, by omega, by omega, rfl, rfl, rfl, by decide, Lib.hid rfl, Lib.hid rfl⟩
  case round =>
    obtain ⟨k, sb, gb, hk, hk20, rfl, rfl, rfl, hsb, HJ, HG⟩ := hrel
    by_cases hgo : k < len0 ∧ k < 20
    · obtain ⟨hlt, hlt20⟩ := hgo
      have hcell := HC.out.2 k hlt
      have ht := Nm.take_snoc_dl s0 k (by rw [HZ.out]; exact hlt)
      generalize hx : s0.getD k ByteArray.empty = x at hcell ht
      have HT := Lib.hid ht
      clear ht hx
      by_cases hbig : 100 < x.size
      · go_wp2
        go_ret
        exact ⟨rfl, HB.out⟩
      have HX := Lib.hid (Nm.check_any x w1 (by unfold maxLen; omega))
      have HGN : Hid (Nm.good ((Nm.dl s0).take (k + 1)) = (gb && Nm.ns x.data.toList && Nm.nm x.data.toList)) := Lib.hid (by rw [HT.out, Nm.good_snoc, HG.out])
      have hm20 : 20 - (k + 1) < 20 - k := by omega
      by_cases hk0 : k = 0
      · have HJN : Hid ((sb ++ x).data.toList = Nm.J ((Nm.dl s0).take (k + 1))) := Lib.hid (by rw [HT.out, Nm.J_snoc, if_pos (by rw [hk0]; rfl)]; simp [show sb.data.toList = [] from by rw [HJ.out, hk0]; rfl])
        have HSN : Hid ((sb ++ x).size ≤ 101 * (k + 1)) := Lib.hid (by rw [ByteArray.size_append]; omega)
        clear HT HJ HG
        subst hk0
        simp only [Nat.add_zero] at hcell
        go_wp2
        go_loop [4, 6] (fun g i => ∃ (j : Nat) (gj : Bool), j ≤ x.size ∧ i = .int .i64 j ∧ g = .bool gj ∧ Hid (gj = (gb && Nm.ns (x.data.toList.take j)))) (fun _ i => x.size - (intOf i).toNat)
        case atStart => exact ⟨0, gb, Nat.zero_le _, rfl, rfl, Lib.hid (by simp [Nm.ns])⟩
        case round =>
          obtain ⟨j, gj, hj, rfl, rfl, HI⟩ := hrel
          by_cases hlj : j < x.size
          · have hns := Nm.ns_snoc x.data.toList j (by simpa using hlj)
            have HNS : Hid (Nm.ns (x.data.toList.take (j + 1)) = (Nm.ns (x.data.toList.take j) && ((x[j].toNat : Int) != 47))) := Lib.hid hns
            clear hns
            cases gj
            · have HN : Hid (false = (gb && Nm.ns (x.data.toList.take (j + 1)))) := Lib.hid (by rw [HNS.out, ← Bool.and_assoc, ← HI.out]; rfl)
              clear HI HNS
              go_wp2
              go_round
              case rel => exact ⟨j + 1, _, by omega, by go_num, rfl, HN⟩
              case measure => simp [intOf]; omega
            · have HN : Hid (((x[j].toNat : Int) != 47) = (gb && Nm.ns (x.data.toList.take (j + 1)))) := Lib.hid (by rw [HNS.out, ← Bool.and_assoc, ← HI.out]; rfl)
              clear HI HNS
              go_wp2
              go_round
              case rel => exact ⟨j + 1, _, by omega, by go_num, rfl, HN⟩
              case measure => simp [intOf]; omega
          · have HE : Hid (gj = (gb && Nm.ns x.data.toList)) := Lib.hid (by rw [HI.out, List.take_of_length_le (by simp; omega)])
            clear HI
            cases gj
            · have HN : Hid (false = Nm.good ((Nm.dl s0).take (0 + 1))) := Lib.hid (by rw [HGN.out, ← HE.out]; rfl)
              clear HE HGN HX
              go_wp2
              go_round
              case rel => exact ⟨0 + 1, _, _, by omega, by omega, by go_num, rfl, rfl, HSN.out, HJN, HN⟩
              case measure => simp [intOf]
            · cases hn : Nm.nm x.data.toList
              · have HN : Hid (false = Nm.good ((Nm.dl s0).take (0 + 1))) := Lib.hid (by rw [HGN.out, hn]; simp)
                have HY := HX.out
                rw [hn, show Nm.eno false = 7 from rfl] at HY
                have HX2 := Lib.hid HY
                clear HE HGN HX HY hn
                go_wp2_with fail
                refine HX2.out.mono ?_
                rintro e w' ⟨rfl, rfl⟩
                go_wp2
                go_round
                case rel => exact ⟨0 + 1, _, _, by omega, by omega, by go_num, rfl, rfl, HSN.out, HJN, HN⟩
                case measure => simp [intOf]
              · have HN : Hid (true = Nm.good ((Nm.dl s0).take (0 + 1))) := Lib.hid (by rw [HGN.out, ← HE.out, hn]; rfl)
                have HY := HX.out
                rw [hn, show Nm.eno true = 0 from rfl] at HY
                have HX2 := Lib.hid HY
                clear HE HGN HX HY hn
                go_wp2_with fail
                refine HX2.out.mono ?_
                rintro e w' ⟨rfl, rfl⟩
                go_wp2
                go_round
                case rel => exact ⟨0 + 1, _, _, by omega, by omega, by go_num, rfl, rfl, HSN.out, HJN, HN⟩
                case measure => simp [intOf]
      · have HJN : Hid ((sb ++ { data := #[47] } ++ x).data.toList = Nm.J ((Nm.dl s0).take (k + 1))) := Lib.hid (by rw [HT.out, Nm.J_snoc, if_neg (by simp [Nm.dl, ← List.length_eq_zero_iff, HZ.out]; omega), ← HJ.out]; simp)
        have HSN : Hid ((sb ++ { data := #[47] } ++ x).size ≤ 101 * (k + 1)) := Lib.hid (by rw [ByteArray.size_append, ByteArray.size_append]; show sb.size + 1 + x.size ≤ _; omega)
        clear HT HJ HG
        go_wp2
        go_loop [4, 6] (fun g i => ∃ (j : Nat) (gj : Bool), j ≤ x.size ∧ i = .int .i64 j ∧ g = .bool gj ∧ Hid (gj = (gb && Nm.ns (x.data.toList.take j)))) (fun _ i => x.size - (intOf i).toNat)
        case atStart => exact ⟨0, gb, Nat.zero_le _, rfl, rfl, Lib.hid (by simp [Nm.ns])⟩
        case round =>
          obtain ⟨j, gj, hj, rfl, rfl, HI⟩ := hrel
          by_cases hlj : j < x.size
          · have hns := Nm.ns_snoc x.data.toList j (by simpa using hlj)
            have HNS : Hid (Nm.ns (x.data.toList.take (j + 1)) = (Nm.ns (x.data.toList.take j) && ((x[j].toNat : Int) != 47))) := Lib.hid hns
            clear hns
            cases gj
            · have HN : Hid (false = (gb && Nm.ns (x.data.toList.take (j + 1)))) := Lib.hid (by rw [HNS.out, ← Bool.and_assoc, ← HI.out]; rfl)
              clear HI HNS
              go_wp2
              go_round
              case rel => exact ⟨j + 1, _, by omega, by go_num, rfl, HN⟩
              case measure => simp [intOf]; omega
            · have HN : Hid (((x[j].toNat : Int) != 47) = (gb && Nm.ns (x.data.toList.take (j + 1)))) := Lib.hid (by rw [HNS.out, ← Bool.and_assoc, ← HI.out]; rfl)
              clear HI HNS
              go_wp2
              go_round
              case rel => exact ⟨j + 1, _, by omega, by go_num, rfl, HN⟩
              case measure => simp [intOf]; omega
          · have HE : Hid (gj = (gb && Nm.ns x.data.toList)) := Lib.hid (by rw [HI.out, List.take_of_length_le (by simp; omega)])
            clear HI
            cases gj
            · have HN : Hid (false = Nm.good ((Nm.dl s0).take (k + 1))) := Lib.hid (by rw [HGN.out, ← HE.out]; rfl)
              clear HE HGN HX
              go_wp2
              go_round
              case rel => exact ⟨k + 1, _, _, by omega, by omega, by go_num, rfl, rfl, HSN.out, HJN, HN⟩
              case measure => simp [intOf]; omega
            · cases hn : Nm.nm x.data.toList
              · have HN : Hid (false = Nm.good ((Nm.dl s0).take (k + 1))) := Lib.hid (by rw [HGN.out, hn]; simp)
                have HY := HX.out
                rw [hn, show Nm.eno false = 7 from rfl] at HY
                have HX2 := Lib.hid HY
                clear HE HGN HX HY hn
                go_wp2_with fail
                refine HX2.out.mono ?_
                rintro e w' ⟨rfl, rfl⟩
                go_wp2
                go_round
                case rel => exact ⟨k + 1, _, _, by omega, by omega, by go_num, rfl, rfl, HSN.out, HJN, HN⟩
                case measure => simp [intOf]; omega
              · have HN : Hid (true = Nm.good ((Nm.dl s0).take (k + 1))) := Lib.hid (by rw [HGN.out, ← HE.out, hn]; rfl)
                have HY := HX.out
                rw [hn, show Nm.eno true = 0 from rfl] at HY
                have HX2 := Lib.hid HY
                clear HE HGN HX HY hn
                go_wp2_with fail
                refine HX2.out.mono ?_
                rintro e w' ⟨rfl, rfl⟩
                go_wp2
                go_round
                case rel => exact ⟨k + 1, _, _, by omega, by omega, by go_num, rfl, rfl, HSN.out, HJN, HN⟩
                case measure => simp [intOf]; omega
    · clear hpos hpos2
      have HE : Hid (len0 ≤ 20 → k = len0) := Lib.hid (by intro h; omega)
      by_cases hlt : k < len0
      all_goals
        first
          | (have h20k : 20 ≤ k := by omega)
          | skip
        clear hgo
        go_wp2
        go_loop [7, 8] (fun sl i => ∃ (m : Nat) (slb : Bool), m ≤ len0 ∧ i = .int .i64 m ∧ sl = .bool slb ∧ Hid (slb = ((Nm.dl s0).take m).any (fun x => !Nm.ns x))) (fun _ i => len0 - (intOf i).toNat)
        case atStart => exact ⟨0, false, Nat.zero_le _, rfl, rfl, Lib.hid rfl⟩
        case round =>
          obtain ⟨m, slb, hm2, rfl, rfl, HA⟩ := hrel
          by_cases hlm : m < len0
          · have hcell := HC.out.2 m hlm
            have ht := Nm.take_snoc_dl s0 m (by rw [HZ.out]; exact hlm)
            have hsz := HS.out _ (Nm.getD_mem s0 m (by rw [HZ.out]; exact hlm))
            generalize hx : s0.getD m ByteArray.empty = x at hcell ht hsz
            have HN0 : Hid (((Nm.dl s0).take (m + 1)).any (fun x => !Nm.ns x) = (slb || !Nm.ns x.data.toList)) := Lib.hid (by rw [ht, List.any_append, ← HA.out]; simp)
            clear ht hx HA
            go_wp2
            go_loop [7, 9] (fun sl i => ∃ (j : Nat) (gj : Bool), j ≤ x.size ∧ i = .int .i64 j ∧ sl = .bool gj ∧ Hid (gj = (slb || !Nm.ns (x.data.toList.take j)))) (fun _ i => x.size - (intOf i).toNat)
            case atStart => exact ⟨0, slb, Nat.zero_le _, rfl, rfl, Lib.hid (by simp [Nm.ns])⟩
            case round =>
              obtain ⟨j, gj, hj, rfl, rfl, HI⟩ := hrel
              by_cases hlj : j < x.size
              · have hns := Nm.ns_snoc x.data.toList j (by simpa using hlj)
                have HNS : Hid (Nm.ns (x.data.toList.take (j + 1)) = (Nm.ns (x.data.toList.take j) && ((x[j].toNat : Int) != 47))) := Lib.hid hns
                clear hns
                cases gj
                · have HN : Hid (((x[j].toNat : Int) == 47) = (slb || !Nm.ns (x.data.toList.take (j + 1)))) := Lib.hid (by rw [HNS.out, Bool.not_and, ← Bool.or_assoc, ← HI.out]; simp [bne])
                  clear HI HNS
                  go_wp2
                  go_round
                  case rel => exact ⟨j + 1, _, by omega, by go_num, rfl, HN⟩
                  case measure => simp [intOf]; omega
                · have HN : Hid (true = (slb || !Nm.ns (x.data.toList.take (j + 1)))) := Lib.hid (by rw [HNS.out, Bool.not_and, ← Bool.or_assoc, ← HI.out]; rfl)
                  clear HI HNS
                  go_wp2
                  go_round
                  case rel => exact ⟨j + 1, _, by omega, by go_num, rfl, HN⟩
                  case measure => simp [intOf]; omega
              · have HN : Hid (gj = ((Nm.dl s0).take (m + 1)).any (fun x => !Nm.ns x)) := Lib.hid (by rw [HN0.out, HI.out, List.take_of_length_le (by simp; omega)])
                clear HI HN0
                go_wp2
                go_round
                case rel => exact ⟨m + 1, _, by omega, by go_num, rfl, HN⟩
                case measure => simp [intOf]; omega
          · have HSL : Hid (slb = (Nm.dl s0).any (fun x => !Nm.ns x)) := Lib.hid (by rw [HA.out, List.take_of_length_le (by simp [Nm.dl, HZ.out]; omega)])
            clear HA
            cases slb
            · by_cases h20 : 20 < len0
              · clear HSL
                first
                  | (exfalso; omega)
                  | (go_wp2
                     go_ret
                     exact ⟨rfl, HB.out⟩)
              · try (exfalso; omega)
                all_goals
                  have htk : (Nm.dl s0).take k = Nm.dl s0 := by rw [HE.out (by omega)]; exact List.take_of_length_le (by simp [Nm.dl, HZ.out])
                  have hp := Nm.parts (Nm.dl s0) (by intro h; have := congrArg List.length h; simp [Nm.dl, HZ.out] at this; omega) (Nm.any_ns _ HSL.out.symm)
                  rw [htk] at HJ HG
                  have HP : Hid (Nm.nm sb.data.toList = (gb && decide (sb.size ≤ 60))) := Lib.hid (by rw [HJ.out, hp, HG.out, ← HJ.out]; rfl)
                  have HX := Lib.hid (Nm.check_any sb w1 (by unfold maxLen; omega))
                  clear htk hp HSL HJ HG
                  cases gb
                  · have HY := HX.out
                    rw [HP.out, Bool.false_and, show Nm.eno false = 7 from rfl] at HY
                    have HX2 := Lib.hid HY
                    clear HX HY HP
                    go_wp2_with fail
                    refine HX2.out.mono ?_
                    rintro e w' ⟨rfl, rfl⟩
                    go_wp2
                    go_ret
                    exact ⟨rfl, HB.out⟩
                  · by_cases h60 : sb.size ≤ 60
                    · have HY := HX.out
                      rw [HP.out, decide_eq_true h60, show Nm.eno (true && true) = 0 from rfl] at HY
                      have HX2 := Lib.hid HY
                      clear HX HY HP
                      go_wp2_with fail
                      refine HX2.out.mono ?_
                      rintro e w' ⟨rfl, rfl⟩
                      go_wp2
                      go_ret
                      exact ⟨Nm.ret_bool (by simp; omega), HB.out⟩
                    · have HY := HX.out
                      rw [HP.out, decide_eq_false h60, show Nm.eno (true && false) = 7 from rfl] at HY
                      have HX2 := Lib.hid HY
                      clear HX HY HP
                      go_wp2_with fail
                      refine HX2.out.mono ?_
                      rintro e w' ⟨rfl, rfl⟩
                      go_wp2
                      go_ret
                      exact ⟨Nm.ret_bool (by simp; omega), HB.out⟩
            · clear HSL
              go_wp2
              go_ret
              exact ⟨rfl, HB.out⟩

set_option maxRecDepth 100000 in
theorem lifted (os : Os) (started : os.Started) (H : Type) (enc : TypeId × Value → H) :
    ReturnsInHanded {} Try.checked os 5 .any (Rows.namePartsSpec.pre6 enc Try.prog Try.f5 Rows.namePartsRow.domain false) (Rows.namePartsSpec.post enc Try.prog Try.f5 false true false false) := by
  refine returnsInHanded_of_change_sized (C := Try.checked) own started (by kernel_rfl) Try.func5
    (ChangeSpec.witness6 (enc := enc) (C := Try.checked) false ⟨#[], #[.slice none 0 0], []⟩ 8 (by kernel_rfl) (by kernel_rfl) (by kernel_rfl) (by kernel_rfl)) ?_
  intro W base args ds gs before hval0 hW _ hsz0 _
  have hsz : (DataW.weightsEach Try.prog (Try.f5.params.toList ++ Rows.namePartsSpec.plain.varTypes Try.prog) (ds ++ gs)).all (· ≤ reachBytes) = true := hsz0
  clear hsz0
  have hval : ∀ (j : Nat) t v, Try.f5.params[j]? = some t → args[j]? = some v → Value.okWide Try.prog W .any base t v := hval0
  have hW' := hW
  obtain ⟨p, q, hA0, hV, rfl, _, _⟩ := hW
  have hA : DataW.TrodAll enc Try.prog W 0 (fun _ => true) true Try.f5.params.toList args.toList ds p := hA0
  rw [Try.params5] at hA hval hsz
  obtain ⟨v0, vs0, d0, ds0, p0, q0, hargs, rfl, rfl, h0, r0⟩ := trodAll_cons hA
  obtain ⟨rfl, rfl, rfl⟩ := trodAll_nil r0
  obtain rfl : args = #[v0] := by cases args; simp_all
  obtain ⟨rfl, rfl⟩ := trodVars_none hV
  have k0 := h0
  have lt0 : ∀ x ∈ p0, x.block < W.heap.size := by obtain ⟨m, hm⟩ := k0; exact DataW.trod_lt m _ _ _ hm
  obtain ⟨a0, len0, cap0, rfl⟩ := okWide_slice Try.underlying27 (hval 0 27 v0 rfl rfl)
  obtain ⟨s0, w0⟩ := Fr.isStrs_of Try.underlying27 Try.underlying9 (by kernel_rfl) (by kernel_rfl) hsz (j := 0) rfl rfl h0
  clear hA0 hval0
  simp only [List.append_nil] at hW'
  refine (walk W a0 len0 cap0 s0 w0).mono fun e W' ⟨he, bel⟩ => ?_
  subst he
  exact ⟨_, rfl, _, _, _, [], _, [], hW', trodAll_mk1 (shut_bool Try.underlying4 _), (trodAll_cons_mk (Below.trod laidOut (by kernel_rfl) (of_decide_eq_true (by kernel_rfl)) k0 bel lt0) trodAll_mk0), rfl, bel.frame _, fun h => by cases h⟩

theorem over : Rows.namePartsRow.holds Try.pinned (OpenSpec.ofChange Rows.namePartsSpec) :=
  OpenClaim.holds_of_wide 5 Try.f5 rfl rfl rfl rfl rfl rfl rfl ⟨rfl, rfl, rfl, rfl, rfl⟩ rfl rfl rfl rfl rfl (by kernel_rfl) Try.func5 (by kernel_rfl)
    (of_decide_eq_true (by kernel_rfl)) (by unfold Func.isWrapper; first | (rw [if_pos (by decide +kernel)]; kernel_rfl) | (rw [if_neg (by decide +kernel)]; exact ⟨rfl, rfl⟩))
    (fun os started H enc _ => lifted os started H enc)

/-- The statement. -/
theorem proved : Rows.NamePartsSaid := over
#print axioms proved
end Go.Proofs.Ytnognfhcddmikaa.nameParts
