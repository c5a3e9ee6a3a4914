/- NameFits: whatever the input, the law returns true, and each argument reads as it did before. No condition. -/
import Derived.Test.YtnognfhcddmikaaRows
import Derived.WalkKit
import Derived.ProofKit
import Derived.OpenShut
import Derived.ShutString
import Derived.SizedLaws
import Derived.Below
import Derived.Lib.Hide
import Derived.WalkSpells
import Derived.WalkLawsBesides
import Derived.Test.YtnognfhcddmikaaFrStrs
import Derived.Test.YtnognfhcddmikaaNmOwn
namespace Go.Proofs.Ytnognfhcddmikaa.nameFits
open Go.ChangeShapes Go.WideShapes Go.ChangeAt Go.RowKit
open Go.ChangeMaps (open_string shut_string)
set_option linter.unusedVariables false

theorem own : ownKnob Try.prog.godebug = none := by kernel_rfl
theorem laidOut : laidOutB Try.prog = true := by kernel_rfl

theorem info9 : (Try.prog.info? 9).map (fun i => (i.zero, i.size, i.bytes)) = some (some (.string ByteArray.empty), 1, 16) := by kernel_rfl

set_option maxHeartbeats 1000000 in
theorem walk_big (w : World) (a0 : ByteArray) (a1 : Option Addr) (len1 cap1 : Nat) (hbig : 300 < len1) (hl : len1 ≤ maxLen) :
    Calls Try.prog 4 #[.string a0, .slice a1 len1 cap1] w fun e w' => e = .returned (.bool true) ∧ Below w.heap.size w w' := by
  have HK := Lib.hid (Nm.known_any w)
  unfold maxLen at hl
  go_enter Try.func4, Try.ntmps4
  go_wp2_with fail
  refine HK.out.mono ?_
  rintro e w1 ⟨rfl, hb⟩
  have HB := Lib.hid hb
  clear hb HK
  go_wp2
  go_ret
  exact ⟨rfl, HB.out⟩

set_option maxHeartbeats 1000000 in
theorem walk_nil (w : World) (a0 : ByteArray) (h0 : a0.size ≤ 140737488351232) :
    Calls Try.prog 4 #[.string a0, .slice none 0 0] w fun e w' => e = .returned (.bool true) ∧ Below w.heap.size w w' := by
  have HK := Lib.hid (Nm.known_any w)
  obtain ⟨i0, hi, hz0, hz1, hz2⟩ := info_parts info9
  go_enter Try.func4, Try.ntmps4
  go_wp2_with fail
  refine HK.out.mono ?_
  rintro e w1 ⟨rfl, hb⟩
  have hB := hb.size
  have HB := Lib.hid hb
  have HOWN := Lib.hid (Nm.own_empty w1 w.heap.size 9 hB)
  clear hb HK
  go_wp2_with fail
  refine (Nm.fits_any a0 _ 0 0 0 [] _ (by unfold maxLen; omega) (by unfold maxLen; omega) ⟨rfl, fun i hi => absurd hi (by omega)⟩ (by simp)).mono ?_
  rintro e w' ⟨rfl, rfl⟩
  go_wp2_with fail
  refine (Nm.rfits_none a0 none 0 _ (by unfold maxLen; omega)).mono ?_
  rintro e w' ⟨rfl, rfl⟩
  go_wp2
  go_ret
  exact ⟨Nm.ret_bool (beq_self_eq_true (Nm.fits a0.data.toList [])), HB.out.alloc hB _⟩

theorem walk (w : World) (a0 : ByteArray) (w0 : a0.size ≤ 140737488351232) (a1 : Option Addr) (len1 cap1 : Nat) (s1 : List ByteArray) (w1 : Fr.IsStrs w a1 len1 cap1 s1) :
    Calls Try.prog 4 #[.string a0, .slice a1 len1 cap1] w fun e w' => e = .returned (.bool true) ∧ Below w.heap.size w w' := by
  by_cases hbig : 300 < len1
  · refine walk_big w a0 a1 len1 cap1 hbig ?_
    rcases w1 with ⟨rfl, rfl, rfl, rfl⟩ | ⟨x, rfl, hl, hm, hz, hcell, hs⟩
    · omega
    · unfold maxLen; omega
  rcases w1 with ⟨rfl, rfl, rfl, rfl⟩ | ⟨x, rfl, hl, hm, hz, hcell, hs⟩
  · exact walk_nil w a0 w0
  have HK := Lib.hid (Nm.known_any w)
  obtain ⟨i0, hi, hz0, hz1, hz2⟩ := info_parts info9
  have HC := Lib.hid hcell
  have HS := Lib.hid hs
  have HZ := Lib.hid hz
  clear hcell hs hz
  go_enter Try.func4, Try.ntmps4
  go_wp2_with fail
  refine HK.out.mono ?_
  rintro e w1 ⟨rfl, hb⟩
  have hB := hb.size
  have HB := Lib.hid hb
  have HOWN := Lib.hid (Nm.own_empty w1 w.heap.size 9 hB)
  have HN : Hid (∀ j u, (s1.map Value.string)[j]? = some u → (w1.alloc (.cells #[] 9)).cell? (x.add j) = some u) := Lib.hid (by
    intro j u hj
    have hlt : j < len1 := by
      rcases Nat.lt_or_ge j len1 with h | h
      · exact h
      · rw [List.getElem?_eq_none (by simp [HZ.out]; omega)] at hj; simp at hj
    have hc := HC.out j hlt
    have hlt' := block_lt_of_cell hc
    rw [(hb.alloc hB _).cell hlt', hc]
    rw [← hj]
    simp [HZ.out, hlt])
  clear hb HK
  go_wp2_with (at_builtin; refine wpList_append_own _ rfl _ _ 27 rfl w.heap.size 9 i0 (.string ByteArray.empty) 1 16 Try.underlying27 hi hz0 hz1 hz2 rfl (by decide) _ 0 [] rfl HOWN.out x len1 cap1 (s1.map Value.string) rfl ?c0 HN.out ?c1 ?c2 ?c3 ?c4 ?_)
  case c0 => rw [List.length_map, HZ.out]; omega
  case c1 => intro u hu; obtain ⟨s, _, rfl⟩ := List.mem_map.1 hu; rfl
  case c2 => unfold maxLen; omega
  case c3 => omega
  case c4 => simp; omega
  intro v' w2 hown hgrow hnil
  obtain ⟨g, cap2, rfl, hcells⟩ := Nm.own_cells hown hnil HZ.out
  have hb2 : Below w.heap.size w w2 := (HB.out.alloc hB _).grown hgrow (by simp; omega) (fun k hk => by
    simp [Value.ownBlock] at hk
    omega)
  have HB2 := Lib.hid hb2
  have HC2 := Lib.hid hcells
  clear hown hgrow hnil hcells hb2 HOWN HN HB hB
  go_wp2_with fail
  refine (Nm.fits_any a0 g 0 len1 cap2 s1 _ (by unfold maxLen; omega) (by unfold maxLen; omega) HC2.out HS.out).mono ?_
  rintro e w' ⟨rfl, rfl⟩
  go_wp2_with fail
  by_cases h0 : len1 = 0
  · subst h0
    obtain rfl : s1 = [] := List.eq_nil_of_length_eq_zero HZ.out
    refine (Nm.rfits_none a0 (some x) cap1 _ (by unfold maxLen; omega)).mono ?_
    rintro e w' ⟨rfl, rfl⟩
    go_wp2
    go_ret
    exact ⟨Nm.ret_bool (beq_self_eq_true (Nm.fits a0.data.toList [])), HB2.out⟩
  · obtain ⟨b, off, spot⟩ := x
    have hc0 := HC.out 0 (by omega)
    have hspot : spot = none := by simpa [Addr.add] using World.cell?_spot hc0
    subst hspot
    clear hc0
    refine (Nm.rfits_any a0 b off len1 cap1 s1 _ (by unfold maxLen; omega) (by unfold maxLen; omega) (Nm.cells_kept HB2.out HZ.out HC.out) (fun o ho => by have := HS.out o ho; unfold maxLen; omega)).mono ?_
    rintro e w' ⟨rfl, rfl⟩
    go_wp2
    go_ret
    exact ⟨rfl, HB2.out⟩

set_option maxRecDepth 100000 in
theorem lifted (os : Os) (started : os.Started) (H : Type) (enc : TypeId × Value → H) :
    ReturnsInHanded {} Try.checked os 4 .any (Rows.nameFitsSpec.pre6 enc Try.prog Try.f4 Rows.nameFitsRow.domain false) (Rows.nameFitsSpec.post enc Try.prog Try.f4 false true false false) := by
  refine returnsInHanded_of_change_sized (C := Try.checked) own started (by kernel_rfl) Try.func4
    (ChangeSpec.witness6 (enc := enc) (C := Try.checked) false ⟨#[], #[.string ByteArray.empty, .slice none 0 0], []⟩ 8 (by kernel_rfl) (by kernel_rfl) (by kernel_rfl) (by kernel_rfl)) ?_
  intro W base args ds gs before hval0 hW _ hsz0 _
  have hsz : (DataW.weightsEach Try.prog (Try.f4.params.toList ++ Rows.nameFitsSpec.plain.varTypes Try.prog) (ds ++ gs)).all (· ≤ reachBytes) = true := hsz0
  clear hsz0
  have hval : ∀ (j : Nat) t v, Try.f4.params[j]? = some t → args[j]? = some v → Value.okWide Try.prog W .any base t v := hval0
  have hW' := hW
  obtain ⟨p, q, hA0, hV, rfl, _, _⟩ := hW
  have hA : DataW.TrodAll enc Try.prog W 0 (fun _ => true) true Try.f4.params.toList args.toList ds p := hA0
  rw [Try.params4] at hA hval hsz
  obtain ⟨v0, vs0, d0, ds0, p0, q0, hargs, rfl, rfl, h0, r0⟩ := trodAll_cons hA
  obtain ⟨v1, vs1, d1, ds1, p1, q1, rfl, rfl, rfl, h1, r1⟩ := trodAll_cons r0
  obtain ⟨rfl, rfl, rfl⟩ := trodAll_nil r1
  obtain rfl : args = #[v0, v1] := by cases args; simp_all
  obtain ⟨rfl, rfl⟩ := trodVars_none hV
  have k0 := h0
  have lt0 : ∀ x ∈ p0, x.block < W.heap.size := by obtain ⟨m, hm⟩ := k0; exact DataW.trod_lt m _ _ _ hm
  have k1 := h1
  have lt1 : ∀ x ∈ p1, x.block < W.heap.size := by obtain ⟨m, hm⟩ := k1; exact DataW.trod_lt m _ _ _ hm
  obtain ⟨a0, rfl, rfl, rfl, w0'⟩ := open_string Try.underlying9 (hval 0 9 v0 rfl rfl) h0
  have w0 : a0.size ≤ 140737488351232 := by have := sized_string hsz (j := 0) (t := 9) rfl rfl; simpa [reachBytes] using this
  obtain ⟨a1, len1, cap1, rfl⟩ := okWide_slice Try.underlying27 (hval 1 27 v1 rfl rfl)
  obtain ⟨s1, w1⟩ := Fr.isStrs_of Try.underlying27 Try.underlying9 (by kernel_rfl) (by kernel_rfl) hsz (j := 1) rfl rfl h1
  clear hA0 hval0
  simp only [List.append_nil] at hW'
  refine (walk W a0 w0 a1 len1 cap1 s1 w1).mono fun e W' ⟨he, bel⟩ => ?_
  subst he
  exact ⟨_, rfl, _, _, _, [], _, [], hW', trodAll_mk1 (shut_bool Try.underlying4 _), (trodAll_cons_mk (Below.trod laidOut (by kernel_rfl) (of_decide_eq_true (by kernel_rfl)) k0 bel lt0) (trodAll_cons_mk (Below.trod laidOut (by kernel_rfl) (of_decide_eq_true (by kernel_rfl)) k1 bel lt1) trodAll_mk0)), rfl, bel.frame _, fun h => by cases h⟩

theorem over : Rows.nameFitsRow.holds Try.pinned (OpenSpec.ofChange Rows.nameFitsSpec) :=
  OpenClaim.holds_of_wide 4 Try.f4 rfl rfl rfl rfl rfl rfl rfl ⟨rfl, rfl, rfl, rfl, rfl⟩ rfl rfl rfl rfl rfl (by kernel_rfl) Try.func4 (by kernel_rfl)
    (of_decide_eq_true (by kernel_rfl)) (by unfold Func.isWrapper; first | (rw [if_pos (by decide +kernel)]; kernel_rfl) | (rw [if_neg (by decide +kernel)]; exact ⟨rfl, rfl⟩))
    (fun os started H enc _ => lifted os started H enc)

/-- The statement. -/
theorem proved : Rows.NameFitsSaid := over
#print axioms proved
end Go.Proofs.Ytnognfhcddmikaa.nameFits
