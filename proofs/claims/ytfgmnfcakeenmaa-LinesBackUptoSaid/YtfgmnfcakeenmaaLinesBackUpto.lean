/- LinesBack: whatever the input of at most 1048576 values and letters, the law returns true, and each argument reads as it did before. The one condition is the form's own bound on the input's size. -/
import Derived.Test.YtfgmnfcakeenmaaRows
import Derived.WalkKit
import Derived.ProofKit
import Derived.OpenShut
import Derived.ShutString
import Derived.SizedLaws
import Derived.Below
import Derived.Deep.QuietTactic
import Derived.BigQuiet
import Derived.RegionTactic
import Derived.BigRegion
import Derived.Outline
import Derived.Deep.RegionLaw
import Derived.Deep.RegionWith
import Derived.Deep.RegionHeld3
import Derived.Deep.DeepCutAuto
import Derived.Deep.CutBlock
import Derived.Deep.LoopGhost
import Derived.Lib.Hide
import Derived.WalkSpells
import Derived.WalkLawsBesides
import Derived.Deep.CondSized
import Derived.JoinedCond
import Derived.Test.YtfgmnfcakeenmaaFrStrs
import Derived.Test.YtfgmnfcakeenmaaLnAdded
namespace Go.Proofs.Ytfgmnfcakeenmaa.linesBackUpto
open Go.ChangeShapes Go.WideShapes Go.ChangeAt Go.RowKit
open Go.ChangeMaps (open_string shut_string)
set_option linter.unusedVariables false

theorem own : ownKnob Try.prog.godebug = none := by kernel_rfl
theorem laidOut : laidOutB Try.prog = true := by kernel_rfl


set_option maxRecDepth 100000 in
set_option maxHeartbeats 2000000 in
theorem walk (w : World) (a0 : Option Addr) (len0 cap0 : Nat) (s0 : List ByteArray) (w0 : Fr.IsStrs w a0 len0 cap0 s0) (a1 : Option Addr) (len1 cap1 : Nat) (s1 : List ByteArray) (w1 : Fr.IsStrs w a1 len1 cap1 s1) :
    Calls Try.prog 6 #[.slice a0 len0 cap0, .slice a1 len1 cap1] w fun e w' => e = .returned (.bool true) ∧ Below w.heap.size w w' := by
  obtain ⟨r0, q0⟩ := Ln.rd_of_strs w0
  obtain ⟨r1, q1⟩ := Ln.rd_of_strs w1
  have HK := Lib.hid (Ln.known_any w)
  have H0 := Lib.hid r0
  have H1 := Lib.hid r1
  have Q0 := Lib.hid q0
  have Q1 := Lib.hid q1
  have M0 := Lib.hid (fun s hs => Nat.le_trans (q0 s hs) (show 140737488351232 ≤ maxLen by unfold maxLen; omega))
  have M1 := Lib.hid (fun s hs => Nat.le_trans (q1 s hs) (show 140737488351232 ≤ maxLen by unfold maxLen; omega))
  have L0 := Lib.hid (show s0.length = len0 by have := r0.hlen; simpa [Ln.sv] using this)
  have L1 := Lib.hid (show s1.length = len1 by have := r1.hlen; simpa [Ln.sv] using this)
  clear r0 r1 q0 q1 w0 w1
  go_enter Try.func6, Try.ntmps6
  go_wp2_with fail
  refine HK.out.mono ?_
  rintro e w1 ⟨rfl, hb⟩
  have HB1 := Lib.hid hb
  have HF := Lib.hid (Ln.few_call _ a0 len0 cap0 s0 w1 (H0.out.below hb) Q0.out)
  clear hb HK
  go_wp2_with fail
  refine HF.out.mono ?_
  rintro e w2 ⟨f, rfl, hf, hb2⟩
  have HB2 := Lib.hid (HB1.out.trans (hb2.mono HB1.out.size))
  cases f
  · clear hf HF hb2
    go_wp2
    go_ret
    exact ⟨rfl, HB2.out⟩
  have hl0 := hf rfl
  have HF2 := Lib.hid (Ln.few_call _ a1 len1 cap1 s1 w2 (H1.out.below HB2.out) Q1.out)
  clear hf HF HB1 hb2
  go_wp2_with fail
  refine HF2.out.mono ?_
  rintro e w3 ⟨f, rfl, hf, hb3⟩
  have HB3 := Lib.hid (HB2.out.trans (hb3.mono HB2.out.size))
  cases f
  · clear hf HF2 hb3
    go_wp2
    go_ret
    exact ⟨rfl, HB3.out⟩
  have hl1 := hf rfl
  have hsz3 := HB3.out.size
  clear hf HF2 HB2 hb3
  have hsl := Ln.scr_len s0 s1
  have hsl2 := Ln.scr_len s1 s0
  rw [L0.out, L1.out] at hsl hsl2
  have HD := Lib.hid (Ln.diff_any a0 len0 cap0 s0 a1 len1 cap1 s1 w3 ((H0.out.below HB3.out).more hsz3) ((H1.out.below HB3.out).more hsz3) M0.out M1.out (by omega) (by omega))
  go_wp2_with fail
  refine HD.out.mono ?_
  rintro e w4 ⟨v4, rfl, ho4, ht4, hb4⟩
  obtain ⟨A4, N4, C4, rfl⟩ := Ln.own_slice ho4
  obtain rfl := Ln.own_N ho4
  have HB4 := Lib.hid (HB3.out.trans (hb4.mono hsz3))
  have hsz4 := HB4.out.size
  have HO4 := Lib.hid ho4
  have HA := Lib.hid (Ln.added_any _ A4 C4 (Ln.scr s0 s1) a1 len1 cap1 s1 w4 ho4 ((H1.out.below HB4.out).more hsz4) (by omega) (by omega) (by rw [Ln.bsum_scr, L1.out]; omega))
  have hel : (Ln.scr s0 s1).length ≤ 1000 := by omega
  clear ho4 ht4 hb4 HD
  go_wp2_with fail
  refine HA.out.mono ?_
  rintro e w5 ⟨v5, rfl, ho5, hb5⟩
  obtain ⟨A5, N5, C5, rfl⟩ := Ln.own_slice ho5
  obtain rfl := Ln.own_N ho5
  have HB5 := Lib.hid (HB4.out.trans (hb5.mono hsz4))
  have hsz5 := HB5.out.size
  have HO45 := Lib.hid (Ln.own_keep HO4.out hb5)
  have hal : (Ln.adE (Ln.scr s0 s1) s1).length ≤ len1 := by
    have := Ln.adE_len (Ln.scr s0 s1) s1 (by rw [Ln.bsum_scr]; exact Nat.le_refl _)
    rw [L1.out] at this
    exact this
  have hwf : ∀ x ∈ Ln.ze (Ln.scr s0 s1), -9223372036854775808 ≤ x.2 ∧ x.2 ≤ 9223372036854775807 := by
    intro x hx
    obtain ⟨y, hy, rfl⟩ := List.mem_map.1 hx
    have h1 := Ln.mem_tot hy
    simp only
    omega
  have HP := Lib.hid (Ln.apply_any a0 len0 cap0 s0 A4 (Ln.scr s0 s1).length C4 (Ln.ze (Ln.scr s0 s1)) A5 _ C5 (Ln.adE (Ln.scr s0 s1) s1) w5 ((H0.out.below HB5.out).more hsz5) (Ln.rde_of_own HO45.out (by omega)) (Ln.Rd.of_own ho5 (by omega)).1 hwf (by omega))
  rw [Ln.aps_scr] at HP
  clear ho5 hb5 HA HO4 hwf hal
  go_wp2_with fail
  refine HP.out.mono ?_
  rintro e w6 ⟨v6, rfl, ho6, hb6⟩
  simp only at ho6
  obtain ⟨A6, N6, C6, rfl⟩ := Ln.own_slice ho6
  obtain rfl := Ln.own_N ho6
  have HB6 := Lib.hid (HB5.out.trans (hb6.mono hsz5))
  have hsz6 := HB6.out.size
  have HO46 := Lib.hid (Ln.own_keep HO45.out hb6)
  have HO6 := Lib.hid ho6
  have HD := Lib.hid (Ln.diff_any a1 len1 cap1 s1 a0 len0 cap0 s0 w6 ((H1.out.below HB6.out).more hsz6) ((H0.out.below HB6.out).more hsz6) M1.out M0.out (by omega) (by omega))
  clear ho6 hb6 HP HO45
  go_wp2_with fail
  refine HD.out.mono ?_
  rintro e w7 ⟨v7, rfl, ho7, ht7, hb7⟩
  obtain ⟨A7, N7, C7, rfl⟩ := Ln.own_slice ho7
  obtain rfl := Ln.own_N ho7
  have HB7 := Lib.hid (HB6.out.trans (hb7.mono hsz6))
  have hsz7 := HB7.out.size
  have HO47 := Lib.hid (Ln.own_keep HO46.out hb7)
  have HO67 := Lib.hid (Ln.own_keep HO6.out hb7)
  have HO7 := Lib.hid ho7
  have hel7 : (Ln.scr s1 s0).length ≤ 1000 := by omega
  have hc6 : len1 ≤ len1 := Nat.le_refl _
  have HS := Lib.hid (Ln.same_call _ _ A6 s1.length C6 a1 cap1 s1 w7 (Ln.Rd.of_own HO67.out (by rw [L1.out]; omega)).1 (by rw [L1.out]; exact H1.out.below HB7.out))
  rw [L1.out] at HS
  clear ho7 ht7 hb7 HD HO46 HO6
  rw [L1.out]
  go_wp2_with fail
  refine HS.out.mono ?_
  rintro e w8 ⟨rfl, hb8⟩
  have HB8 := Lib.hid (HB7.out.trans (hb8.mono hsz7))
  have HO48 := Lib.hid (Ln.own_keep HO47.out hb8)
  have HO78 := Lib.hid (Ln.own_keep HO7.out hb8)
  have HK1 := Lib.hid (Ln.kept_any _ A4 C4 _ w8 HO48.out (by omega) (by omega))
  have HK2 := Lib.hid (Ln.kept_any _ A7 C7 _ w8 HO78.out (by omega) (by omega))
  have hkk : Ln.kc (Ln.scr s0 s1) = Ln.kc (Ln.scr s1 s0) := by rw [Ln.kc_scr, Ln.kc_scr, Ln.lcs_comm]
  rw [hkk] at HK1
  clear hb8 HS hkk
  go_wp2_with fail
  refine HK1.out.mono ?_
  rintro e w9 ⟨rfl, rfl⟩
  go_wp2_with fail
  refine HK2.out.mono ?_
  rintro e w9 ⟨rfl, rfl⟩
  go_wp2
  go_ret
  exact ⟨by simp, HB8.out⟩

set_option maxRecDepth 100000 in
theorem lifted (os : Os) (started : os.Started) (H : Type) (enc : TypeId × Value → H) (F : Stop.Interp) :
    ReturnsInHanded {} Try.checked os 6 .any ((Rows.OpenSpec.upto Rows.linesBackSpec).pre6 enc Try.prog Try.f6 Rows.linesBackUptoRow.domain false) (((Rows.OpenSpec.upto Rows.linesBackSpec).at F).post enc Try.prog Try.f6 false true false false) := by
  refine returnsInHanded_of_cond_sized (C := Try.checked) (s := (Rows.OpenSpec.upto Rows.linesBackSpec)) (k := Rows.uptoSmall) rfl own started (by kernel_rfl) Try.func6
    (OpenSpec.witness (enc := enc) (C := Try.checked) (s := (Rows.OpenSpec.upto Rows.linesBackSpec)) (k := Rows.uptoSmall) rfl false ⟨#[], #[.slice none 0 0, .slice none 0 0], []⟩ 8 (by kernel_rfl) (by kernel_rfl) (by kernel_rfl)
      (x := ([.nil, .nil], [], [])) (by kernel_rfl) rfl (by kernel_rfl)) ?_
  intro W base args ds gs before hval0 hW _ hk0 hsz0 _
  have hsz : (DataW.weightsEach Try.prog (Try.f6.params.toList ++ (Rows.OpenSpec.upto Rows.linesBackSpec).bare.plain.varTypes Try.prog) (ds ++ gs)).all (· ≤ reachBytes) = true := hsz0
  clear hsz0
  have hval : ∀ (j : Nat) t v, Try.f6.params[j]? = some t → args[j]? = some v → Value.okWide Try.prog W .any base t v := hval0
  have hW' := hW
  obtain ⟨p, q, hA0, hV, rfl, _, _⟩ := hW
  have hA : DataW.TrodAll enc Try.prog W 0 (fun _ => true) true Try.f6.params.toList args.toList ds p := hA0
  rw [Try.params6] at hA hval hsz
  obtain ⟨v0, vs0, d0, ds0, p0, q0, hargs, rfl, rfl, h0, r0⟩ := trodAll_cons hA
  obtain ⟨v1, vs1, d1, ds1, p1, q1, rfl, rfl, rfl, h1, r1⟩ := trodAll_cons r0
  obtain ⟨rfl, rfl, rfl⟩ := trodAll_nil r1
  obtain rfl : args = #[v0, v1] := by cases args; simp_all
  obtain ⟨rfl, rfl⟩ := trodVars_none hV
  have hk : Rows.uptoBulkAll ([d0, d1] ++ []) ≤ 1048576 := of_decide_eq_true hk0
  simp only [List.append_nil, Rows.uptoBulkAll] at hk
  have bulk0 : Rows.uptoBulk d0 ≤ 1048576 := by omega
  have bulk1 : Rows.uptoBulk d1 ≤ 1048576 := by omega
  have k0 := h0
  have lt0 : ∀ x ∈ p0, x.block < W.heap.size := by obtain ⟨m, hm⟩ := k0; exact DataW.trod_lt m _ _ _ hm
  have k1 := h1
  have lt1 : ∀ x ∈ p1, x.block < W.heap.size := by obtain ⟨m, hm⟩ := k1; exact DataW.trod_lt m _ _ _ hm
  obtain ⟨a0, len0, cap0, rfl⟩ := okWide_slice Try.underlying22 (hval 0 22 v0 rfl rfl)
  obtain ⟨s0, w0⟩ := Fr.isStrs_of Try.underlying22 Try.underlying9 (by kernel_rfl) (by kernel_rfl) hsz (j := 0) rfl rfl h0
  obtain ⟨a1, len1, cap1, rfl⟩ := okWide_slice Try.underlying22 (hval 1 22 v1 rfl rfl)
  obtain ⟨s1, w1⟩ := Fr.isStrs_of Try.underlying22 Try.underlying9 (by kernel_rfl) (by kernel_rfl) hsz (j := 1) rfl rfl h1
  clear hA0 hval0
  simp only [List.append_nil] at hW'
  refine (walk W a0 len0 cap0 s0 w0 a1 len1 cap1 s1 w1).mono fun e W' ⟨he, bel⟩ => ?_
  subst he
  exact ⟨_, rfl, _, _, _, [], _, [], hW', trodAll_mk1 (shut_bool Try.underlying4 _), (trodAll_cons_mk (Below.trod laidOut (by kernel_rfl) (of_decide_eq_true (by kernel_rfl)) k0 bel lt0) (trodAll_cons_mk (Below.trod laidOut (by kernel_rfl) (of_decide_eq_true (by kernel_rfl)) k1 bel lt1) trodAll_mk0)), rfl, bel.frame _, fun h => by cases h⟩

/-- The statement. -/
theorem proved : Rows.LinesBackUptoSaid :=
  OpenClaim.holds_of_cond 6 Try.f6 rfl rfl rfl rfl rfl rfl rfl ⟨rfl, rfl, rfl, rfl, rfl⟩ rfl rfl rfl rfl rfl (by kernel_rfl) Try.func6 (by kernel_rfl)
    (of_decide_eq_true (by kernel_rfl)) (by unfold Func.isWrapper; first | (rw [if_pos (by decide +kernel)]; kernel_rfl) | (rw [if_neg (by decide +kernel)]; exact ⟨rfl, rfl⟩))
    (fun os started H enc _ F => lifted os started H enc F)
#print axioms proved
end Go.Proofs.Ytfgmnfcakeenmaa.linesBackUpto
