/- LinesApplies: whatever the input of at most 1048576 values and letters, the law returns true, and each argument reads as it did before. The one condition is the form's own bound on the input's size. -/
import Derived.Test.YtfgmnfcakeenmaaRows
import Derived.WalkKit
import Derived.ProofKit
import Derived.OpenShut
import Derived.ShutString
import Derived.SizedLaws
import Derived.Below
import Derived.Deep.QuietTactic
import Derived.BigQuiet
import Derived.RegionTactic
import Derived.BigRegion
import Derived.Outline
import Derived.Deep.RegionLaw
import Derived.Deep.RegionWith
import Derived.Deep.RegionHeld3
import Derived.Deep.DeepCutAuto
import Derived.Deep.CutBlock
import Derived.Deep.LoopGhost
import Derived.Lib.Hide
import Derived.WalkSpells
import Derived.WalkLawsBesides
import Derived.Deep.CondSized
import Derived.JoinedCond
import Derived.Test.YtfgmnfcakeenmaaFrEdits
import Derived.Test.YtfgmnfcakeenmaaFrStrs
import Derived.Test.YtfgmnfcakeenmaaLnEdits
import Derived.Test.YtfgmnfcakeenmaaLnWithin
namespace Go.Proofs.Ytfgmnfcakeenmaa.linesAppliesUpto
open Go.ChangeShapes Go.WideShapes Go.ChangeAt Go.RowKit
open Go.ChangeMaps (open_string shut_string)
set_option linter.unusedVariables false

theorem own : ownKnob Try.prog.godebug = none := by kernel_rfl
theorem laidOut : laidOutB Try.prog = true := by kernel_rfl

theorem rde_of_pairs {w : World} {a : Option Addr} {len cap : Nat} {es : List (Int × Int)} (h : Fr.IsPairs w a len cap es) : Ln.RdE w w.heap.size a len cap es ∧ ∀ x ∈ es, -9223372036854775808 ≤ x.2 ∧ x.2 ≤ 9223372036854775807 := by
  rcases h with ⟨rfl, rfl, rfl, rfl⟩ | ⟨x, rfl, hl, hm, hz, hc, hw⟩
  · exact ⟨⟨rfl, Nat.le_refl _, by omega, by omega, fun _ => rfl, fun i hi => absurd hi (by simp)⟩, fun x hx => by simp at hx⟩
  · refine ⟨⟨hz, hl, by omega, by omega, (fun hn => by cases hn), ?_⟩, fun y hy => Wi.wf_bounds (hw y hy).2⟩
    intro i hi
    have h := hc i (by omega)
    obtain ⟨b, off, spot⟩ := x
    have hspot : spot = none := by simpa [Addr.add] using World.cell?_spot (hc 0 (by omega)).1
    subst hspot
    have e : ∀ k, Addr.add ⟨b, off, none⟩ k = (⟨b, off + k, none⟩ : Addr) := by intro k; simp [Addr.add]
    rw [e, e] at h
    have hg : es.getD i (0, 0) = es[i] := by simp [List.getD, hi]
    rw [hg] at h
    exact ⟨b, off, rfl, block_lt_of_cell (a := ⟨b, off + i * 2, none⟩) h.1, h.1, by rw [Nat.add_assoc]; exact h.2⟩

set_option maxRecDepth 100000 in
set_option maxHeartbeats 2000000 in
theorem walk (w : World) (a0 : Option Addr) (len0 cap0 : Nat) (s0 : List ByteArray) (w0 : Fr.IsStrs w a0 len0 cap0 s0) (a1 : Option Addr) (len1 cap1 : Nat) (e1 : List (Int × Int)) (w1 : Fr.IsPairs w a1 len1 cap1 e1) (a2 : Option Addr) (len2 cap2 : Nat) (s2 : List ByteArray) (w2 : Fr.IsStrs w a2 len2 cap2 s2) :
    Calls Try.prog 4 #[.slice a0 len0 cap0, .slice a1 len1 cap1, .slice a2 len2 cap2] w fun e w' => e = .returned (.bool true) ∧ Below w.heap.size w w' := by
  obtain ⟨r0, q0⟩ := Ln.rd_of_strs w0
  obtain ⟨r1, q1⟩ := rde_of_pairs w1
  obtain ⟨r2, q2⟩ := Ln.rd_of_strs w2
  have HK := Lib.hid (Ln.known_any w)
  have H0 := Lib.hid r0
  have H1 := Lib.hid r1
  have H2 := Lib.hid r2
  have Q0 := Lib.hid q0
  have Q1 := Lib.hid q1
  have Q2 := Lib.hid q2
  have le1 := r1.hbig
  have lc1 := r1.hcap
  have lm1 := r1.hmax
  clear r0 r1 r2 q0 q1 q2 w0 w1 w2
  go_enter Try.func4, Try.ntmps4
  go_wp2_with fail
  refine HK.out.mono ?_
  rintro e w1 ⟨rfl, hb⟩
  have HB1 := Lib.hid hb
  have HF := Lib.hid (Ln.few_call _ a0 len0 cap0 s0 w1 (H0.out.below hb) Q0.out)
  clear hb HK
  go_wp2_with fail
  refine HF.out.mono ?_
  rintro e w2 ⟨f, rfl, hf, hb2⟩
  have HB2 := Lib.hid (HB1.out.trans (hb2.mono HB1.out.size))
  cases f
  · clear hf HF hb2
    go_wp2
    go_ret
    exact ⟨rfl, HB2.out⟩
  have hl0 := hf rfl
  have HF2 := Lib.hid (Ln.few_call _ a2 len2 cap2 s2 w2 (H2.out.below HB2.out) Q2.out)
  clear hf HF HB1 hb2
  go_wp2_with fail
  refine HF2.out.mono ?_
  rintro e w3 ⟨f, rfl, hf, hb3⟩
  have HB3 := Lib.hid (HB2.out.trans (hb3.mono HB2.out.size))
  cases f
  · clear hf HF2 hb3
    go_wp2
    go_ret
    exact ⟨rfl, HB3.out⟩
  have hl2 := hf rfl
  have hsz3 := HB3.out.size
  clear hf HF2 HB2 hb3
  by_cases hbig : 200 < len1
  · have hd : decide ((200 : Int) < (len1 : Int)) = true := by simp; omega
    go_wp2
    go_ret
    exact ⟨rfl, HB3.out⟩
  have hd : decide ((200 : Int) < (len1 : Int)) = false := by simp; omega
  have hl1 : len1 ≤ 200 := by omega
  clear hbig
  have HX1 := Lib.hid ((Below.refl w3.heap.size w3).alloc (Nat.le_refl _) (.cells #[] 9))
  have HE1 := Lib.hid (Ln.own_empty w3 w3.heap.size (Nat.le_refl _))
  have HR0 := Lib.hid (H0.out.below (HB3.out.trans (HX1.out.mono hsz3)))
  go_wp2_with (at_builtin; refine Ln.wpList_append_strs _ rfl _ _ rfl w3.heap.size _ 0 [] rfl HE1.out _ a0 len0 cap0 s0 rfl HR0.out len0 (Nat.zero_add _) s0 rfl (by omega) HX1.out.size ?_)
  intro A4 C4 w4 ho4 hb4 hk4
  have hx4 := HX1.out.trans hb4
  have HB4 := Lib.hid (HB3.out.trans (hx4.mono hsz3))
  have HO4 := Lib.hid ho4
  have hsz4 := HB4.out.size
  clear ho4 hb4 hk4 HX1 HE1 HR0 hx4
  have HX1 := Lib.hid ((Below.refl w4.heap.size w4).alloc (Nat.le_refl _) (.cells #[] 48))
  have HE1 := Lib.hid (Ln.own_empty_ed w4 w4.heap.size (Nat.le_refl _))
  have HR1 := Lib.hid (H1.out.below (HB4.out.trans (HX1.out.mono hsz4)))
  go_wp2_with (at_builtin; refine Ln.wpList_append_eds _ rfl _ _ rfl w4.heap.size _ rfl HE1.out _ a1 len1 cap1 e1 rfl HR1.out (by omega) HX1.out.size ?_)
  intro A5 C5 w5 ho5 hb5 hk5
  have hx5 := HX1.out.trans hb5
  have HB5 := Lib.hid (HB4.out.trans (hx5.mono hsz4))
  have HO45 := Lib.hid (Ln.own_keep HO4.out hx5)
  have hsz5 := HB5.out.size
  have hle : e1.length ≤ 140737488355328 := by rw [H1.out.hlen]; exact le1
  have HP := Lib.hid (Ln.apply_any A4 len0 C4 s0 A5 len1 C5 e1 a2 len2 cap2 s2 w5 (Ln.Rd.of_own HO45.out (by omega)).1 (Ln.rde_of_ownz ho5 hle) ((H2.out.below HB5.out).more hsz5) Q1.out (by omega))
  clear ho5 hb5 hk5 HX1 HE1 HR1 hx5 HO4 hle
  go_wp2_with fail
  refine HP.out.mono ?_
  rintro e w6 ⟨v6, rfl, ho6, hb6⟩
  have HB6 := Lib.hid (HB5.out.trans (hb6.mono hsz5))
  have hsz6 := HB6.out.size
  have HO6 := Lib.hid ho6
  have HP2 := Lib.hid (Ln.rapply_any a0 len0 cap0 s0 a1 len1 cap1 e1 a2 len2 cap2 s2 w6 ((H0.out.below HB6.out).more hsz6) ((H1.out.below HB6.out).more hsz6) ((H2.out.below HB6.out).more hsz6) Q1.out (by omega))
  have hrl := Ln.apS_len none s0 e1 s2 []
  have l0 : s0.length = len0 := by have := H0.out.hlen; simpa [Ln.sv] using this
  have l2 : s2.length = len2 := by have := H2.out.hlen; simpa [Ln.sv] using this
  clear ho6 hb6 HP HO45
  generalize Ln.apS none s0 e1 s2 [] = r at *
  obtain ⟨rl, rc⟩ := r
  simp only at hrl
  have hrl2 : rl.length ≤ 1000 := by simp only [List.length_nil] at hrl; omega
  clear hrl l0 l2
  simp only at HO6
  obtain ⟨A6, N6, C6, rfl⟩ := Ln.own_slice HO6.out
  obtain rfl := Ln.own_N HO6.out
  go_wp2_with fail
  refine HP2.out.mono ?_
  rintro e w7 ⟨v7, rfl, ho7, hb7⟩
  simp only at ho7
  obtain ⟨A7, N7, C7, rfl⟩ := Ln.own_slice ho7
  obtain rfl := Ln.own_N ho7
  have HB7 := Lib.hid (HB6.out.trans (hb7.mono hsz6))
  have hsz7 := HB7.out.size
  have HO67 := Lib.hid (Ln.own_keep HO6.out hb7)
  have HS := Lib.hid (Ln.same_call _ _ A6 rl.length C6 A7 C7 rl w7 (Ln.Rd.of_own HO67.out (by omega)).1 (Ln.Rd.of_own ho7 (by omega)).1)
  clear ho7 hb7 HP2 HO6
  go_wp2_with fail
  refine HS.out.mono ?_
  rintro e w8 ⟨rfl, hb8⟩
  have HB8 := Lib.hid (HB7.out.trans (hb8.mono hsz7))
  have hrc : (rc == rc) = true := by simp
  clear hb8 HS
  go_wp2
  go_ret
  exact ⟨by first | rfl | simp, HB8.out⟩

set_option maxRecDepth 100000 in
theorem lifted (os : Os) (started : os.Started) (H : Type) (enc : TypeId × Value → H) (F : Stop.Interp) :
    ReturnsInHanded {} Try.checked os 4 .any ((Rows.OpenSpec.upto Rows.linesAppliesSpec).pre6 enc Try.prog Try.f4 Rows.linesAppliesUptoRow.domain false) (((Rows.OpenSpec.upto Rows.linesAppliesSpec).at F).post enc Try.prog Try.f4 false true false false) := by
  refine returnsInHanded_of_cond_sized (C := Try.checked) (s := (Rows.OpenSpec.upto Rows.linesAppliesSpec)) (k := Rows.uptoSmall) rfl own started (by kernel_rfl) Try.func4
    (OpenSpec.witness (enc := enc) (C := Try.checked) (s := (Rows.OpenSpec.upto Rows.linesAppliesSpec)) (k := Rows.uptoSmall) rfl false ⟨#[], #[.slice none 0 0, .slice none 0 0, .slice none 0 0], []⟩ 8 (by kernel_rfl) (by kernel_rfl) (by kernel_rfl)
      (x := ([.nil, .nil, .nil], [], [])) (by kernel_rfl) rfl (by kernel_rfl)) ?_
  intro W base args ds gs before hval0 hW _ hk0 hsz0 _
  have hsz : (DataW.weightsEach Try.prog (Try.f4.params.toList ++ (Rows.OpenSpec.upto Rows.linesAppliesSpec).bare.plain.varTypes Try.prog) (ds ++ gs)).all (· ≤ reachBytes) = true := hsz0
  clear hsz0
  have hval : ∀ (j : Nat) t v, Try.f4.params[j]? = some t → args[j]? = some v → Value.okWide Try.prog W .any base t v := hval0
  have hW' := hW
  obtain ⟨p, q, hA0, hV, rfl, _, _⟩ := hW
  have hA : DataW.TrodAll enc Try.prog W 0 (fun _ => true) true Try.f4.params.toList args.toList ds p := hA0
  rw [Try.params4] at hA hval hsz
  obtain ⟨v0, vs0, d0, ds0, p0, q0, hargs, rfl, rfl, h0, r0⟩ := trodAll_cons hA
  obtain ⟨v1, vs1, d1, ds1, p1, q1, rfl, rfl, rfl, h1, r1⟩ := trodAll_cons r0
  obtain ⟨v2, vs2, d2, ds2, p2, q2, rfl, rfl, rfl, h2, r2⟩ := trodAll_cons r1
  obtain ⟨rfl, rfl, rfl⟩ := trodAll_nil r2
  obtain rfl : args = #[v0, v1, v2] := by cases args; simp_all
  obtain ⟨rfl, rfl⟩ := trodVars_none hV
  have hk : Rows.uptoBulkAll ([d0, d1, d2] ++ []) ≤ 1048576 := of_decide_eq_true hk0
  simp only [List.append_nil, Rows.uptoBulkAll] at hk
  have bulk0 : Rows.uptoBulk d0 ≤ 1048576 := by omega
  have bulk1 : Rows.uptoBulk d1 ≤ 1048576 := by omega
  have bulk2 : Rows.uptoBulk d2 ≤ 1048576 := by omega
  have k0 := h0
  have lt0 : ∀ x ∈ p0, x.block < W.heap.size := by obtain ⟨m, hm⟩ := k0; exact DataW.trod_lt m _ _ _ hm
  have k1 := h1
  have lt1 : ∀ x ∈ p1, x.block < W.heap.size := by obtain ⟨m, hm⟩ := k1; exact DataW.trod_lt m _ _ _ hm
  have k2 := h2
  have lt2 : ∀ x ∈ p2, x.block < W.heap.size := by obtain ⟨m, hm⟩ := k2; exact DataW.trod_lt m _ _ _ hm
  obtain ⟨a0, len0, cap0, rfl⟩ := okWide_slice Try.underlying22 (hval 0 22 v0 rfl rfl)
  obtain ⟨s0, w0⟩ := Fr.isStrs_of Try.underlying22 Try.underlying9 (by kernel_rfl) (by kernel_rfl) hsz (j := 0) rfl rfl h0
  obtain ⟨a1, len1, cap1, rfl⟩ := okWide_slice Try.underlying25 (hval 1 25 v1 rfl rfl)
  obtain ⟨e1, w1⟩ := Fr.isPairs_of Try.underlying25 Try.underlying48 (by kernel_rfl) rfl rfl (by kernel_rfl) (by kernel_rfl) (by kernel_rfl) (by kernel_rfl) (by kernel_rfl) hsz (j := 1) rfl rfl h1
  obtain ⟨a2, len2, cap2, rfl⟩ := okWide_slice Try.underlying22 (hval 2 22 v2 rfl rfl)
  obtain ⟨s2, w2⟩ := Fr.isStrs_of Try.underlying22 Try.underlying9 (by kernel_rfl) (by kernel_rfl) hsz (j := 2) rfl rfl h2
  clear hA0 hval0
  simp only [List.append_nil] at hW'
  refine (walk W a0 len0 cap0 s0 w0 a1 len1 cap1 e1 w1 a2 len2 cap2 s2 w2).mono fun e W' ⟨he, bel⟩ => ?_
  subst he
  exact ⟨_, rfl, _, _, _, [], _, [], hW', trodAll_mk1 (shut_bool Try.underlying4 _), (trodAll_cons_mk (Below.trod laidOut (by kernel_rfl) (of_decide_eq_true (by kernel_rfl)) k0 bel lt0) (trodAll_cons_mk (Below.trod laidOut (by kernel_rfl) (of_decide_eq_true (by kernel_rfl)) k1 bel lt1) (trodAll_cons_mk (Below.trod laidOut (by kernel_rfl) (of_decide_eq_true (by kernel_rfl)) k2 bel lt2) trodAll_mk0))), rfl, bel.frame _, fun h => by cases h⟩

/-- The statement. -/
theorem proved : Rows.LinesAppliesUptoSaid :=
  OpenClaim.holds_of_cond 4 Try.f4 rfl rfl rfl rfl rfl rfl rfl ⟨rfl, rfl, rfl, rfl, rfl⟩ rfl rfl rfl rfl rfl (by kernel_rfl) Try.func4 (by kernel_rfl)
    (of_decide_eq_true (by kernel_rfl)) (by unfold Func.isWrapper; first | (rw [if_pos (by decide +kernel)]; kernel_rfl) | (rw [if_neg (by decide +kernel)]; exact ⟨rfl, rfl⟩))
    (fun os started H enc _ F => lifted os started H enc F)
#print axioms proved
end Go.Proofs.Ytfgmnfcakeenmaa.linesAppliesUpto
