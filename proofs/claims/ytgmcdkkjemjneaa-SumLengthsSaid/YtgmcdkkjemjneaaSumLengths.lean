/- SumLengths: whatever the input, the law returns true, and each argument reads as it did before. No condition. -/
import Derived.Test.YtgmcdkkjemjneaaRows
import Derived.WalkKit
import Derived.ProofKit
import Derived.OpenShut
import Derived.ShutString
import Derived.SizedLaws
import Derived.Below
import Derived.Deep.QuietTactic
import Derived.BigQuiet
import Derived.RegionTactic
import Derived.BigRegion
import Derived.Outline
import Derived.Deep.RegionLaw
import Derived.Deep.RegionWith
import Derived.Deep.RegionHeld3
import Derived.Deep.DeepCutAuto
import Derived.Deep.CutBlock
import Derived.Deep.LoopGhost
import Derived.Lib.Hide
import Derived.WalkSpells
import Derived.WalkLawsBesides
import Derived.Test.YtgmcdkkjemjneaaSmLaw
namespace Go.Proofs.Ytgmcdkkjemjneaa.sumLengths
open Go.ChangeShapes Go.WideShapes Go.ChangeAt Go.RowKit
open Go.ChangeMaps (open_string shut_string)
set_option linter.unusedVariables false

theorem own : ownKnob Try.prog.godebug = none := by kernel_rfl
theorem laidOut : laidOutB Try.prog = true := by kernel_rfl

/-- the bytes of the row that is made -/
def vl (b : Int) (j : Nat) : Int := (b + (j : Int) * (j : Int)) % 256
def vls (b : Int) (n : Nat) : List Int := (List.range n).map (vl b)
theorem vls_at (b : Int) (n j : Nat) (h : j < n) : (vls b n).getD j 0 = vl b j := by simp [vls, List.getD, h]
theorem vl_range (b : Int) (j : Nat) : 0 ≤ vl b j ∧ vl b j ≤ 255 := by unfold vl; omega
def vf (b : Int) (i : Nat) : Nat → Value := fun j => if j < i then .int .u8 (vl b j) else .int .u8 0
theorem vf_step (b : Int) (i j : Nat) : (if j = i then Value.int .u8 (vl b i) else vf b i j) = vf b (i + 1) j := by
  unfold vf
  by_cases e : j = i
  · subst e; rw [if_pos rfl, if_pos (by omega)]
  · rw [if_neg e]
    by_cases e2 : j < i
    · rw [if_pos e2, if_pos (by omega)]
    · rw [if_neg e2, if_neg (by omega)]
theorem rd_of_row {w : World} {G N : Nat} {F : Nat → Value} {l : List Int} (h : w.rowIs G 5 N F) (hl : l.length = N) (hN : N ≤ 1000000) (hb : ∀ i, i < N → 0 ≤ l.getD i 0 ∧ l.getD i 0 ≤ 255) (hF : ∀ i, i < N → F i = .int .u8 (l.getD i 0)) : Sm.RdB w (some ⟨G, 0, none⟩) N N l :=
  ⟨hl, Nat.le_refl _, by omega, by omega, (fun hn => by cases hn), hb, fun x hx => by
    obtain rfl := Option.some.inj hx
    refine ⟨fun _ => h.lt, fun i hi => ?_⟩
    rw [show Addr.add ⟨G, 0, none⟩ i = (⟨G, i, none⟩ : Addr) from by simp [Addr.add]; omega, h.cell hi, hF i hi]⟩

set_option maxRecDepth 100000 in
set_option maxHeartbeats 4000000 in
theorem walk (w : World) (a0 : Int) (w0 : (Lit.int .i64 a0).wf = true) (a1 : Int) (w1 : (Lit.int .u8 a1).wf = true) :
    Calls Try.prog 5 #[.int .i64 a0, .int .u8 a1] w fun e w' => e = .returned (.bool true) ∧ Below w.heap.size w w' := by
  have b0 := Wi.wf_bounds w0
  have b1 : 0 ≤ a1 ∧ a1 ≤ 255 := by
    have e1 : IntKind.u8.min = 0 := rfl
    have e2 : IntKind.u8.max = 255 := rfl
    simp only [Lit.wf, Bool.and_eq_true, decide_eq_true_eq] at w1
    omega
  obtain ⟨b1a, b1b⟩ := b1
  have hr0 : 0 ≤ a0 % 300 := Int.emod_nonneg _ (by omega)
  have hr1 : a0 % 300 < 300 := Int.emod_lt_of_pos _ (by omega)
  obtain ⟨N, hN⟩ : ∃ N : Nat, a0 % 300 = (N : Int) := ⟨(a0 % 300).toNat, by omega⟩
  have hN2 : N < 300 := by omega
  have HK := Lib.hid (Sm.known_any w)
  have HW1 : Hid (∀ W, Calls Try.prog 14 #[.int .i64 a0, .int .i64 300] W fun e w' => e = .returned (.int .i64 (N : Int)) ∧ W = w') := Lib.hid (fun W => by
    have h := Wi.within_any a0 300 W (by omega) (by omega) b0.1 b0.2
    rw [hN] at h
    exact h)
  have hmk := fun W => run_make_row' (P := Try.prog) 24 5 (.int .u8 0) 1 Try.underlying24 Sm.info5 rfl .i64 .i64 N (by omega) (by omega) W
  clear hr0 hr1 b0 w0 w1 hN
  go_enter Try.func5, Try.ntmps5
  go_wp2_with fail
  refine HK.out.mono ?_
  rintro e w1 ⟨rfl, hb⟩
  have HB1 := Lib.hid hb
  have hsz1 := hb.size
  clear hb HK
  go_wp2_with fail
  refine (HW1.out _).mono ?_
  rintro e w2 ⟨rfl, rfl⟩
  clear HW1
  go_upto_block 0 with (fail)
  have HR : Hid ((w1.alloc (Obj.cells (madeCells #[.int .u8 0] N) 5)).rowIs w1.heap.size 5 N (vf a1 0)) := Lib.hid ((World.rowIs_made w1 (.int .u8 0) N 5).congr (fun j _ => by rw [vf, if_neg (by omega)]))
  have HB := Lib.hid (HB1.out.alloc hsz1 (Obj.cells (madeCells #[.int .u8 0] N) 5))
  clear hmk HB1
  generalize World.alloc _ _ = W1 at *
  generalize w1.heap.size = G at *
  go_wp2_with fail
  go_loopw [6] (fun s6 wr => ∃ i : Nat, s6 = .int .i64 i ∧ i ≤ N ∧ Hid (wr.rowIs G 5 N (vf a1 i)) ∧ Hid (Below w.heap.size w wr)) (fun s6 _ => N - (intOf s6).toNat)
  case atStart => exact ⟨0, rfl, Nat.zero_le _, HR, HB⟩
  case round =>
    clear HR HB
    obtain ⟨i, rfl, hi, HR, HB⟩ := hrel
    by_cases hlt : i < N
    · obtain ⟨s, hs⟩ : ∃ s : Nat, s = i * i := ⟨_, rfl⟩
      have hss : (i : Int) * (i : Int) = (s : Int) := by rw [hs]; simp
      have hs2 : s ≤ 90000 := by
        rw [hs]
        exact Nat.le_trans (Nat.mul_le_mul (show i ≤ 300 by omega) (show i ≤ 300 by omega)) (by decide)
      have hc : wr.cell? ⟨G, i, none⟩ = some (.int .u8 0) := by rw [HR.out.cell hlt, vf, if_neg (by omega)]
      have hf : wr.frozen? ⟨G, i, none⟩ = false := HR.out.frozen _
      have hi0 : (0 : Int) ≤ (i : Int) := by omega
      have hiN : (i : Int) < (N : Int) := by omega
      have HR2 : Hid ((wr.setCell ⟨G, i, none⟩ (.int .u8 ((a1 + (s : Int)) % 256))).rowIs G 5 N (vf a1 (i + 1))) := Lib.hid ((HR.out.set i _).congr (fun j _ => by
        rw [show (a1 + (s : Int)) % 256 = vl a1 i from by rw [vl, hss]]
        exact vf_step a1 i j))
      have HB2 := Lib.hid (HB.out.setCell (p := ⟨G, i, none⟩) hsz1 (.int .u8 ((a1 + (s : Int)) % 256)))
      clear hs HR HB
      go_wp2_with fail
      go_roundw
      case rel => exact ⟨i + 1, by go_num, by omega, HR2, HB2⟩
      case measure => simp [intOf]; omega
    · have HR3 : Hid (Sm.RdB wr (some ⟨G, 0, none⟩) N N (vls a1 N)) := Lib.hid (by
        have e : i = N := by omega
        have h := HR.out
        rw [e] at h
        exact rd_of_row h (by simp [vls]) (by omega) (fun j hj => by rw [vls_at _ _ _ hj]; exact vl_range _ _) (fun j hj => by rw [vls_at _ _ _ hj, vf, if_pos hj]))
      have hd : decide ((i : Int) < (N : Int)) = false := by simp; omega
      have HO := Lib.hid (Sm.of_one _ N N _ wr HR3.out (by omega))
      have hq := fun W => Sm.sha_eq (vls a1 N) W
      have hszr := HB.out.size
      clear HR hi
      go_wp2_with fail
      refine HO.out.mono ?_
      rintro e w3 ⟨rfl, hb3⟩
      have HRf := Lib.hid (Sm.rof_any _ N N _ w3 (HR3.out.below hb3) (by omega))
      have HB3 := Lib.hid (HB.out.trans (hb3.mono hszr))
      have hsz3 := HB3.out.size
      clear hb3 HO HB
      generalize (Sm.bv (Sm.sha (vls a1 N))).toArray = D at *
      go_wp2_with fail
      refine HRf.out.mono ?_
      rintro e w4 ⟨rfl, hb4⟩
      have HB4 := Lib.hid (HB3.out.trans (hb4.mono hsz3))
      clear hb4 HRf HB3
      go_wp2_with fail
      go_ret
      exact ⟨rfl, HB4.out⟩

set_option maxRecDepth 100000 in
theorem lifted (os : Os) (started : os.Started) (H : Type) (enc : TypeId × Value → H) :
    ReturnsInHanded {} Try.checked os 5 .any (Rows.sumLengthsSpec.pre6 enc Try.prog Try.f5 Rows.sumLengthsRow.domain false) (Rows.sumLengthsSpec.post enc Try.prog Try.f5 false true false false) := by
  refine returnsInHanded_of_change_sized (C := Try.checked) own started (by kernel_rfl) Try.func5
    (ChangeSpec.witness6 (enc := enc) (C := Try.checked) false ⟨#[], #[.int .i64 0, .int .u8 0], []⟩ 8 (by kernel_rfl) (by kernel_rfl) (by kernel_rfl) (by kernel_rfl)) ?_
  intro W base args ds gs before hval0 hW _ hsz0 _
  have hsz : (DataW.weightsEach Try.prog (Try.f5.params.toList ++ Rows.sumLengthsSpec.plain.varTypes Try.prog) (ds ++ gs)).all (· ≤ reachBytes) = true := hsz0
  clear hsz0
  have hval : ∀ (j : Nat) t v, Try.f5.params[j]? = some t → args[j]? = some v → Value.okWide Try.prog W .any base t v := hval0
  have hW' := hW
  obtain ⟨p, q, hA0, hV, rfl, _, _⟩ := hW
  have hA : DataW.TrodAll enc Try.prog W 0 (fun _ => true) true Try.f5.params.toList args.toList ds p := hA0
  rw [Try.params5] at hA hval hsz
  obtain ⟨v0, vs0, d0, ds0, p0, q0, hargs, rfl, rfl, h0, r0⟩ := trodAll_cons hA
  obtain ⟨v1, vs1, d1, ds1, p1, q1, rfl, rfl, rfl, h1, r1⟩ := trodAll_cons r0
  obtain ⟨rfl, rfl, rfl⟩ := trodAll_nil r1
  obtain rfl : args = #[v0, v1] := by cases args; simp_all
  obtain ⟨rfl, rfl⟩ := trodVars_none hV
  have k0 := h0
  have lt0 : ∀ x ∈ p0, x.block < W.heap.size := by obtain ⟨m, hm⟩ := k0; exact DataW.trod_lt m _ _ _ hm
  have k1 := h1
  have lt1 : ∀ x ∈ p1, x.block < W.heap.size := by obtain ⟨m, hm⟩ := k1; exact DataW.trod_lt m _ _ _ hm
  obtain ⟨a0, rfl, rfl, rfl, w0⟩ := open_int Try.underlying3 (hval 0 3 v0 rfl rfl) h0
  obtain ⟨a1, rfl, rfl, rfl, w1⟩ := open_int Try.underlying5 (hval 1 5 v1 rfl rfl) h1
  clear hA0 hval0
  simp only [List.append_nil] at hW'
  refine (walk W a0 w0 a1 w1).mono fun e W' ⟨he, bel⟩ => ?_
  subst he
  exact ⟨_, rfl, _, _, _, [], _, [], hW', trodAll_mk1 (shut_bool Try.underlying4 _), (trodAll_cons_mk (Below.trod laidOut (by kernel_rfl) (of_decide_eq_true (by kernel_rfl)) k0 bel lt0) (trodAll_cons_mk (Below.trod laidOut (by kernel_rfl) (of_decide_eq_true (by kernel_rfl)) k1 bel lt1) trodAll_mk0)), rfl, bel.frame _, fun h => by cases h⟩

theorem over : Rows.sumLengthsRow.holds Try.pinned (OpenSpec.ofChange Rows.sumLengthsSpec) :=
  OpenClaim.holds_of_wide 5 Try.f5 rfl rfl rfl rfl rfl rfl rfl ⟨rfl, rfl, rfl, rfl, rfl⟩ rfl rfl rfl rfl rfl (by kernel_rfl) Try.func5 (by kernel_rfl)
    (of_decide_eq_true (by kernel_rfl)) (by unfold Func.isWrapper; first | (rw [if_pos (by decide +kernel)]; kernel_rfl) | (rw [if_neg (by decide +kernel)]; exact ⟨rfl, rfl⟩))
    (fun os started H enc _ => lifted os started H enc)

/-- The statement. -/
theorem proved : Rows.SumLengthsSaid := over
#print axioms proved
end Go.Proofs.Ytgmcdkkjemjneaa.sumLengths
