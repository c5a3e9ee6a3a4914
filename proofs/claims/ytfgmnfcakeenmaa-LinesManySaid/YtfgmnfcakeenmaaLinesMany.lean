/- LinesMany: whatever the input, the law returns true, and each argument reads as it did before. No condition. -/
import Derived.Test.YtfgmnfcakeenmaaRows
import Derived.WalkKit
import Derived.ProofKit
import Derived.OpenShut
import Derived.ShutString
import Derived.SizedLaws
import Derived.Below
import Derived.Deep.QuietTactic
import Derived.BigQuiet
import Derived.RegionTactic
import Derived.BigRegion
import Derived.Outline
import Derived.Deep.RegionLaw
import Derived.Deep.RegionWith
import Derived.Deep.RegionHeld3
import Derived.Deep.DeepCutAuto
import Derived.Deep.CutBlock
import Derived.Deep.LoopGhost
import Derived.Lib.Hide
import Derived.WalkSpells
import Derived.WalkLawsBesides
import Derived.Test.YtfgmnfcakeenmaaLnKept
import Derived.Test.YtfgmnfcakeenmaaLnWithin
namespace Go.Proofs.Ytfgmnfcakeenmaa.linesMany
open Go.ChangeShapes Go.WideShapes Go.ChangeAt Go.RowKit
open Go.ChangeMaps (open_string shut_string)
set_option linter.unusedVariables false

theorem own : ownKnob Try.prog.godebug = none := by kernel_rfl
theorem laidOut : laidOutB Try.prog = true := by kernel_rfl

theorem lcs_change {α : Type} [DecidableEq α] {x y : α} (h : x ≠ y) : ∀ k, Ln.lcs (List.replicate k x ++ [x]) (List.replicate k x ++ [y]) = k
  | 0 => by simp [Ln.lcs_cons, Ln.lcs_nil_left, Ln.lcs_nil_right, h]
  | k + 1 => by
      have := lcs_change h k
      simp only [List.replicate_succ, List.cons_append]
      rw [Ln.lcs_cons, if_pos rfl, this]
theorem lcs_set {α : Type} [DecidableEq α] {x y : α} (h : x ≠ y) (n k : Nat) (hk : k < n) : Ln.lcs (List.replicate n x) ((List.replicate n x).set k y) = n - 1 := by
  obtain ⟨m, rfl⟩ : ∃ m, n = k + 1 + m := ⟨n - (k + 1), by omega⟩
  have e1 : List.replicate (k + 1 + m) x = (List.replicate k x ++ [x]) ++ List.replicate m x := by
    rw [← List.replicate_succ', List.replicate_append_replicate]
  have e2 : (List.replicate (k + 1 + m) x).set k y = (List.replicate k x ++ [y]) ++ List.replicate m x := by
    rw [e1, List.set_append_left _ _ (by simp), List.set_append_right _ _ (by simp)]
    simp
  rw [e2, e1, Ln.lcs_end, lcs_change h, List.length_replicate]
  omega

theorem infoStr : (Try.prog.info? 9).map (fun i => (i.zero, i.size, i.bytes)) = some (some (.string ByteArray.empty), 1, 16) := by kernel_rfl

/-- the two texts as they are being made -/
structure Mk (w wr : World) (GA GB N i : Nat) : Prop where
  ra : wr.rowIs GA 9 N (fun j => if j < i then .string (Ln.sx 120) else .string ByteArray.empty)
  rb : wr.rowIs GB 9 N (fun j => if j < i then .string (Ln.sx 120) else .string ByteArray.empty)
  bel : Below w.heap.size w wr

theorem Mk.step {w wr : World} {GA GB N i : Nat} (h : Mk w wr GA GB N i) (hne : GA ≠ GB) (ha : w.heap.size ≤ GA) (hb : w.heap.size ≤ GB) :
    Mk w ((wr.setCell ⟨GA, i, none⟩ (.string (Ln.sx 120))).setCell ⟨GB, i, none⟩ (.string (Ln.sx 120))) GA GB N (i + 1) := by
  have f : ∀ j, (if j = i then Value.string (Ln.sx 120) else if j < i then .string (Ln.sx 120) else .string ByteArray.empty) = (if j < i + 1 then .string (Ln.sx 120) else .string ByteArray.empty) := by
    intro j
    by_cases e : j = i
    · subst e; rw [if_pos rfl, if_pos (Nat.lt_succ_self _)]
    · rw [if_neg e]
      by_cases e2 : j < i
      · rw [if_pos e2, if_pos (by omega)]
      · rw [if_neg e2, if_neg (by omega)]
  exact ⟨((h.ra.set i _).setOther hne _).congr (fun j _ => f j), ((h.rb.setOther (fun e => hne e.symm) _).set i _).congr (fun j _ => f j), (h.bel.setCell ha _).setCell hb _⟩

theorem rd_row {w : World} {G N : Nat} {f : Nat → Value} {ss : List ByteArray} (h : w.rowIs G 9 N f) (hN : N ≤ 10000) (hs : ss.length = N) (hf : ∀ j, j < N → f j = .string (ss.getD j ByteArray.empty)) : Ln.Rd w w.heap.size (some ⟨G, 0, none⟩) N N (Ln.sv ss) := by
  have h1 := Ln.rowIs_own (B := 0) h (Nat.zero_le _) (by unfold maxLen; omega)
  have e : (List.range N).map f = Ln.sv ss := by
    apply List.ext_getElem
    · simp [Ln.sv, hs]
    · intro i h1 h2
      simp at h1
      have h3 : i < ss.length := by omega
      simp [Ln.sv, hf i h1, List.getD, h3]
  rw [e] at h1
  exact (Ln.Rd.of_own h1 (by omega)).1

set_option maxRecDepth 100000 in
set_option maxHeartbeats 2000000 in
theorem walk (w : World) (a0 : Int) (w0 : (Lit.int .i64 a0).wf = true) (a1 : Int) (w1 : (Lit.int .i64 a1).wf = true) :
    Calls Try.prog 8 #[.int .i64 a0, .int .i64 a1] w fun e w' => e = .returned (.bool true) ∧ Below w.heap.size w w' := by
  have b0 := Wi.wf_bounds w0
  have b1 := Wi.wf_bounds w1
  have hr0 : 0 ≤ a0 % 20 := Int.emod_nonneg _ (by omega)
  have hr1 : a0 % 20 < 20 := Int.emod_lt_of_pos _ (by omega)
  obtain ⟨N, hN⟩ : ∃ N : Nat, 3990 + a0 % 20 = (N : Int) := ⟨(3990 + a0 % 20).toNat, by omega⟩
  have hN1 : 3990 ≤ N := by omega
  have hN2 : N ≤ 4009 := by omega
  have hk0 : 0 ≤ a1 % (N : Int) := Int.emod_nonneg _ (by omega)
  have hk1 : a1 % (N : Int) < N := Int.emod_lt_of_pos _ (by omega)
  obtain ⟨k, hk⟩ : ∃ k : Nat, a1 % (N : Int) = (k : Int) := ⟨(a1 % (N : Int)).toNat, by omega⟩
  have hkN : k < N := by omega
  have HK := Lib.hid (Ln.known_any w)
  have HW1 := Lib.hid (fun W => Wi.within_any a0 20 W (by omega) (by omega) b0.1 b0.2)
  have HW2 := Lib.hid (fun W => Wi.within_any a1 (N : Int) W (by omega) (by omega) b1.1 b1.2)
  have hmk := fun W => run_make_row' (P := Try.prog) 22 9 (.string ByteArray.empty) 16 Try.underlying22 infoStr rfl .i64 .i64 N (by omega) (by omega) W
  clear hk0 hk1 b0 b1 w0 w1
  go_enter Try.func8, Try.ntmps8
  go_wp2_with fail
  refine HK.out.mono ?_
  rintro e w1 ⟨rfl, hb⟩
  have HB1 := Lib.hid hb
  have hsz1 := hb.size
  clear hb HK
  go_wp2_with fail
  refine (HW1.out _).mono ?_
  rintro e w2 ⟨rfl, rfl⟩
  clear HW1
  go_upto_block 0 with (fail)
  have HMK : Hid (Mk w ((w1.alloc (Obj.cells (madeCells #[.string ByteArray.empty] N) 9)).alloc (Obj.cells (madeCells #[.string ByteArray.empty] N) 9)) w1.heap.size (w1.heap.size + 1) N 0) := by
    have h1 := (World.rowIs_made w1 (.string ByteArray.empty) N 9).alloc (Obj.cells (madeCells #[.string ByteArray.empty] N) 9)
    have h2 := World.rowIs_made (w1.alloc (Obj.cells (madeCells #[.string ByteArray.empty] N) 9)) (.string ByteArray.empty) N 9
    rw [show (w1.alloc (Obj.cells (madeCells #[.string ByteArray.empty] N) 9)).heap.size = w1.heap.size + 1 from by simp] at h2
    exact Lib.hid ⟨h1.congr (fun j _ => by simp), h2.congr (fun j _ => by simp), (HB1.out.alloc hsz1 _).alloc (by simp; omega) _⟩
  obtain ⟨GB, hGB⟩ : ∃ G, G = w1.heap.size + 1 := ⟨_, rfl⟩
  obtain ⟨GA, hGA⟩ : ∃ G, G = w1.heap.size := ⟨_, rfl⟩
  rw [← hGB, ← hGA] at HMK ⊢
  have hne : GA ≠ GB := by omega
  have hga : w.heap.size ≤ GA := by omega
  have hgb : w.heap.size ≤ GB := by omega
  clear hGA hGB hmk
  generalize World.alloc _ _ = W1 at *
  go_wp2
  go_loopw [7] (fun s7 wr => ∃ i : Nat, i ≤ N ∧ s7 = .int .i64 i ∧ Hid (Mk w wr GA GB N i)) (fun s7 _ => N - (intOf s7).toNat)
  case atStart => exact ⟨0, Nat.zero_le _, rfl, HMK⟩
  case round =>
    clear HMK
    obtain ⟨i, hi, rfl, HM⟩ := hrel
    by_cases hlt : i < N
    · have g1 := HM.out.ra.cell hlt
      have g2 := HM.out.rb.cell hlt
      have f1 := HM.out.ra.frozen i
      have f2 := HM.out.rb.frozen i
      simp only [Nat.lt_irrefl, if_false] at g1 g2
      go_wp2
      go_roundw
      case rel => exact ⟨i + 1, by omega, by go_num, Lib.hid (HM.out.step hne hga hgb)⟩
      case measure => simp [intOf]; omega
    · obtain rfl : i = N := by omega
      go_wp2_with fail
      refine (HW2.out _).mono ?_
      rintro e w2 ⟨rfl, rfl⟩
      have g2 := HM.out.rb.cell hkN
      have f2 := HM.out.rb.frozen k
      rw [hk]
      go_wp2_with fail
      have ra := rd_row (ss := List.replicate i (Ln.sx 120)) (HM.out.ra.setOther (a := ⟨GB, k, none⟩) hne (.string (Ln.sx 121))) (by omega) (by simp) (fun j hj => by simp [hj, List.getD])
      have rb := rd_row (ss := (List.replicate i (Ln.sx 120)).set k (Ln.sx 121)) (HM.out.rb.set k (.string (Ln.sx 121))) (by omega) (by simp) (fun j hj => by
        by_cases e : j = k
        · subst e; simp [List.getD, hj]
        · simp [List.getD, hj, e, Ne.symm e])
      have hbel := HM.out.bel.setCell (p := ⟨GB, k, none⟩) hgb (.string (Ln.sx 121))
      have hsz := hbel.size
      have hln : ∀ s ∈ (List.replicate i (Ln.sx 120)).set k (Ln.sx 121), s.size ≤ maxLen := by
        intro s hs
        rcases List.mem_or_eq_of_mem_set hs with h | h
        · rw [List.eq_of_mem_replicate h]; unfold maxLen; decide
        · rw [h]; unfold maxLen; decide
      have hln2 : ∀ s ∈ List.replicate i (Ln.sx 120), s.size ≤ maxLen := by
        intro s hs
        rw [List.eq_of_mem_replicate hs]; unfold maxLen; decide
      have HRA := Lib.hid ra
      have HRB := Lib.hid rb
      have HBL := Lib.hid hbel
      have HL1 := Lib.hid hln
      have HL2 := Lib.hid hln2
      change Calls _ _ _ (wr.setCell ⟨GB, k, none⟩ (.string (Ln.sx 121))) _
      generalize World.setCell wr _ _ = W at *
      clear ra rb hbel hln hln2 HW2
      by_cases hbig : 4000 < i
      · have HD := Lib.hid (Ln.diff_many (some ⟨GA, 0, none⟩) i i (some ⟨GB, 0, none⟩) i i W (.inl hbig))
        refine HD.out.mono ?_
        rintro e w2 ⟨rfl, rfl⟩
        go_wp2
        go_ret
        exact ⟨rfl, HBL.out⟩
      · have HD := Lib.hid (Ln.diff_any (some ⟨GA, 0, none⟩) i i _ (some ⟨GB, 0, none⟩) i i _ W HRA.out HRB.out HL2.out HL1.out (by omega) (by omega))
        have hd2 : decide (4000 < i) = false := by simp; omega
        refine HD.out.mono ?_
        rintro e w2 ⟨v, rfl, ho, ht, hb⟩
        obtain ⟨A6, N6, C6, rfl⟩ := Ln.own_slice ho
        obtain rfl := Ln.own_N ho
        have htot := Ln.scr_len (List.replicate i (Ln.sx 120)) ((List.replicate i (Ln.sx 120)).set k (Ln.sx 121))
        simp only [List.length_set, List.length_replicate] at htot
        have HKE := Lib.hid (Ln.kept_any _ A6 C6 _ w2 ho (by omega) (by omega))
        have hkc : Ln.kc (Ln.scr (List.replicate i (Ln.sx 120)) ((List.replicate i (Ln.sx 120)).set k (Ln.sx 121))) = i - 1 := by
          rw [Ln.kc_scr, lcs_set (Ln.sx_ne (by decide)) i k hkN]
        have HKC := Lib.hid hkc
        have HB2 := Lib.hid (HBL.out.trans (hb.mono hsz))
        clear ho ht hb htot hkc
        go_wp2_with fail
        refine HKE.out.mono ?_
        rintro e w3 ⟨rfl, rfl⟩
        rw [HKC.out]
        have hfin : (((i - 1 : Nat) : Int) == (i : Int) - 1) = true := by simp; omega
        go_wp2
        go_ret
        exact ⟨rfl, HB2.out⟩

set_option maxRecDepth 100000 in
theorem lifted (os : Os) (started : os.Started) (H : Type) (enc : TypeId × Value → H) :
    ReturnsInHanded {} Try.checked os 8 .any (Rows.linesManySpec.pre6 enc Try.prog Try.f8 Rows.linesManyRow.domain false) (Rows.linesManySpec.post enc Try.prog Try.f8 false true false false) := by
  refine returnsInHanded_of_change_sized (C := Try.checked) own started (by kernel_rfl) Try.func8
    (ChangeSpec.witness6 (enc := enc) (C := Try.checked) false ⟨#[], #[.int .i64 0, .int .i64 0], []⟩ 8 (by kernel_rfl) (by kernel_rfl) (by kernel_rfl) (by kernel_rfl)) ?_
  intro W base args ds gs before hval0 hW _ hsz0 _
  have hsz : (DataW.weightsEach Try.prog (Try.f8.params.toList ++ Rows.linesManySpec.plain.varTypes Try.prog) (ds ++ gs)).all (· ≤ reachBytes) = true := hsz0
  clear hsz0
  have hval : ∀ (j : Nat) t v, Try.f8.params[j]? = some t → args[j]? = some v → Value.okWide Try.prog W .any base t v := hval0
  have hW' := hW
  obtain ⟨p, q, hA0, hV, rfl, _, _⟩ := hW
  have hA : DataW.TrodAll enc Try.prog W 0 (fun _ => true) true Try.f8.params.toList args.toList ds p := hA0
  rw [Try.params8] at hA hval hsz
  obtain ⟨v0, vs0, d0, ds0, p0, q0, hargs, rfl, rfl, h0, r0⟩ := trodAll_cons hA
  obtain ⟨v1, vs1, d1, ds1, p1, q1, rfl, rfl, rfl, h1, r1⟩ := trodAll_cons r0
  obtain ⟨rfl, rfl, rfl⟩ := trodAll_nil r1
  obtain rfl : args = #[v0, v1] := by cases args; simp_all
  obtain ⟨rfl, rfl⟩ := trodVars_none hV
  have k0 := h0
  have lt0 : ∀ x ∈ p0, x.block < W.heap.size := by obtain ⟨m, hm⟩ := k0; exact DataW.trod_lt m _ _ _ hm
  have k1 := h1
  have lt1 : ∀ x ∈ p1, x.block < W.heap.size := by obtain ⟨m, hm⟩ := k1; exact DataW.trod_lt m _ _ _ hm
  obtain ⟨a0, rfl, rfl, rfl, w0⟩ := open_int Try.underlying3 (hval 0 3 v0 rfl rfl) h0
  obtain ⟨a1, rfl, rfl, rfl, w1⟩ := open_int Try.underlying3 (hval 1 3 v1 rfl rfl) h1
  clear hA0 hval0
  simp only [List.append_nil] at hW'
  refine (walk W a0 w0 a1 w1).mono fun e W' ⟨he, bel⟩ => ?_
  subst he
  exact ⟨_, rfl, _, _, _, [], _, [], hW', trodAll_mk1 (shut_bool Try.underlying4 _), (trodAll_cons_mk (Below.trod laidOut (by kernel_rfl) (of_decide_eq_true (by kernel_rfl)) k0 bel lt0) (trodAll_cons_mk (Below.trod laidOut (by kernel_rfl) (of_decide_eq_true (by kernel_rfl)) k1 bel lt1) trodAll_mk0)), rfl, bel.frame _, fun h => by cases h⟩

theorem over : Rows.linesManyRow.holds Try.pinned (OpenSpec.ofChange Rows.linesManySpec) :=
  OpenClaim.holds_of_wide 8 Try.f8 rfl rfl rfl rfl rfl rfl rfl ⟨rfl, rfl, rfl, rfl, rfl⟩ rfl rfl rfl rfl rfl (by kernel_rfl) Try.func8 (by kernel_rfl)
    (of_decide_eq_true (by kernel_rfl)) (by unfold Func.isWrapper; first | (rw [if_pos (by decide +kernel)]; kernel_rfl) | (rw [if_neg (by decide +kernel)]; exact ⟨rfl, rfl⟩))
    (fun os started H enc _ => lifted os started H enc)

/-- The statement. -/
theorem proved : Rows.LinesManySaid := over
#print axioms proved
end Go.Proofs.Ytfgmnfcakeenmaa.linesMany
