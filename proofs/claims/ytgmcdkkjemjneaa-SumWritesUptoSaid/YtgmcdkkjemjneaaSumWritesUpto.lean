/- SumWrites: whatever the input of at most 1048576 values and letters, the law returns true, and each argument reads as it did before. The one condition is the form's own bound on the input's size. -/
import Derived.Test.YtgmcdkkjemjneaaRows
import Derived.WalkKit
import Derived.ProofKit
import Derived.OpenShut
import Derived.ShutString
import Derived.SizedLaws
import Derived.Below
import Derived.Deep.QuietTactic
import Derived.BigQuiet
import Derived.RegionTactic
import Derived.BigRegion
import Derived.Outline
import Derived.Deep.RegionLaw
import Derived.Deep.RegionWith
import Derived.Deep.RegionHeld3
import Derived.Deep.DeepCutAuto
import Derived.Deep.CutBlock
import Derived.Deep.LoopGhost
import Derived.Lib.Hide
import Derived.WalkSpells
import Derived.WalkLawsBesides
import Derived.Deep.CondSized
import Derived.JoinedCond
import Derived.Test.YtgmcdkkjemjneaaFrBools
import Derived.Test.YtgmcdkkjemjneaaFrRows
import Derived.Test.YtgmcdkkjemjneaaSmWrites
namespace Go.Proofs.Ytgmcdkkjemjneaa.sumWritesUpto
open Go.ChangeShapes Go.WideShapes Go.ChangeAt Go.RowKit
open Go.ChangeMaps (open_string shut_string)
set_option linter.unusedVariables false

theorem own : ownKnob Try.prog.godebug = none := by kernel_rfl
theorem laidOut : laidOutB Try.prog = true := by kernel_rfl


set_option maxRecDepth 100000 in
set_option maxHeartbeats 4000000 in
theorem walk (w : World) (a0 : Option Addr) (len0 cap0 : Nat) (r0 : List (List Int)) (w0 : Fr.IsRows w a0 len0 cap0 r0) (t0 : len0 + (r0.map List.length).sum ≤ 1048576) (a1 : Option Addr) (len1 cap1 : Nat) (z1 : List Bool) (w1 : Fr.IsBools w a1 len1 cap1 z1) :
    Calls Try.prog 4 #[.slice a0 len0 cap0, .slice a1 len1 cap1] w fun e w' => e = .returned (.bool true) ∧ Below w.heap.size w w' := by
  obtain ⟨b, off, A, L, C, hR, hrl⟩ := Sm.rdr_of w0
  have hT := Sm.rowsTo_len r0
  rw [hrl] at hT
  obtain ⟨T, hTd⟩ : ∃ T, T = (r0.map List.length).sum := ⟨_, rfl⟩
  rw [← hTd] at hT t0
  generalize (fun i => r0.getD i []) = lf at *
  have HR := Lib.hid hR
  have HT := Lib.hid hT
  have hlen : len0 ≤ 1048576 := by omega
  have hT2 : T ≤ 1048576 := by omega
  have hcap0 := hR.hcap
  have hmax0 := hR.hmax
  obtain ⟨hcap1, hmax1⟩ := Sm.bools_cap w1
  have HAsk := Lib.hid (Sm.bools_cell w1)
  have HRg : Hid (∀ k, k ≤ len0 → ∀ j, j < (Sm.rowsTo lf k).length → 0 ≤ (Sm.rowsTo lf k).getD j 0 ∧ (Sm.rowsTo lf k).getD j 0 ≤ 255) := Lib.hid (Sm.rowsTo_range lf len0 (fun i hi j hj => (hR.row i hi).byte j (by have := (hR.row i hi).len; omega)))
  have HK := Lib.hid (Sm.known_any w)
  clear w0 w1 hR hT hrl hTd t0
  go_enter Try.func4, Try.ntmps4
  go_wp2_with fail
  refine HK.out.mono ?_
  rintro e w1 ⟨rfl, hb⟩
  have HB1 := Lib.hid hb
  have hsz1 := hb.size
  clear hb HK
  have HAl := Lib.hid (Sm.all_any a0 len0 cap0 b off A L C lf w1 (HR.out.below HB1.out) hlen T HT.out hT2)
  go_wp2_with fail
  refine HAl.out.mono ?_
  rintro e w2 ⟨v2, rfl, ho2, hb2⟩
  obtain ⟨Ab, Cb, rfl⟩ := Sm.own_slice' ho2
  have HB2 := Lib.hid (HB1.out.trans (hb2.mono hsz1))
  have hsz2 := HB2.out.size
  clear ho2 hb2 HAl HB1 hsz1
  by_cases hbig : 8192 < T
  · have hd : decide ((8192 : Int) < (T : Int)) = true := by simp; omega
    go_wp2_with fail
    go_ret
    exact ⟨rfl, HB2.out⟩
  · have hd : decide ((8192 : Int) < (T : Int)) = false := by simp; omega
    have HMax : Hid (∀ k, k ≤ len0 → (Sm.rowsTo lf k).length ≤ 8192) := Lib.hid (fun k hk => by have := Sm.rowsTo_mono lf k len0 hk; have := HT.out; omega)
    go_wp2_with fail
    refine (Sm.new_any w2).mono ?_
    rintro e w3 ⟨rfl, hw3⟩
    have HS3 : Hid (Sm.St w w3 w2.heap.size w3.heap.size (.slice none 0 0) 0 [] []) := Lib.hid (by
      obtain ⟨F, hr, hs⟩ := Sm.hs_new w2
      rw [← hw3] at hr
      exact ⟨⟨F, hr, hs⟩, ⟨rfl, .inl ⟨rfl, rfl⟩⟩, by rw [hw3]; exact HB2.out.alloc hsz2 _, hsz2, hr.lt, Nat.le_refl _⟩)
    clear hw3 hsz2 HB2 hT2 hbig hd HT
    generalize w2.heap.size = H at *
    generalize hBb : w3.heap.size = Bb at *
    clear hBb
    go_wp2_with fail
    go_loopw [6, 7] (fun s6 s7 wr => ∃ (i n : Nat) (A6 : Option Addr) (C6 : Nat), s6 = .slice A6 n C6 ∧ s7 = .int .i64 i ∧ i ≤ len0 ∧ i ≤ 40 ∧ Hid (n = (Sm.rowsTo lf i).length) ∧ Hid (Sm.St w wr H Bb (.slice A6 n C6) n (Sm.rowsTo lf i) (Sm.rowsTo lf i))) (fun _ s7 _ => 40 - (intOf s7).toNat)
    case atStart => exact ⟨0, 0, none, 0, rfl, rfl, Nat.zero_le _, Nat.zero_le _, Lib.hid rfl, HS3⟩
    case round =>
      clear HS3
      obtain ⟨i, n, A6, C6, rfl, rfl, hi, hi40, HN, HS⟩ := hrel
      by_cases hlt : i < len0 ∧ i < 40
      · obtain ⟨hlt1, hlt2⟩ := hlt
        have ha := HR.out.hA (by omega)
        subst ha
        have hi0 : (0 : Int) ≤ (i : Int) := by omega
        have hil : (i : Int) < (len0 : Int) := by omega
        have hi4 : (i : Int) < 40 := by omega
        have hbE := HS.out.bel.alloc HS.out.bel.size (.cells #[] 5)
        have hRE := HR.out.below hbE
        have hcr : wr.cell? ⟨b, off + i, none⟩ = some (.slice (A i) (L i) (C i)) := (HR.out.below HS.out.bel).cell i hlt1
        have hcE : (wr.alloc (.cells #[] 5)).cell? ⟨b, off + i, none⟩ = some (.slice (A i) (L i) (C i)) := hRE.cell i hlt1
        have HRE := Lib.hid (hRE.row i hlt1)
        have HLl := Lib.hid (hRE.row i hlt1).len
        have HOE := Lib.hid (Sm.own_empty_u wr wr.heap.size (Nat.le_refl _))
        have hn2 := HMax.out (i + 1) (by omega)
        rw [Sm.rowsTo_succ, List.length_append, ← HN.out, HLl.out] at hn2
        have hleE := Sm.al_le wr (.cells #[] 5)
        clear hbE hRE
        go_wp2_with (at_builtin; refine Sm.wpList_append_rd _ rfl (.tmp 29) (.tmp 33) rfl wr.heap.size _ 0 [] rfl HOE.out (A i) (L i) (C i) (lf i) rfl HRE.out (by omega) hleE ?_)
        intro Am Cm wA hoA hbA
        have hoA2 : wA.ownsRow wr.heap.size 5 1 (.slice Am (L i) Cm) (L i) (Sm.bv (lf i)) := by simpa using hoA
        have hbA2 := ((Below.refl wr.heap.size wr).alloc (Nat.le_refl _) (.cells #[] 5)).trans hbA
        have HSA := Lib.hid (HS.out.keep hbA2)
        have HOA := Lib.hid hoA2
        have hszA := hbA2.size
        have HWr := Lib.hid (HSA.out.write hoA2 (by have := HS.out.hHB; have := HS.out.hBb; omega) (by omega) (by have := HN.out; omega) (HRE.out.byte) (HRg.out i hi))
        rw [← Sm.rowsTo_succ] at HWr
        have hBs := HS.out.hBb
        have HLt := Lib.hid HS.out.own.lt
        clear hoA hbA hoA2 hbA2 HS HOE hcE hcr HRE hleE
        go_wp2_with fail
        refine HWr.out.mono ?_
        rintro e wC ⟨rfl, hsC, hoC, hszC⟩
        have HSC := Lib.hid hsC
        have HOC := Lib.hid hoC
        have hRC := HR.out.below hsC.bel
        have hcC : wC.cell? ⟨b, off + i, none⟩ = some (.slice (A i) (L i) (C i)) := hRC.cell i hlt1
        have HRC := Lib.hid (hRC.row i hlt1)
        have HApt : Hid (∀ k, (Value.slice A6 n C6).ownBlock = some k → (Value.slice Am (L i) Cm).ownBlock = some k → False) := Lib.hid (fun k h1 h2 => by
          have := (HLt.out k h1).2
          have := (HOA.out.lt k h2).1
          omega)
        have HOCm := Lib.hid (Sm.own_more hoC hBs)
        have hBC := hsC.hBb
        clear hsC hoC hRC HWr HSA HOC HOA HLt
        go_wp2_with (at_builtin; refine Sm.wpList_append_pair _ rfl (.tmp 39) (.tmp 43) rfl Bb _ n (Sm.rowsTo lf i) rfl HSC.out.own _ (L i) _ HOCm.out HApt.out (A i) (L i) (C i) (lf i) rfl HRC.out (by omega) hBC ?_)
        intro A7 C7 wD hoD hmD haD hbD
        rw [← Sm.rowsTo_succ] at hoD
        have HSD : Hid (Sm.St w wD H Bb (.slice A7 (n + L i) C7) (n + L i) (Sm.rowsTo lf (i + 1)) (Sm.rowsTo lf (i + 1))) := Lib.hid (by
          obtain ⟨F, hr, hs⟩ := HSC.out.hash
          have hHB := HSC.out.hHB
          have hH := HSC.out.hH
          exact ⟨⟨F, hr.of_block (hbD.block H hHB), hs⟩, hoD, HSC.out.bel.trans (hbD.mono (by omega)), hH, hHB, Nat.le_trans hBC hbD.size⟩)
        have HMD : Hid (∃ ys, wD.ownsRow Bb 5 1 (.slice Am (L i) Cm) (L i) ys) := Lib.hid ⟨_, hmD⟩
        have HAp := Lib.hid haD
        have HN2 : Hid (n + L i = (Sm.rowsTo lf (i + 1)).length) := Lib.hid (by rw [Sm.rowsTo_succ, List.length_append, ← HN.out, HLl.out])
        clear hoD hmD haD hbD HSC HOCm HRC HApt hcC HN HLl
        go_wp2_with fail
        go_loopw [9] (fun s9 wr => ∃ (k : Nat), s9 = .int .i64 k ∧ k ≤ L i ∧ Hid (∃ ys, wr.ownsRow Bb 5 1 (.slice Am (L i) Cm) (L i) ys) ∧ Hid (Sm.St w wr H Bb (.slice A7 (n + L i) C7) (n + L i) (Sm.rowsTo lf (i + 1)) (Sm.rowsTo lf (i + 1)))) (fun s9 _ => L i - (intOf s9).toNat)
        case atStart => exact ⟨0, rfl, Nat.zero_le _, HMD, HSD⟩
        case round =>
          clear HMD HSD
          obtain ⟨k, rfl, hk, HMD, HSD⟩ := hrel
          by_cases hkl : k < L i
          · obtain ⟨ys, hys⟩ := HMD.out
            obtain ⟨gm, hAm, hgm, ⟨vm, hcm⟩, hfm, hset⟩ := Sm.own_store hys k hkl
            subst hAm
            obtain ⟨zs, hzs⟩ := hset (.int .u8 238)
            have HM2 : Hid (∃ ys, (wr.setCell ⟨gm, k, none⟩ (.int .u8 238)).ownsRow Bb 5 1 (.slice (some ⟨gm, 0, none⟩) (L i) Cm) (L i) ys) := Lib.hid ⟨zs, hzs⟩
            have HS2 := Lib.hid (HSD.out.setM hgm (fun e => HAp.out gm e rfl) k (.int .u8 238))
            have hk0 : (0 : Int) ≤ (k : Int) := by omega
            have hkL : (k : Int) < (L i : Int) := by omega
            clear hys hset hzs HMD HSD
            go_wp2_with fail
            go_roundw
            case rel => exact ⟨k + 1, by go_num, by omega, HM2, HS2⟩
            case measure => simp [intOf]; omega
          · have hkd : decide ((k : Int) < (L i : Int)) = false := by simp; omega
            clear HMD hk
            by_cases hask : i < len1
            · obtain ⟨ba, offa, rfl, hba, hca⟩ := HAsk.out i hask
              have hca2 : wr.cell? ⟨ba, offa + i, none⟩ = some (.bool (z1.getD i false)) := by rw [HSD.out.bel.cell (p := ⟨ba, offa + i, none⟩) hba]; exact hca
              have hia : (i : Int) < (len1 : Int) := by omega
              clear hca
              cases hz : z1.getD i false
              · rw [hz] at hca2
                clear hz
                go_wp2_with fail
                go_roundw
                case rel => exact ⟨i + 1, n + L i, A7, C7, rfl, by go_num, by omega, by omega, HN2, HSD⟩
                case measure => simp [intOf]; omega
              · rw [hz] at hca2
                clear hz
                have HSu := Lib.hid (HSD.out.sum (by have := HMax.out (i + 1) (by omega); omega) (HRg.out (i + 1) (by omega)))
                have hq := fun W => Sm.sha_eq (Sm.rowsTo lf (i + 1)) W
                go_wp2_with fail
                refine HSu.out.mono ?_
                rintro e wE ⟨rfl, hbE⟩
                have HSE := Lib.hid (HSD.out.keep hbE)
                have HRo := Lib.hid (Sm.rof_any A7 (n + L i) C7 (Sm.rowsTo lf (i + 1)) wE (Sm.RdB.of_own2 HSE.out.own (by omega) (by rw [HN2.out]; exact HRg.out (i + 1) (by omega))) (by omega))
                clear hbE HSu HSD
                generalize (Sm.bv (Sm.sha (Sm.rowsTo lf (i + 1)))).toArray = DD at *
                go_wp2_with fail
                refine HRo.out.mono ?_
                rintro e wF ⟨rfl, hbF⟩
                have HSF := Lib.hid (HSE.out.keep hbF)
                clear hbF HRo HSE
                go_wp2_with fail
                go_roundw
                case rel => exact ⟨i + 1, n + L i, A7, C7, rfl, by go_num, by omega, by omega, HN2, HSF⟩
                case measure => simp [intOf]; omega
            · have hia : decide ((i : Int) < (len1 : Int)) = false := by simp; omega
              go_wp2_with fail
              go_roundw
              case rel => exact ⟨i + 1, n + L i, A7, C7, rfl, by go_num, by omega, by omega, HN2, HSD⟩
              case measure => simp [intOf]; omega
      · have HSu := Lib.hid (HS.out.sum (by have := HMax.out i hi; omega) (HRg.out i hi))
        have hq := fun W => Sm.sha_eq (Sm.rowsTo lf i) W
        have hnb : n ≤ 8192 := by have := HMax.out i hi; have := HN.out; omega
        by_cases hl0 : i < len0
        · have hil : (i : Int) < (len0 : Int) := by omega
          have hi4 : decide ((i : Int) < 40) = false := by simp; omega
          go_wp2_with fail
          refine HSu.out.mono ?_
          rintro e wE ⟨rfl, hbE⟩
          have HSE := Lib.hid (HS.out.keep hbE)
          have HRo := Lib.hid (Sm.rof_any A6 n C6 (Sm.rowsTo lf i) wE (Sm.RdB.of_own2 HSE.out.own (by omega) (by rw [HN.out]; exact HRg.out i hi)) (by omega))
          clear hbE HSu HS
          generalize (Sm.bv (Sm.sha (Sm.rowsTo lf i))).toArray = DD at *
          go_wp2_with fail
          refine HRo.out.mono ?_
          rintro e wF ⟨rfl, hbF⟩
          have HSF := Lib.hid (HSE.out.keep hbF)
          clear hbF HRo HSE
          go_wp2_with fail
          go_ret
          exact ⟨rfl, HSF.out.bel⟩
        · have hil : decide ((i : Int) < (len0 : Int)) = false := by simp; omega
          go_wp2_with fail
          refine HSu.out.mono ?_
          rintro e wE ⟨rfl, hbE⟩
          have HSE := Lib.hid (HS.out.keep hbE)
          have HRo := Lib.hid (Sm.rof_any A6 n C6 (Sm.rowsTo lf i) wE (Sm.RdB.of_own2 HSE.out.own (by omega) (by rw [HN.out]; exact HRg.out i hi)) (by omega))
          clear hbE HSu HS
          generalize (Sm.bv (Sm.sha (Sm.rowsTo lf i))).toArray = DD at *
          go_wp2_with fail
          refine HRo.out.mono ?_
          rintro e wF ⟨rfl, hbF⟩
          have HSF := Lib.hid (HSE.out.keep hbF)
          clear hbF HRo HSE
          go_wp2_with fail
          go_ret
          exact ⟨rfl, HSF.out.bel⟩

set_option maxRecDepth 100000 in
theorem lifted (os : Os) (started : os.Started) (H : Type) (enc : TypeId × Value → H) (F : Stop.Interp) :
    ReturnsInHanded {} Try.checked os 4 .any ((Rows.OpenSpec.upto Rows.sumWritesSpec).pre6 enc Try.prog Try.f4 Rows.sumWritesUptoRow.domain false) (((Rows.OpenSpec.upto Rows.sumWritesSpec).at F).post enc Try.prog Try.f4 false true false false) := by
  refine returnsInHanded_of_cond_sized (C := Try.checked) (s := (Rows.OpenSpec.upto Rows.sumWritesSpec)) (k := Rows.uptoSmall) rfl own started (by kernel_rfl) Try.func4
    (OpenSpec.witness (enc := enc) (C := Try.checked) (s := (Rows.OpenSpec.upto Rows.sumWritesSpec)) (k := Rows.uptoSmall) rfl false ⟨#[], #[.slice none 0 0, .slice none 0 0], []⟩ 8 (by kernel_rfl) (by kernel_rfl) (by kernel_rfl)
      (x := ([.nil, .nil], [], [])) (by kernel_rfl) rfl (by kernel_rfl)) ?_
  intro W base args ds gs before hval0 hW _ hk0 hsz0 _
  have hsz : (DataW.weightsEach Try.prog (Try.f4.params.toList ++ (Rows.OpenSpec.upto Rows.sumWritesSpec).bare.plain.varTypes Try.prog) (ds ++ gs)).all (· ≤ reachBytes) = true := hsz0
  clear hsz0
  have hval : ∀ (j : Nat) t v, Try.f4.params[j]? = some t → args[j]? = some v → Value.okWide Try.prog W .any base t v := hval0
  have hW' := hW
  obtain ⟨p, q, hA0, hV, rfl, _, _⟩ := hW
  have hA : DataW.TrodAll enc Try.prog W 0 (fun _ => true) true Try.f4.params.toList args.toList ds p := hA0
  rw [Try.params4] at hA hval hsz
  obtain ⟨v0, vs0, d0, ds0, p0, q0, hargs, rfl, rfl, h0, r0⟩ := trodAll_cons hA
  obtain ⟨v1, vs1, d1, ds1, p1, q1, rfl, rfl, rfl, h1, r1⟩ := trodAll_cons r0
  obtain ⟨rfl, rfl, rfl⟩ := trodAll_nil r1
  obtain rfl : args = #[v0, v1] := by cases args; simp_all
  obtain ⟨rfl, rfl⟩ := trodVars_none hV
  have hk : Rows.uptoBulkAll ([d0, d1] ++ []) ≤ 1048576 := of_decide_eq_true hk0
  simp only [List.append_nil, Rows.uptoBulkAll] at hk
  have bulk0 : Rows.uptoBulk d0 ≤ 1048576 := by omega
  have bulk1 : Rows.uptoBulk d1 ≤ 1048576 := by omega
  have k0 := h0
  have lt0 : ∀ x ∈ p0, x.block < W.heap.size := by obtain ⟨m, hm⟩ := k0; exact DataW.trod_lt m _ _ _ hm
  have k1 := h1
  have lt1 : ∀ x ∈ p1, x.block < W.heap.size := by obtain ⟨m, hm⟩ := k1; exact DataW.trod_lt m _ _ _ hm
  obtain ⟨a0, len0, cap0, rfl⟩ := okWide_slice Try.underlying22 (hval 0 22 v0 rfl rfl)
  obtain ⟨rr0, w0, t0'⟩ := Fr.isRows_of Try.underlying22 Try.underlying24 Try.underlying5 (by kernel_rfl) (by kernel_rfl) (by kernel_rfl) (by kernel_rfl) hsz (j := 0) rfl rfl h0
  have t0 := Nat.le_trans t0' bulk0
  obtain ⟨a1, len1, cap1, rfl⟩ := okWide_slice Try.underlying31 (hval 1 31 v1 rfl rfl)
  obtain ⟨z1, w1⟩ := Fr.isBools_of Try.underlying31 Try.underlying4 (by kernel_rfl) (by kernel_rfl) hsz (j := 1) rfl rfl h1
  clear hA0 hval0
  simp only [List.append_nil] at hW'
  refine (walk W a0 len0 cap0 rr0 w0 t0 a1 len1 cap1 z1 w1).mono fun e W' ⟨he, bel⟩ => ?_
  subst he
  exact ⟨_, rfl, _, _, _, [], _, [], hW', trodAll_mk1 (shut_bool Try.underlying4 _), (trodAll_cons_mk (Below.trod laidOut (by kernel_rfl) (of_decide_eq_true (by kernel_rfl)) k0 bel lt0) (trodAll_cons_mk (Below.trod laidOut (by kernel_rfl) (of_decide_eq_true (by kernel_rfl)) k1 bel lt1) trodAll_mk0)), rfl, bel.frame _, fun h => by cases h⟩

/-- The statement. -/
theorem proved : Rows.SumWritesUptoSaid :=
  OpenClaim.holds_of_cond 4 Try.f4 rfl rfl rfl rfl rfl rfl rfl ⟨rfl, rfl, rfl, rfl, rfl⟩ rfl rfl rfl rfl rfl (by kernel_rfl) Try.func4 (by kernel_rfl)
    (of_decide_eq_true (by kernel_rfl)) (by unfold Func.isWrapper; first | (rw [if_pos (by decide +kernel)]; kernel_rfl) | (rw [if_neg (by decide +kernel)]; exact ⟨rfl, rfl⟩))
    (fun os started H enc _ F => lifted os started H enc F)
#print axioms proved
end Go.Proofs.Ytgmcdkkjemjneaa.sumWritesUpto
