/- CodecTrees: whatever the input, the law returns true, and each argument reads as it did before. No condition. -/
import Derived.Test.YtmcmapgllaopmaaRows
import Derived.WalkKit
import Derived.ProofKit
import Derived.OpenShut
import Derived.ShutString
import Derived.SizedLaws
import Derived.Below
import Derived.Deep.QuietTactic
import Derived.BigQuiet
import Derived.RegionTactic
import Derived.BigRegion
import Derived.Outline
import Derived.Deep.RegionLaw
import Derived.Deep.RegionWith
import Derived.Deep.RegionHeld3
import Derived.Deep.DeepCutAuto
import Derived.Deep.CutBlock
import Derived.Deep.LoopGhost
import Derived.Lib.Hide
import Derived.WalkSpells
import Derived.WalkLawsBesides
import Derived.Test.YtmcmapgllaopmaaFrEnts
import Derived.Test.YtmcmapgllaopmaaFrInts
import Derived.Test.YtmcmapgllaopmaaCdOne
namespace Go.Proofs.Ytmcmapgllaopmaa.codecTrees
open Go.ChangeShapes Go.WideShapes Go.ChangeAt Go.RowKit
open Go.ChangeMaps (open_string shut_string)
set_option linter.unusedVariables false

theorem own : ownKnob Try.prog.godebug = none := by kernel_rfl
theorem laidOut : laidOutB Try.prog = true := by kernel_rfl

open Cd
theorem own_e0 (w : World) : (w.alloc (.cells #[] 87)).ownsRow w.heap.size 87 34 (.slice (some ⟨w.heap.size, 0, none⟩) 0 0) 0 (entsV []) :=
  ⟨rfl, .inr ⟨w.heap.size, 0, #[], rfl, Nat.le_refl _, by show (w.heap.push _)[w.heap.size]? = _; simp, Nat.le_refl _, Nat.zero_le _, rfl, rfl⟩⟩
theorem own_b0 (w : World) : (w.alloc (.cells #[] 5)).ownsRow w.heap.size 5 1 (.slice (some ⟨w.heap.size, 0, none⟩) 0 0) 0 (bv []) :=
  ⟨rfl, .inr ⟨w.heap.size, 0, #[], rfl, Nat.le_refl _, by show (w.heap.push _)[w.heap.size]? = _; simp, Nat.le_refl _, Nat.zero_le _, rfl, rfl⟩⟩

set_option maxRecDepth 100000 in
set_option maxHeartbeats 2000000 in
theorem walk (w : World) (a0 : Option Addr) (len0 cap0 : Nat) (e0 : List Fr.Ent) (w0 : Fr.IsEnts w a0 len0 cap0 e0) (a1 : Option Addr) (len1 cap1 : Nat) (z1 : List Int) (w1 : Fr.IsInts .u8 1 w a1 len1 cap1 z1) :
    Calls Try.prog 3 #[.slice a0 len0 cap0, .slice a1 len1 cap1] w fun e w' => e = .returned (.bool true) ∧ Below w.heap.size w w' := by
  have HK := Lib.hid (Cd.known_any w)
  have HB1 := Lib.hid (Cd.rd_of_ints w1)
  have HI0 := Lib.hid w0
  have hn0 : a0 = none → len0 = 0 ∧ cap0 = 0 := by
    intro h
    rcases w0 with ⟨-, h1, h2, -⟩ | ⟨x, h1, -⟩
    · exact ⟨h1, h2⟩
    · rw [h] at h1; cases h1
  have HN0 := Lib.hid hn0
  have hb1 := HB1.out.big
  clear w0 w1 hn0
  go_enter Try.func3, Try.ntmps3
  go_wp2_with fail
  refine HK.out.mono ?_
  rintro e w2 ⟨rfl, hb⟩
  have HB2 := Lib.hid hb
  clear hb HK
  by_cases g0 : 700 < len0
  · have hd : decide ((700 : Int) < (len0 : Int)) = true := by simp; omega
    go_wp2_with fail
    go_ret
    exact ⟨rfl, HB2.out⟩
  · have hd : decide ((700 : Int) < (len0 : Int)) = false := by simp; omega
    by_cases g1 : 32768 < len1
    · have hdd : decide ((32768 : Int) < (len1 : Int)) = true := by simp; omega
      go_wp2_with fail
      go_ret
      exact ⟨rfl, HB2.out⟩
    · have hdd : decide ((32768 : Int) < (len1 : Int)) = false := by simp; omega
      have HE0 := Lib.hid (RdE.of_ents HI0.out (by omega))
      have HE2 := Lib.hid (HE0.out.below HB2.out)
      have HR2 := Lib.hid (HB1.out.below HB2.out)
      have hba := (Below.refl w2.heap.size w2).alloc (Nat.le_refl _) (.cells #[] 87)
      have HE3 := Lib.hid (HE2.out.below hba)
      have HBa := Lib.hid hba
      have hs3 := al_le w2 (.cells #[] 87)
      have hs2 : w.heap.size ≤ w2.heap.size := HB2.out.size
      have hlz : z1.length ≤ 1000000 := by have := HB1.out.len; omega
      have HLz := Lib.hid hlz
      have HL1 := Lib.hid HB1.out.len
      clear hba HI0 HE0 HB1 hlz
      go_wp2_with (refine wpList_append_ents _ rfl _ _ rfl w2.heap.size _ 0 [] rfl (own_e0 w2) a0 len0 cap0 e0 rfl HE3.out HN0.out (by omega) hs3 ?_)
      intro A' C' w4 ho hg
      have hb24 : Below w2.heap.size w2 w4 := HBa.out.trans ((Below.refl w2.heap.size _).grown hg hs3 (fun k hk => by
        have := (own_e0 w2).lt k hk
        exact this.1))
      have HMi := Lib.hid (RdE.of_own (n := len0) (es := e0) ho HE2.out.ok (by omega) HE2.out.len)
      have HE4 := Lib.hid (HE2.out.below hb24)
      have HR4 := Lib.hid (HR2.out.below hb24)
      have HB4 := Lib.hid (HB2.out.trans (hb24.mono hs2))
      clear ho hg hb24 HE2 HR2 HB2 HE3 HBa hs3
      have HT1 := Lib.hid (encodeTree_any A' len0 C' e0 w4 HMi.out)
      go_wp2_with fail
      refine HT1.out.mono ?_
      intro e w5 hr
      obtain ⟨hb, vx, rfl, hox⟩ := et_one hr
      have HE5 := Lib.hid (HE4.out.below hb)
      have HM5 := Lib.hid (HMi.out.below hb)
      have HR5 := Lib.hid (HR4.out.below hb)
      have HX5 := Lib.hid hox
      have HB5 := Lib.hid (HB4.out.trans (hb.mono HB4.out.size))
      clear hr hb hox HT1 HE4 HMi HR4 HB4
      have HT2 := Lib.hid (rencodeTree_any a0 len0 cap0 e0 w5 HE5.out)
      go_wp2_with fail
      refine HT2.out.mono ?_
      intro e w6 hr
      obtain ⟨hb, vy, rfl, hoy⟩ := et_one hr
      have HE6 := Lib.hid (HE5.out.below hb)
      have HM6 := Lib.hid (HM5.out.below hb)
      have HR6 := Lib.hid (HR5.out.below hb)
      have HX6 := Lib.hid (own_keep HX5.out hb)
      have HY6 := Lib.hid hoy
      have HB6 := Lib.hid (HB5.out.trans (hb.mono HB5.out.size))
      clear hr hb hoy HT2 HE5 HM5 HR5 HX5 HB5
      have hba := (Below.refl w6.heap.size w6).alloc (Nat.le_refl _) (.cells #[] 5)
      have HR7 := Lib.hid (HR6.out.below hba)
      have HBa := Lib.hid hba
      have hs7 := al_le w6 (.cells #[] 5)
      clear hba
      go_wp2_with (refine wpList_append_rd _ rfl _ _ rfl w6.heap.size _ 0 [] rfl (own_b0 w6) a1 len1 cap1 z1 rfl HR7.out (by omega) hs7 ?_)
      intro A8 C8 w8 ho hg
      have hb68 : Below w6.heap.size w6 w8 := HBa.out.trans hg
      have hby := HR6.out.byte
      have HZ8 := Lib.hid (RdB.of_own2 (n := len1) (l := z1) ho (by omega) hby)
      have HE8 := Lib.hid (HE6.out.below hb68)
      have HM8 := Lib.hid (HM6.out.below hb68)
      have HR8 := Lib.hid (HR6.out.below hb68)
      have HX8 := Lib.hid (own_keep HX6.out hb68)
      have HY8 := Lib.hid (own_keep HY6.out hb68)
      have HB8 := Lib.hid (HB6.out.trans (hb68.mono HB6.out.size))
      clear ho hg hb68 hby HR7 HBa hs7 HE6 HM6 HR6 HX6 HY6 HB6
      have HP1 := Lib.hid (parseTree_any A8 len1 C8 z1 w8 HZ8.out)
      go_wp2_with fail
      refine HP1.out.mono ?_
      intro e w9 hr
      obtain ⟨hb, Ap, Cp, rfl, hp⟩ := pt_one HLz.out hr
      have HE9 := Lib.hid (HE8.out.below hb)
      have HM9 := Lib.hid (HM8.out.below hb)
      have HR9 := Lib.hid (HR8.out.below hb)
      have HX9 := Lib.hid (own_keep HX8.out hb)
      have HY9 := Lib.hid (own_keep HY8.out hb)
      have HPp := Lib.hid hp
      have HB9 := Lib.hid (HB8.out.trans (hb.mono HB8.out.size))
      clear hr hb hp HP1 HE8 HM8 HR8 HX8 HY8 HB8 HZ8
      have HP2 := Lib.hid (rparseTree_any a1 len1 cap1 z1 w9 HR9.out)
      go_wp2_with fail
      refine HP2.out.mono ?_
      intro e w10 hr
      obtain ⟨hb, Aq, Cq, rfl, hq⟩ := pt_one HLz.out hr
      have HE10 := Lib.hid (HE9.out.below hb)
      have HM10 := Lib.hid (HM9.out.below hb)
      have hx := conv_own' (own_keep HX9.out hb)
      have hy := conv_own' (own_keep HY9.out hb)
      have HP10 := Lib.hid (HPp.out.below hb)
      have HQ10 := Lib.hid hq
      have HB10 := Lib.hid (HB9.out.trans (hb.mono HB9.out.size))
      clear hr hb hq HP2 HE9 HM9 HR9 HX9 HY9 HB9 HPp
      generalize pT z1 len1 (len1 + 1) 0 [] = PT at *
      have HS1 := Lib.hid (sameE_any Ap PT.2.length Cp Aq Cq PT.2 w10 HP10.out HQ10.out)
      have hse := conv_eq (sb (eR e0))
      generalize sb (eR e0) = SB at *
      generalize eE e0 = EE at *
      go_wp2_with fail
      refine HS1.out.mono ?_
      rintro e w11 ⟨rfl, hb⟩
      have HS2 := Lib.hid (sameE_any A' len0 C' a0 cap0 e0 w11 (HM10.out.below hb) (HE10.out.below hb))
      have HB11 := Lib.hid (HB10.out.trans (hb.mono HB10.out.size))
      clear hb HS1 HE10 HM10 HP10 HQ10 HB10 hx hy
      go_wp2_with fail
      refine HS2.out.mono ?_
      rintro e w12 ⟨rfl, hb⟩
      have HB12 := Lib.hid (HB11.out.trans (hb.mono HB11.out.size))
      clear hb HS2 HB11
      go_wp2_with fail
      go_ret
      exact ⟨rfl, HB12.out⟩

set_option maxRecDepth 100000 in
theorem lifted (os : Os) (started : os.Started) (H : Type) (enc : TypeId × Value → H) :
    ReturnsInHanded {} Try.checked os 3 .any (Rows.codecTreesSpec.pre6 enc Try.prog Try.f3 Rows.codecTreesRow.domain false) (Rows.codecTreesSpec.post enc Try.prog Try.f3 false true false false) := by
  refine returnsInHanded_of_change_sized (C := Try.checked) own started (by kernel_rfl) Try.func3
    (ChangeSpec.witness6 (enc := enc) (C := Try.checked) false ⟨#[], #[.slice none 0 0, .slice none 0 0], []⟩ 8 (by kernel_rfl) (by kernel_rfl) (by kernel_rfl) (by kernel_rfl)) ?_
  intro W base args ds gs before hval0 hW _ hsz0 _
  have hsz : (DataW.weightsEach Try.prog (Try.f3.params.toList ++ Rows.codecTreesSpec.plain.varTypes Try.prog) (ds ++ gs)).all (· ≤ reachBytes) = true := hsz0
  clear hsz0
  have hval : ∀ (j : Nat) t v, Try.f3.params[j]? = some t → args[j]? = some v → Value.okWide Try.prog W .any base t v := hval0
  have hW' := hW
  obtain ⟨p, q, hA0, hV, rfl, _, _⟩ := hW
  have hA : DataW.TrodAll enc Try.prog W 0 (fun _ => true) true Try.f3.params.toList args.toList ds p := hA0
  rw [Try.params3] at hA hval hsz
  obtain ⟨v0, vs0, d0, ds0, p0, q0, hargs, rfl, rfl, h0, r0⟩ := trodAll_cons hA
  obtain ⟨v1, vs1, d1, ds1, p1, q1, rfl, rfl, rfl, h1, r1⟩ := trodAll_cons r0
  obtain ⟨rfl, rfl, rfl⟩ := trodAll_nil r1
  obtain rfl : args = #[v0, v1] := by cases args; simp_all
  obtain ⟨rfl, rfl⟩ := trodVars_none hV
  have k0 := h0
  have lt0 : ∀ x ∈ p0, x.block < W.heap.size := by obtain ⟨m, hm⟩ := k0; exact DataW.trod_lt m _ _ _ hm
  have k1 := h1
  have lt1 : ∀ x ∈ p1, x.block < W.heap.size := by obtain ⟨m, hm⟩ := k1; exact DataW.trod_lt m _ _ _ hm
  obtain ⟨a0, len0, cap0, rfl⟩ := okWide_slice Try.underlying22 (hval 0 22 v0 rfl rfl)
  obtain ⟨e0, w0⟩ := Fr.isEnts_of (ti := 0) Try.underlying22 Try.underlying87 (by kernel_rfl) (by kernel_rfl) rfl rfl rfl (by kernel_rfl) (by kernel_rfl) (by kernel_rfl) (by kernel_rfl) (by kernel_rfl) Try.underlying37 Try.underlying5 (by kernel_rfl) hsz (j := 0) rfl rfl h0
  obtain ⟨a1, len1, cap1, rfl⟩ := okWide_slice Try.underlying23 (hval 1 23 v1 rfl rfl)
  obtain ⟨z1, w1⟩ := Fr.isInts_of (b := 1) Try.underlying23 Try.underlying5 (by kernel_rfl) (by kernel_rfl) hsz (j := 1) rfl rfl h1
  clear hA0 hval0
  simp only [List.append_nil] at hW'
  refine (walk W a0 len0 cap0 e0 w0 a1 len1 cap1 z1 w1).mono fun e W' ⟨he, bel⟩ => ?_
  subst he
  exact ⟨_, rfl, _, _, _, [], _, [], hW', trodAll_mk1 (shut_bool Try.underlying4 _), (trodAll_cons_mk (Below.trod laidOut (by kernel_rfl) (of_decide_eq_true (by kernel_rfl)) k0 bel lt0) (trodAll_cons_mk (Below.trod laidOut (by kernel_rfl) (of_decide_eq_true (by kernel_rfl)) k1 bel lt1) trodAll_mk0)), rfl, bel.frame _, fun h => by cases h⟩

theorem over : Rows.codecTreesRow.holds Try.pinned (OpenSpec.ofChange Rows.codecTreesSpec) :=
  OpenClaim.holds_of_wide 3 Try.f3 rfl rfl rfl rfl rfl rfl rfl ⟨rfl, rfl, rfl, rfl, rfl⟩ rfl rfl rfl rfl rfl (by kernel_rfl) Try.func3 (by kernel_rfl)
    (of_decide_eq_true (by kernel_rfl)) (by unfold Func.isWrapper; first | (rw [if_pos (by decide +kernel)]; kernel_rfl) | (rw [if_neg (by decide +kernel)]; exact ⟨rfl, rfl⟩))
    (fun os started H enc _ => lifted os started H enc)

/-- The statement. -/
theorem proved : Rows.CodecTreesSaid := over
#print axioms proved
end Go.Proofs.Ytmcmapgllaopmaa.codecTrees
