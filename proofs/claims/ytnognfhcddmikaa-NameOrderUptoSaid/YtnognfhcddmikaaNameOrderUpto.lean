/- NameOrder: whatever the input of at most 1048576 values and letters, the law returns true, and each argument reads as it did before. The one condition is the form's own bound on the input's size. -/
import Derived.Test.YtnognfhcddmikaaRows
import Derived.WalkKit
import Derived.ProofKit
import Derived.OpenShut
import Derived.ShutString
import Derived.SizedLaws
import Derived.Below
import Derived.Deep.QuietTactic
import Derived.BigQuiet
import Derived.Lib.Hide
import Derived.WalkSpells
import Derived.WalkLawsBesides
import Derived.Deep.CondSized
import Derived.JoinedCond
import Derived.Test.YtnognfhcddmikaaFrStrs
import Derived.Test.YtnognfhcddmikaaNmOwn
import Derived.Test.YtnognfhcddmikaaNmOrder
import Derived.Test.YtnognfhcddmikaaNmWithin
namespace Go.Proofs.Ytnognfhcddmikaa.nameOrderUpto
open Go.ChangeShapes Go.WideShapes Go.ChangeAt Go.RowKit
open Go.ChangeMaps (open_string shut_string)
set_option linter.unusedVariables false

theorem own : ownKnob Try.prog.godebug = none := by kernel_rfl
theorem laidOut : laidOutB Try.prog = true := by kernel_rfl

theorem info9 : (Try.prog.info? 9).map (fun i => (i.zero, i.size, i.bytes)) = some (some (.string ByteArray.empty), 1, 16) := by kernel_rfl

theorem quiet_left {P : Program} {f : FuncId} {args : Array Value} {w : World} {n : Nat} {v : Value}
    (h : Calls P f args (w.drewN n) fun e w' => e = .returned v ∧ w.drewN n = w') : Calls P f args (w.drewN n) fun e w'' => e = .returned v ∧ ∃ m, w'' = w.drewN m :=
  h.mono fun _ _ ⟨he, hm⟩ => ⟨he, n, hm.symm⟩

theorem fits_q (x : ByteArray) (b off k cap : Nat) (ss : List ByteArray) (W : World) (hx : x.size ≤ 140737488351232) (hk : k ≤ 15) (hc : Nm.Cells W b off k ss) (ho : ∀ o ∈ ss, o.size ≤ 140737488351232) (n : Nat) :
    Calls Try.prog 10 #[.string x, .slice (some ⟨b, off, none⟩) k cap] (W.drewN n) fun e w' => e = .returned (.int .i64 (Nm.fits x.data.toList (Nm.dl ss))) ∧ ∃ m, w' = W.drewN m :=
  quiet_left (Nm.fits_any x b off k cap ss _ (by unfold maxLen; omega) (by unfold maxLen; omega) hc ho)

theorem cells_take {w : World} {b off n : Nat} {ss : List ByteArray} (h : Nm.Cells w b off n ss) (k : Nat) (hk : k ≤ n) : Nm.Cells w b off k (ss.take k) := by
  refine ⟨by rw [List.length_take, h.1]; omega, fun i hi => ?_⟩
  rw [h.2 i (by omega)]
  congr 2
  simp [List.getD, hi]

theorem own_cells2 {w : World} {B e : Nat} {v : Value} {n : Nat} {ss : List ByteArray} (h : w.ownsRow B e 1 v n (ss.map Value.string)) (hn : v ≠ .slice none 0 0) (hs : ss.length = n) :
    ∃ g cap, v = .slice (some ⟨g, 0, none⟩) n cap ∧ n ≤ cap ∧ cap ≤ maxLen ∧ Nm.Cells w g 0 n ss := by
  obtain ⟨g, cap, rfl, hc⟩ := Nm.own_cells h hn hs
  rcases h.2 with ⟨h1, _⟩ | ⟨g', cap', cur, he, _, _, h1, h2, _⟩
  · exact absurd h1 hn
  · simp at he
    obtain ⟨_, rfl⟩ := he
    exact ⟨g, cap, rfl, h1, h2, hc⟩

theorem below_drewN {B : Nat} {w w' : World} (h : Below B w w') (n : Nat) : Below B w (w'.drewN n) := ⟨h.os, h.tape, h.output, h.size, h.block⟩

set_option maxRecDepth 100000 in
set_option maxHeartbeats 2000000 in
theorem walk (w : World) (a0 : Option Addr) (len0 cap0 : Nat) (s0 : List ByteArray) (w0 : Fr.IsStrs w a0 len0 cap0 s0) (a1 : Int) (w1 : (Lit.int .i64 a1).wf = true) :
    Calls Try.prog 6 #[.slice a0 len0 cap0, .int .i64 a1] w fun e w' => e = .returned (.bool true) ∧ Below w.heap.size w w' := by
  have wb := Wi.wf_bounds w1
  by_cases h0 : len0 = 0
  · subst h0
    have HK := Lib.hid (Nm.known_any w)
    go_enter Try.func6, Try.ntmps6
    go_wp2_with fail
    refine HK.out.mono ?_
    rintro e w1 ⟨rfl, hb⟩
    have HB := Lib.hid hb
    clear hb HK
    go_wp2
    go_ret
    exact ⟨rfl, HB.out⟩
  by_cases h15 : 15 < len0
  · have h63 : len0 ≤ 9223372036854775807 := by
      rcases w0 with ⟨rfl, rfl, rfl, rfl⟩ | ⟨x, rfl, hl, hm, hz, hcell, hs⟩
      · omega
      · omega
    have HK := Lib.hid (Nm.known_any w)
    go_enter Try.func6, Try.ntmps6
    go_wp2_with fail
    refine HK.out.mono ?_
    rintro e w1 ⟨rfl, hb⟩
    have HB := Lib.hid hb
    clear hb HK
    go_wp2
    go_ret
    exact ⟨rfl, HB.out⟩
  rcases w0 with ⟨rfl, rfl, rfl, rfl⟩ | ⟨⟨b, off, spot⟩, rfl, hl, hm, hz, hcell, hs⟩
  · exact absurd rfl h0
  have hspot : spot = none := by simpa [Addr.add] using World.cell?_spot (hcell 0 (by omega))
  subst hspot
  obtain ⟨i0, hi, hz0, hz1, hz2⟩ := info_parts info9
  have HK := Lib.hid (Nm.known_any w)
  have HC0 := Lib.hid hcell
  have HS := Lib.hid hs
  have HZ := Lib.hid hz
  clear hcell hs hz
  go_enter Try.func6, Try.ntmps6
  go_wp2_with fail
  refine HK.out.mono ?_
  rintro e w1 ⟨rfl, hb⟩
  have HB := Lib.hid hb
  have HC := Lib.hid (Nm.cells_kept hb HZ.out HC0.out)
  clear hb HK
  have hn0 : ((len0 : Int) == 0) = false := by simp; omega
  go_wp2
  go_loopw [5, 7] (fun a i wr => ∃ (k : Nat) (ab : Bool), k ≤ len0 ∧ i = .int .i64 k ∧ a = .bool ab ∧ Hid (ab = Nm.FB (Nm.dl s0) k) ∧ Hid (Below w.heap.size w wr) ∧ Hid (Nm.Cells wr b off len0 s0)) (fun _ i _ => len0 - (intOf i).toNat)
  case atStart => exact ⟨0, true, Nat.zero_le _, rfl, rfl, Lib.hid rfl, HB, HC⟩
  case round =>
    clear HB HC
    obtain ⟨k, ab, hk, rfl, rfl, HA, HB, HC⟩ := hrel
    by_cases hlt : k < len0
    · have hcell := HC.out.2 k hlt
      have hx0 : (Nm.dl s0).getD k [] = (s0.getD k ByteArray.empty).data.toList := by simp [Nm.dl, HZ.out, hlt]
      have hsz := HS.out _ (Nm.getD_mem s0 k (by rw [HZ.out]; exact hlt))
      generalize hx : s0.getD k ByteArray.empty = x at hcell hx0 hsz
      have HN : Hid (Nm.FB (Nm.dl s0) (k + 1) = (ab && (Nm.fits x.data.toList (Nm.dl (s0.take k)) == 0))) := Lib.hid (by rw [← hx0, HA.out]; simp [Nm.FB, Nm.dl])
      have HT := Lib.hid (cells_take HC.out k hk)
      have HO : Hid (∀ o ∈ s0.take k, o.size ≤ 140737488351232) := Lib.hid (fun o ho => HS.out o (List.mem_of_mem_take ho))
      have HX := Lib.hid hsz
      have HF := Lib.hid (fits_q x b off k cap0 (s0.take k) wr HX.out (by omega) HT.out HO.out)
      clear hx0 hx hsz HA
      cases ab
      · have HN2 : Hid (false = Nm.FB (Nm.dl s0) (k + 1)) := Lib.hid (by rw [HN.out]; rfl)
        clear HN
        go_wp2
        go_quiet (fail)
        go_wp2
        go_roundw
        case rel => exact ⟨k + 1, _, by omega, by go_num, rfl, HN2, Lib.hid (below_drewN HB.out _), HC⟩
        case measure => simp [intOf]; omega
      · generalize hf : (Nm.fits x.data.toList (Nm.dl (s0.take k)) : Int) = fv at HN HF
        clear hf
        go_wp2
        go_quiet ((go_at_call 10; exact HF.out _))
        go_wp2
        go_roundw
        case rel => exact ⟨k + 1, _, by omega, by go_num, rfl, Lib.hid HN.out.symm, Lib.hid (below_drewN HB.out _), HC⟩
        case measure => simp [intOf]; omega
    · have hk2 : k = len0 := by omega
      have HA2 : Hid (ab = Nm.FB (Nm.dl s0) (Nm.dl s0).length) := Lib.hid (by rw [HA.out, hk2]; simp [Nm.dl, HZ.out])
      obtain ⟨r, hr, hrn⟩ : ∃ r : Nat, a1 % (len0 : Int) = (r : Int) ∧ r < len0 := ⟨(a1 % (len0 : Int)).toNat, by have := Int.emod_nonneg a1 (b := (len0 : Int)) (by omega); omega, by have := Int.emod_lt_of_pos a1 (b := (len0 : Int)) (by omega); have := Int.emod_nonneg a1 (b := (len0 : Int)) (by omega); omega⟩
      have HR := Lib.hid hr
      clear HA hk2 hr
      go_wp2
      obtain ⟨wo, hwo⟩ : ∃ wo : World, wo = wr := ⟨_, rfl⟩
      subst hwo
      go_loopw [8, 9] (fun v i wr => ∃ (k : Nat), k ≤ len0 ∧ i = .int .i64 k ∧ Hid (Below w.heap.size w wr) ∧ Hid (Nm.Cells wr b off len0 s0) ∧ Hid (wr.ownsRow w.heap.size 9 1 v k (((Nm.rot s0 r).take k).map Value.string)) ∧ Hid (0 < k → v ≠ .slice none 0 0)) (fun _ i _ => len0 - (intOf i).toNat)
      case atStart => exact ⟨0, Nat.zero_le _, rfl, HB, HC, Lib.hid (World.ownsRow_nil _ _ _ _), Lib.hid (fun h => absurd h (by omega))⟩
      case round =>
        clear HB HC
        obtain ⟨k2, hk2, rfl, HB, HC, HOW, HV⟩ := hrel
        by_cases hlt2 : k2 < len0
        · obtain ⟨p, hp, hpn⟩ : ∃ p : Nat, ((k2 : Int) + (r : Int)) % (len0 : Int) = (p : Int) ∧ p = (k2 + r) % len0 := ⟨(k2 + r) % len0, by simp, rfl⟩
          have hpl : p < len0 := by rw [hpn]; exact Nat.mod_lt _ (by omega)
          have hcell := HC.out.2 p hpl
          have hg : (Nm.rot s0 r)[k2]? = some (s0.getD p ByteArray.empty) := by rw [Nm.rot_get _ _ _ (by rw [HZ.out]; exact hrn) (by rw [HZ.out]; exact hlt2), HZ.out, ← hpn]; simp [HZ.out, hpl]
          generalize hx : s0.getD p ByteArray.empty = x at hcell hg
          have HG := Lib.hid hg
          have HPN := Lib.hid hpn
          have HW : Hid (∀ W, Calls Try.prog 12 #[.int .i64 a1, .int .i64 len0] W fun e w' => e = .returned (.int .i64 r) ∧ W = w') := Lib.hid (fun W => by have := Wi.within_any a1 len0 W (by omega) (by omega) wb.1 wb.2; rw [HR.out] at this; exact this)
          clear hx hg hpn
          go_wp2_with (first | (go_at_call 12; refine (HW.out _).mono ?_; rintro e w' ⟨rfl, rfl⟩) | (at_builtin; refine wpList_append_own _ rfl _ _ 27 rfl w.heap.size 9 i0 (.string ByteArray.empty) 1 16 Try.underlying27 hi hz0 hz1 hz2 rfl (by decide) _ k2 _ rfl (HOW.out.alloc _) ⟨wr.heap.size, 0, none⟩ 1 1 [.string x] rfl rfl ?c1 ?c2 ?c3 ?c4 ?c5 ?_))
          case c1 =>
            intro j u hj
            match j, hj with
            | 0, hj => simp at hj; subst hj; simp [Addr.add]
          case c2 => intro u hu; simp at hu; subst hu; rfl
          case c3 => unfold maxLen; omega
          case c4 => omega
          case c5 => have := HB.out.size; simp; omega
          intro v' w2 hown hgrow hnil
          have hb2 : Below w.heap.size w w2 := (HB.out.alloc HB.out.size _).grown hgrow (by have := HB.out.size; simp; omega) (fun k hk => by
            rcases HOW.out.2 with ⟨h, _⟩ | ⟨g', cap', cur, h, hge, _⟩
            · rw [h] at hk; simp [Value.ownBlock] at hk
            · rw [h] at hk; simp [Value.ownBlock] at hk; omega)
          have HB2 := Lib.hid hb2
          have HOW2 : Hid (w2.ownsRow w.heap.size 9 1 v' (k2 + 1) (((Nm.rot s0 r).take (k2 + 1)).map Value.string)) := Lib.hid (by
            have e : (Nm.rot s0 r).take (k2 + 1) = (Nm.rot s0 r).take k2 ++ [x] := by
              have h := HG.out
              obtain ⟨hh, he⟩ := List.getElem?_eq_some_iff.1 h
              rw [List.take_succ_eq_append_getElem hh, he]
            rw [e, List.map_append, List.map_take]
            exact hown)
          have HC2 := Lib.hid (Nm.cells_kept hb2 HZ.out HC0.out)
          have HV2 : Hid (0 < k2 + 1 → v' ≠ .slice none 0 0) := Lib.hid (fun _ h => by first | exact hnil h | exact absurd (hnil.1 h).2 (by decide))
          clear hown hgrow hnil hb2 HB HC HOW HV HG HPN HW hcell hp hpl
          go_wp2
          go_roundw
          case rel => exact ⟨k2 + 1, by omega, by go_num, HB2, HC2, HOW2, HV2⟩
          case measure => simp [intOf]; omega
        · have hk2e : k2 = len0 := by omega
          have hrl : (Nm.rot s0 r).length = len0 := by rw [(Nm.rot_perm s0 r).length_eq, HZ.out]
          have how := HOW.out
          rw [List.take_of_length_le (by omega), hk2e] at how
          obtain ⟨g, capm, hv, hcap1, hcap2, hcm⟩ := own_cells2 how (HV.out (by omega)) hrl
          subst hv
          unfold maxLen at hcap2
          generalize hm0 : Nm.rot s0 r = m0 at hcm hrl
          have HM := Lib.hid hcm
          have HML := Lib.hid hrl
          have HPM : Hid (Nm.FB (Nm.dl m0) (Nm.dl m0).length = ab) := Lib.hid (by
            rw [HA2.out, ← hm0]
            unfold Nm.dl
            rw [Nm.FB_perm ((Nm.rot_perm s0 r).map _)])
          have HMS : Hid (∀ o ∈ m0, o.size ≤ 140737488351232) := Lib.hid (fun o ho => HS.out o ((Nm.rot_perm s0 r).mem_iff.1 (by rw [hm0]; exact ho)))
          clear how hcm hrl hm0 HOW HV hk2e HC HA2
          go_wp2
          obtain ⟨wp, hwp⟩ : ∃ wp : World, wp = wr := ⟨_, rfl⟩
          subst hwp
          go_loopw [6, 10] (fun a i wr => ∃ (k : Nat) (bb : Bool), k ≤ len0 ∧ i = .int .i64 k ∧ a = .bool bb ∧ Hid (bb = Nm.FB (Nm.dl m0) k) ∧ Hid (Below w.heap.size w wr) ∧ Hid (Nm.Cells wr g 0 len0 m0)) (fun _ i _ => len0 - (intOf i).toNat)
          case atStart => exact ⟨0, true, Nat.zero_le _, rfl, rfl, Lib.hid rfl, HB, HM⟩
          case round =>
            clear HB HM
            obtain ⟨k3, bb, hk3, rfl, rfl, HA, HB, HC⟩ := hrel
            by_cases hlt3 : k3 < len0
            · have hcell := HC.out.2 k3 hlt3
              have hx0 : (Nm.dl m0).getD k3 [] = (m0.getD k3 ByteArray.empty).data.toList := by simp [Nm.dl, HML.out, hlt3]
              have hsz := HMS.out _ (Nm.getD_mem m0 k3 (by rw [HML.out]; exact hlt3))
              generalize hx : m0.getD k3 ByteArray.empty = x at hcell hx0 hsz
              have HN : Hid (Nm.FB (Nm.dl m0) (k3 + 1) = (bb && (Nm.fits x.data.toList (Nm.dl (m0.take k3)) == 0))) := Lib.hid (by rw [← hx0, HA.out]; simp [Nm.FB, Nm.dl])
              have HT := Lib.hid (cells_take HC.out k3 hk3)
              have HO : Hid (∀ o ∈ m0.take k3, o.size ≤ 140737488351232) := Lib.hid (fun o ho => HMS.out o (List.mem_of_mem_take ho))
              have HX := Lib.hid hsz
              have HF := Lib.hid (fits_q x g 0 k3 capm (m0.take k3) wr HX.out (by omega) HT.out HO.out)
              clear hx0 hx hsz HA
              simp only [Nat.zero_add] at hcell
              cases bb
              · have HN2 : Hid (false = Nm.FB (Nm.dl m0) (k3 + 1)) := Lib.hid (by rw [HN.out]; rfl)
                clear HN
                go_wp2
                go_quiet (fail)
                go_wp2
                go_roundw
                case rel => exact ⟨k3 + 1, _, by omega, by go_num, rfl, HN2, Lib.hid (below_drewN HB.out _), HC⟩
                case measure => simp [intOf]; omega
              · generalize hf : (Nm.fits x.data.toList (Nm.dl (m0.take k3)) : Int) = fv at HN HF
                clear hf
                go_wp2
                go_quiet ((go_at_call 10; exact HF.out _))
                go_wp2
                go_roundw
                case rel => exact ⟨k3 + 1, _, by omega, by go_num, rfl, Lib.hid HN.out.symm, Lib.hid (below_drewN HB.out _), HC⟩
                case measure => simp [intOf]; omega
            · have HE : Hid (bb = ab) := Lib.hid (by rw [HA.out, ← HPM.out, show (Nm.dl m0).length = k3 from by simp [Nm.dl, HML.out]; omega])
              clear HA HPM
              go_wp2
              go_ret
              exact ⟨Nm.ret_bool (by rw [HE.out]; simp), HB.out⟩

set_option maxRecDepth 100000 in
theorem lifted (os : Os) (started : os.Started) (H : Type) (enc : TypeId × Value → H) (F : Stop.Interp) :
    ReturnsInHanded {} Try.checked os 6 .any ((Rows.OpenSpec.upto Rows.nameOrderSpec).pre6 enc Try.prog Try.f6 Rows.nameOrderUptoRow.domain false) (((Rows.OpenSpec.upto Rows.nameOrderSpec).at F).post enc Try.prog Try.f6 false true false false) := by
  refine returnsInHanded_of_cond_sized (C := Try.checked) (s := (Rows.OpenSpec.upto Rows.nameOrderSpec)) (k := Rows.uptoSmall) rfl own started (by kernel_rfl) Try.func6
    (OpenSpec.witness (enc := enc) (C := Try.checked) (s := (Rows.OpenSpec.upto Rows.nameOrderSpec)) (k := Rows.uptoSmall) rfl false ⟨#[], #[.slice none 0 0, .int .i64 0], []⟩ 8 (by kernel_rfl) (by kernel_rfl) (by kernel_rfl)
      (x := ([.nil, .lit (.int .i64 0)], [], [])) (by kernel_rfl) rfl (by kernel_rfl)) ?_
  intro W base args ds gs before hval0 hW _ hk0 hsz0 _
  have hsz : (DataW.weightsEach Try.prog (Try.f6.params.toList ++ (Rows.OpenSpec.upto Rows.nameOrderSpec).bare.plain.varTypes Try.prog) (ds ++ gs)).all (· ≤ reachBytes) = true := hsz0
  clear hsz0
  have hval : ∀ (j : Nat) t v, Try.f6.params[j]? = some t → args[j]? = some v → Value.okWide Try.prog W .any base t v := hval0
  have hW' := hW
  obtain ⟨p, q, hA0, hV, rfl, _, _⟩ := hW
  have hA : DataW.TrodAll enc Try.prog W 0 (fun _ => true) true Try.f6.params.toList args.toList ds p := hA0
  rw [Try.params6] at hA hval hsz
  obtain ⟨v0, vs0, d0, ds0, p0, q0, hargs, rfl, rfl, h0, r0⟩ := trodAll_cons hA
  obtain ⟨v1, vs1, d1, ds1, p1, q1, rfl, rfl, rfl, h1, r1⟩ := trodAll_cons r0
  obtain ⟨rfl, rfl, rfl⟩ := trodAll_nil r1
  obtain rfl : args = #[v0, v1] := by cases args; simp_all
  obtain ⟨rfl, rfl⟩ := trodVars_none hV
  have hk : Rows.uptoBulkAll ([d0, d1] ++ []) ≤ 1048576 := of_decide_eq_true hk0
  simp only [List.append_nil, Rows.uptoBulkAll] at hk
  have bulk0 : Rows.uptoBulk d0 ≤ 1048576 := by omega
  have bulk1 : Rows.uptoBulk d1 ≤ 1048576 := by omega
  have k0 := h0
  have lt0 : ∀ x ∈ p0, x.block < W.heap.size := by obtain ⟨m, hm⟩ := k0; exact DataW.trod_lt m _ _ _ hm
  have k1 := h1
  have lt1 : ∀ x ∈ p1, x.block < W.heap.size := by obtain ⟨m, hm⟩ := k1; exact DataW.trod_lt m _ _ _ hm
  obtain ⟨a0, len0, cap0, rfl⟩ := okWide_slice Try.underlying27 (hval 0 27 v0 rfl rfl)
  obtain ⟨s0, w0⟩ := Fr.isStrs_of Try.underlying27 Try.underlying9 (by kernel_rfl) (by kernel_rfl) hsz (j := 0) rfl rfl h0
  obtain ⟨a1, rfl, rfl, rfl, w1⟩ := open_int Try.underlying3 (hval 1 3 v1 rfl rfl) h1
  clear hA0 hval0
  simp only [List.append_nil] at hW'
  refine (walk W a0 len0 cap0 s0 w0 a1 w1).mono fun e W' ⟨he, bel⟩ => ?_
  subst he
  exact ⟨_, rfl, _, _, _, [], _, [], hW', trodAll_mk1 (shut_bool Try.underlying4 _), (trodAll_cons_mk (Below.trod laidOut (by kernel_rfl) (of_decide_eq_true (by kernel_rfl)) k0 bel lt0) (trodAll_cons_mk (Below.trod laidOut (by kernel_rfl) (of_decide_eq_true (by kernel_rfl)) k1 bel lt1) trodAll_mk0)), rfl, bel.frame _, fun h => by cases h⟩

/-- The statement. -/
theorem proved : Rows.NameOrderUptoSaid :=
  OpenClaim.holds_of_cond 6 Try.f6 rfl rfl rfl rfl rfl rfl rfl ⟨rfl, rfl, rfl, rfl, rfl⟩ rfl rfl rfl rfl rfl (by kernel_rfl) Try.func6 (by kernel_rfl)
    (of_decide_eq_true (by kernel_rfl)) (by unfold Func.isWrapper; first | (rw [if_pos (by decide +kernel)]; kernel_rfl) | (rw [if_neg (by decide +kernel)]; exact ⟨rfl, rfl⟩))
    (fun os started H enc _ F => lifted os started H enc F)
#print axioms proved
end Go.Proofs.Ytnognfhcddmikaa.nameOrderUpto
