/- LinesFirst: whatever the input, the law returns true, and each argument reads as it did before. No condition. -/
import Derived.Test.YtfgmnfcakeenmaaRows
import Derived.WalkKit
import Derived.ProofKit
import Derived.OpenShut
import Derived.ShutString
import Derived.SizedLaws
import Derived.Below
import Derived.Deep.QuietTactic
import Derived.BigQuiet
import Derived.RegionTactic
import Derived.BigRegion
import Derived.Outline
import Derived.Deep.RegionLaw
import Derived.Deep.RegionWith
import Derived.Deep.RegionHeld3
import Derived.Deep.DeepCutAuto
import Derived.Deep.CutBlock
import Derived.Deep.LoopGhost
import Derived.Lib.Hide
import Derived.WalkSpells
import Derived.WalkLawsBesides
import Derived.Test.YtfgmnfcakeenmaaFrStrs
import Derived.Test.YtfgmnfcakeenmaaLnFirst
namespace Go.Proofs.Ytfgmnfcakeenmaa.linesFirst
open Go.ChangeShapes Go.WideShapes Go.ChangeAt Go.RowKit
open Go.ChangeMaps (open_string shut_string)
set_option linter.unusedVariables false

theorem own : ownKnob Try.prog.godebug = none := by kernel_rfl
theorem laidOut : laidOutB Try.prog = true := by kernel_rfl

/-- the script and the lines, while the law goes over them -/
structure Fs (w wr : World) (A : Option Addr) (C : Nat) (l : List (Nat × Nat)) : Prop where
  own : wr.ownsRow w.heap.size 48 2 (.slice A l.length C) l.length (Ln.ed l)
  bel : Below w.heap.size w wr
theorem Fs.more {w wr w' : World} {A : Option Addr} {C : Nat} {l : List (Nat × Nat)} (h : Fs w wr A C l) (hb : Below wr.heap.size wr w') : Fs w w' A C l :=
  ⟨Ln.own_keep h.own hb, h.bel.trans (hb.mono h.bel.size)⟩
theorem Fs.drew {w wr : World} {A : Option Addr} {C : Nat} {l : List (Nat × Nat)} (h : Fs w wr A C l) : Fs w wr.drew A C l := ⟨h.own, h.bel.drew⟩
theorem Fs.drewN {w wr : World} {A : Option Addr} {C : Nat} {l : List (Nat × Nat)} (h : Fs w wr A C l) (d : Nat) : Fs w (wr.drewN d) A C l := ⟨h.own, Ln.below_drewN h.bel d⟩

set_option maxRecDepth 100000 in
set_option maxHeartbeats 2000000 in
theorem walk (w : World) (a0 : Option Addr) (len0 cap0 : Nat) (s0 : List ByteArray) (w0 : Fr.IsStrs w a0 len0 cap0 s0) (a1 : Option Addr) (len1 cap1 : Nat) (s1 : List ByteArray) (w1 : Fr.IsStrs w a1 len1 cap1 s1) :
    Calls Try.prog 9 #[.slice a0 len0 cap0, .slice a1 len1 cap1] w fun e w' => e = .returned (.bool true) ∧ Below w.heap.size w w' := by
  obtain ⟨r0, q0⟩ := Ln.rd_of_strs w0
  obtain ⟨r1, q1⟩ := Ln.rd_of_strs w1
  have HK := Lib.hid (Ln.known_any w)
  have H0 := Lib.hid r0
  have H1 := Lib.hid r1
  have M0 := Lib.hid (fun s hs => Nat.le_trans (q0 s hs) (show 140737488351232 ≤ maxLen by unfold maxLen; omega))
  have M1 := Lib.hid (fun s hs => Nat.le_trans (q1 s hs) (show 140737488351232 ≤ maxLen by unfold maxLen; omega))
  have L0 := Lib.hid (show s0.length = len0 by have := r0.hlen; simpa [Ln.sv] using this)
  have L1 := Lib.hid (show s1.length = len1 by have := r1.hlen; simpa [Ln.sv] using this)
  have c0 := r0.hcap
  have c1 := r1.hcap
  have g0 := r0.hbig
  have g1 := r1.hbig
  clear r0 r1 q0 q1 w0 w1
  by_cases hbig : 30 < len0 ∨ (len0 ≤ 30 ∧ 30 < len1)
  · rcases hbig with hbig | ⟨hb1, hb2⟩
    · have hd : decide (30 < len0) = true := by simp; omega
      go_enter Try.func9, Try.ntmps9
      go_wp2_with fail
      refine HK.out.mono ?_
      rintro e w1 ⟨rfl, hb⟩
      have HB1 := Lib.hid hb
      clear hb HK
      go_wp2
      go_ret
      exact ⟨rfl, HB1.out⟩
    · have hd : decide (30 < len0) = false := by simp; omega
      have hd2 : decide (30 < len1) = true := by simp; omega
      go_enter Try.func9, Try.ntmps9
      go_wp2_with fail
      refine HK.out.mono ?_
      rintro e w1 ⟨rfl, hb⟩
      have HB1 := Lib.hid hb
      clear hb HK
      go_wp2
      go_ret
      exact ⟨rfl, HB1.out⟩
  have b0 : len0 ≤ 30 := by omega
  have b1 : len1 ≤ 30 := by omega
  have hd : decide (30 < len0) = false := by simp; omega
  have hd2 : decide (30 < len1) = false := by simp; omega
  clear hbig
  go_enter Try.func9, Try.ntmps9
  go_wp2_with fail
  refine HK.out.mono ?_
  rintro e w1 ⟨rfl, hb⟩
  have hsz1 := hb.size
  have HB1 := Lib.hid hb
  have HD := Lib.hid (Ln.diff_any a0 len0 cap0 s0 a1 len1 cap1 s1 w1 ((H0.out.below hb).more hsz1) ((H1.out.below hb).more hsz1) M0.out M1.out (by omega) (by omega))
  clear hb HK
  go_wp2_with fail
  refine HD.out.mono ?_
  rintro e w2 ⟨v, rfl, ho, ht, hb⟩
  obtain ⟨A, N, C, rfl⟩ := Ln.own_slice ho
  obtain rfl := Ln.own_N ho
  have hst : Ln.tot (Ln.scr s0 s1) ≤ 60 := by
    have h3 := Ln.scr_len s0 s1
    have := L0.out
    have := L1.out
    omega
  have hslen : (Ln.scr s0 s1).length ≤ 60 := by omega
  have HKE := Lib.hid (Ln.kept_any _ A C _ w2 ho (by omega) (by omega))
  have hkc := Ln.kc_scr s0 s1
  have hle := Ln.lcs_le_left s0 s1
  rw [L0.out] at hle
  have hflat := Ln.flat_scr s0 s1
  have hcap := (Ln.own_edit_len ho).2
  unfold maxLen at hcap
  have HF : Hid (Fs w w2 A C (Ln.scr s0 s1)) := Lib.hid ⟨Ln.own_base ho hsz1, HB1.out.trans (hb.mono hsz1)⟩
  rw [hkc] at HKE
  generalize Ln.scr s0 s1 = l at *
  obtain ⟨al, hal⟩ : ∃ al, al = Ln.lcs s0 s1 := ⟨_, rfl⟩
  rw [← hal] at HKE hle
  have HAL := Lib.hid hal
  have HFL := Lib.hid hflat
  clear ho ht hb hkc HD hflat hal
  go_wp2_with fail
  refine HKE.out.mono ?_
  rintro e w3 ⟨rfl, rfl⟩
  clear HKE
  go_wp2
  go_loopw [8, 9, 10, 11] (fun s8 s9 s10 s11 wr => ∃ i k had n : Nat, i ≤ len0 ∧ k ≤ len1 ∧ had ≤ al ∧ n ≤ l.length ∧ s8 = .int .i64 i ∧ s9 = .int .i64 k ∧ s10 = .int .i64 had ∧ s11 = .int .i64 n ∧ Hid (Ln.flat (l.drop n) = Ln.steps (s0.drop i) (s1.drop k)) ∧ Hid (had + Ln.lcs (s0.drop i) (s1.drop k) = al) ∧ Hid (Fs w wr A C l)) (fun _ _ _ s11 _ => l.length - (intOf s11).toNat)
  case atStart => exact ⟨0, 0, 0, 0, Nat.zero_le _, Nat.zero_le _, Nat.zero_le _, Nat.zero_le _, rfl, rfl, rfl, rfl, Lib.hid (by simpa using HFL.out), Lib.hid (by rw [HAL.out]; simp), HF⟩
  case round =>
    clear HF
    obtain ⟨i, k, had, n, hi, hk, hhad, hn, rfl, rfl, rfl, rfl, HS, HL, HF⟩ := hrel
    by_cases hlt : n < l.length
    · obtain ⟨g, hA, e1, e2⟩ := Ln.own_edit HF.out.own n hlt
      subst hA
      have hcnt : l[n].2 ≤ 60 := by
        have h2 : Ln.tot l = Ln.tot (l.take n) + (l[n].2 + Ln.tot (l.drop (n + 1))) := by
          conv => lhs; rw [← List.take_append_drop n l, Ln.tot_append, List.drop_eq_getElem_cons hlt, Ln.tot_cons]
        omega
      have HS2 := Lib.hid (show List.replicate (l[n].2 - 0) l[n].1 ++ Ln.flat (l.drop (n + 1)) = Ln.steps (s0.drop i) (s1.drop k) by
        rw [← HS.out, List.drop_eq_getElem_cons hlt, Ln.flat_cons]; rfl)
      have HE := Lib.hid (fun (W : World) (hW : Fs w W (some ⟨g, 0, none⟩) C l) => (show W.cell? ⟨g, n * 2, none⟩ = some (.int .i64 ((l[n].1 : Nat) : Int)) ∧ W.cell? ⟨g, n * 2 + 1, none⟩ = some (.int .i64 ((l[n].2 : Nat) : Int)) by
        obtain ⟨g', hg', x1, x2⟩ := Ln.own_edit hW.own n hlt
        simp only [Option.some.injEq, Addr.mk.injEq, and_true] at hg'
        subst hg'
        exact ⟨x1, x2⟩))
      generalize l[n].1 = op at *
      generalize l[n].2 = cnt at *
      obtain ⟨F, hF⟩ : ∃ F, F = Ln.flat (l.drop (n + 1)) := ⟨_, rfl⟩
      rw [← hF] at HS2
      have HFF := Lib.hid hF
      clear HS hF
      go_wp2
      go_loopw [8, 9, 10, 12] (fun s8 s9 s10 s12 wx => ∃ i k had j : Nat, i ≤ len0 ∧ k ≤ len1 ∧ had ≤ al ∧ j ≤ cnt ∧ s8 = .int .i64 i ∧ s9 = .int .i64 k ∧ s10 = .int .i64 had ∧ s12 = .int .i64 j ∧ Hid (List.replicate (cnt - j) op ++ F = Ln.steps (s0.drop i) (s1.drop k)) ∧ Hid (had + Ln.lcs (s0.drop i) (s1.drop k) = al) ∧ Hid (Fs w wx (some ⟨g, 0, none⟩) C l)) (fun _ _ _ s12 _ => cnt - (intOf s12).toNat)
      case atStart => exact ⟨i, k, had, 0, hi, hk, hhad, Nat.zero_le _, rfl, rfl, rfl, rfl, HS2, HL, HF⟩
      case round =>
        clear HF HS2 HL e1 e2 hi hk hhad
        obtain ⟨i, k, had, j, hi, hk, hhad, hj, rfl, rfl, rfl, rfl, HS2, HL, HF⟩ := hrel
        obtain ⟨e1, e2⟩ := HE.out _ HF.out
        by_cases hjlt : j < cnt
        · have hcons : Ln.steps (s0.drop i) (s1.drop k) = op :: (List.replicate (cnt - (j + 1)) op ++ F) := by
            rw [← HS2.out, show cnt - j = cnt - (j + 1) + 1 from by omega, List.replicate_succ]; rfl
          rcases Ln.step_head hcons with ⟨hop, x, p', q', hp, hq, hr, hl⟩ | ⟨hop, x, p', hp, hr, hl, hqq⟩ | ⟨hop, y, q', hq, hr, hl, hpp⟩
          · obtain ⟨hi2, hp2, -⟩ := Ln.drop_cons hp
            obtain ⟨hk2, hq2, -⟩ := Ln.drop_cons hq
            rw [L0.out] at hi2
            rw [L1.out] at hk2
            have HN := Lib.hid (show List.replicate (cnt - (j + 1)) op ++ F = Ln.steps (s0.drop (i + 1)) (s1.drop (k + 1)) by rw [hp2, hq2]; exact hr)
            have HL2 := Lib.hid (show had + 1 + Ln.lcs (s0.drop (i + 1)) (s1.drop (k + 1)) = al by rw [hp2, hq2]; have := HL.out; rw [hl] at this; omega)
            have hh1 : had + 1 ≤ al := by have := HL2.out; omega
            have ho : ((op : Int) == 0) = true := by simp [hop]
            clear hcons hp hq hr hl hp2 hq2 HS2 HL hop
            go_wp2
            go_roundw
            case rel => exact ⟨i + 1, k + 1, had + 1, j + 1, by omega, by omega, hh1, by omega, by go_num, by go_num, by go_num, by go_num, HN, HL2, HF⟩
            case measure => simp [intOf]; omega
          · obtain ⟨hi2, hp2, hx1⟩ := Ln.drop_cons hp
            rw [L0.out] at hi2
            have HN := Lib.hid (show List.replicate (cnt - (j + 1)) op ++ F = Ln.steps (s0.drop (i + 1)) (s1.drop k) by rw [hp2]; exact hr)
            have HL2 := Lib.hid (show had + Ln.lcs (s0.drop (i + 1)) (s1.drop k) = al by rw [hp2, hl]; exact HL.out)
            have ho : ((op : Int) == 0) = false := by simp [hop]
            have ho2 : ((op : Int) == 2) = false := by simp [hop]
            have hd3 : decide (i < len0) = true := by simp; omega
            rcases hqq with hqn | ⟨y, q', hq, hne⟩
            · have hk2 : len1 ≤ k := by have := Ln.drop_nil_ge hqn; rw [L1.out] at this; exact this
              have hd4 : decide (k < len1) = false := by simp; omega
              clear hcons hp hr hl hp2 HS2 HL hop hqn hx1
              go_wp2
              go_quiet (fail)
              go_wp2
              go_roundw
              case rel => exact ⟨i + 1, k, had, j + 1, by omega, by omega, hhad, by omega, by go_num, rfl, rfl, by go_num, HN, HL2, HF.out.drewN _ |> Lib.hid⟩
              case measure => simp [intOf]; omega
            · obtain ⟨hk2, -, hy1⟩ := Ln.drop_cons hq
              rw [L1.out] at hk2
              have hd4 : decide (k < len1) = true := by simp; omega
              obtain ⟨x1, o1, rfl, hb1, hc1⟩ := (H0.out.below HF.out.bel).str i hi2
              obtain ⟨x2, o2, rfl, hb2, hc2⟩ := (H1.out.below HF.out.bel).str k hk2
              have hxy : s0.getD i ByteArray.empty ≠ s1.getD k ByteArray.empty := by
                rw [List.getD_eq_getElem?_getD, List.getD_eq_getElem?_getD, hx1, hy1]
                exact hne
              generalize s0.getD i ByteArray.empty = v1 at *
              generalize s1.getD k ByteArray.empty = v2 at *
              have hq' : (v1.toList == v2.toList) = false := by
                cases e : (v1.toList == v2.toList)
                · rfl
                · exact absurd (Ln.str_eq.1 e) hxy
              clear hcons hp hr hl hp2 HS2 HL hop hq hx1 hy1 hne hxy
              go_wp2
              go_quiet (fail)
              go_wp2
              go_roundw
              case rel => exact ⟨i + 1, k, had, j + 1, by omega, by omega, hhad, by omega, by go_num, rfl, rfl, by go_num, HN, HL2, HF.out.drewN _ |> Lib.hid⟩
              case measure => simp [intOf]; omega
          · obtain ⟨hk2, hq2, hy1⟩ := Ln.drop_cons hq
            rw [L1.out] at hk2
            have HN := Lib.hid (show List.replicate (cnt - (j + 1)) op ++ F = Ln.steps (s0.drop i) (s1.drop (k + 1)) by rw [hq2]; exact hr)
            have HL2 := Lib.hid (show had + Ln.lcs (s0.drop i) (s1.drop (k + 1)) = al by rw [hq2, hl]; exact HL.out)
            have ho : ((op : Int) == 0) = false := by simp [hop]
            have ho2 : ((op : Int) == 2) = true := by simp [hop]
            have hd4 : decide (k < len1) = true := by simp; omega
            rcases hpp with hpn | ⟨x, p', hp, hne, hlt2⟩
            · have hi2 : len0 ≤ i := by have := Ln.drop_nil_ge hpn; rw [L0.out] at this; exact this
              have hd3 : decide (i < len0) = false := by simp; omega
              clear hcons hq hr hl hq2 HS2 HL hop hpn hy1
              go_wp2
              go_quiet (fail)
              go_wp2
              go_quiet (fail)
              go_wp2
              go_roundw
              case rel => exact ⟨i, k + 1, had, j + 1, by omega, by omega, hhad, by omega, rfl, by go_num, rfl, by go_num, HN, HL2, HF.out.drewN _ |> Lib.hid⟩
              case measure => simp [intOf]; omega
            · obtain ⟨hi2, hp2, hx1⟩ := Ln.drop_cons hp
              rw [L0.out] at hi2
              have hd3 : decide (i < len0) = true := by simp; omega
              have hlt3 : had + Ln.lcs (s0.drop (i + 1)) (s1.drop k) < al := by rw [hp2]; have := HL.out; omega
              have hle3 := Ln.lcs_le_left (s0.drop (i + 1)) (s1.drop k)
              rw [List.length_drop, L0.out] at hle3
              have HR0 := Lib.hid (fun (W : World) (hW : Below w.heap.size w W) => ((H0.out.below hW).more hW.size).cut (i + 1) (by omega))
              have HR1 := Lib.hid (fun (W : World) (hW : Below w.heap.size w W) => ((H1.out.below hW).more hW.size).cut k (by omega))
              obtain ⟨x1, o1, rfl, hb1, hc1⟩ := (H0.out.below HF.out.bel).str i hi2
              obtain ⟨x2, o2, rfl, hb2, hc2⟩ := (H1.out.below HF.out.bel).str k hk2
              have hxy : s0.getD i ByteArray.empty ≠ s1.getD k ByteArray.empty := by
                rw [List.getD_eq_getElem?_getD, List.getD_eq_getElem?_getD, hx1, hy1]
                exact hne
              generalize s0.getD i ByteArray.empty = v1 at *
              generalize s1.getD k ByteArray.empty = v2 at *
              have hq' : (v1.toList == v2.toList) = false := by
                cases e : (v1.toList == v2.toList)
                · rfl
                · exact absurd (Ln.str_eq.1 e) hxy
              clear hcons hp hr hl hp2 HS2 HL hop hq hq2 hx1 hy1 hne hxy hlt2
              go_wp2
              go_quiet (fail)
              go_upto_region 23 with (fail)
              have HFq := Lib.hid (HF.out.drewN ‹Nat›)
              generalize World.drewN _ _ = wq at *
              clear HF
              go_cut [120] (fun s wx => s = .bool false ∧ Hid (Fs w wx (some ⟨g, 0, none⟩) C l))
              case first =>
                have hbq : Below w.heap.size w wq.drew := ⟨HFq.out.bel.os, HFq.out.bel.tape, HFq.out.bel.output, HFq.out.bel.size, HFq.out.bel.block⟩
                have hck : ¬ cap1 = k := by omega
                have R0 := HR0.out _ hbq
                have R1 := HR1.out _ hbq
                rw [if_neg hck, show (Ln.sv s1).drop k = Ln.sv (s1.drop k) from by simp [Ln.sv]] at R1
                rw [show (Ln.sv s0).drop (i + 1) = Ln.sv (s0.drop (i + 1)) from by simp [Ln.sv]] at R0
                simp only [Option.map_some, Addr.add_lit] at R0 R1
                obtain ⟨A1, hA1⟩ : ∃ A, (if cap0 = i + 1 then some (⟨x1, o1, none⟩ : Addr) else some ⟨x1, o1 + (i + 1), none⟩) = A := ⟨_, rfl⟩
                rw [hA1] at R0
                have HM := Lib.hid (Ln.most_any _ _ _ _ _ _ _ _ wq.drew R0 R1 (fun s hs => M0.out s (List.mem_of_mem_drop hs)) (fun s hs => M1.out s (List.mem_of_mem_drop hs)) (by omega) (by omega))
                generalize Ln.lcs (s0.drop (i + 1)) (s1.drop k) = m at *
                have hfin : ((had : Int) + (m : Int) == (al : Int)) = false := by simp; omega
                have hs1 : (0 : Int) ≤ (i : Int) + 1 := by omega
                have hs2 : (i : Int) + 1 ≤ (len0 : Int) := by omega
                have hs3 : ((i : Int) + 1).toNat = i + 1 := by omega
                have hs4 : (i : Int) + 1 ≤ (cap0 : Int) := by omega
                have hw2 : IntKind.i64.wrap ((had : Int) + (m : Int)) = (had : Int) + (m : Int) := IntWalk.i64_in _ (by omega)
                have hw1 : IntKind.i64.wrap ((i : Int) + 1) = (i : Int) + 1 := IntWalk.i64_in _ (by omega)
                clear R0 R1 HR0 HR1
                go_region_held3 (fun _ => True) (trivial) ((go_at_call 25; (with_reducible refine HM.out.mono ?_); rintro e w5 ⟨rfl, hb5⟩; have HB5 := Lib.hid hb5; clear hb5))
                have HF5 := Lib.hid (Fs.more HFq.out.drew HB5.out)
                go_wp2_with fail
                go_meet
                exact ⟨rfl, HF5⟩
              case rest =>
                obtain ⟨rfl, HF5⟩ := hcut
                clear HFq HR0 HR1
                go_wp2
                go_roundw
                case rel => exact ⟨i, k + 1, had, j + 1, by omega, by omega, hhad, by omega, rfl, by go_num, rfl, by go_num, HN, HL2, HF5⟩
                case measure => simp [intOf]; omega
        · obtain rfl : j = cnt := by omega
          have HN := Lib.hid (show Ln.flat (l.drop (n + 1)) = Ln.steps (s0.drop i) (s1.drop k) by rw [← HFF.out, ← HS2.out]; simp)
          clear HS2
          go_wp2
          go_roundw
          case rel => exact ⟨i, k, had, n + 1, hi, hk, hhad, by omega, rfl, rfl, rfl, by go_num, HN, HL, HF⟩
          case measure => simp [intOf]; omega
    · obtain rfl : n = l.length := by omega
      have hend : Ln.steps (s0.drop i) (s1.drop k) = [] := by rw [← HS.out]; simp [Ln.flat]
      have hie : i = len0 := by
        rcases Nat.lt_or_ge i len0 with h | h
        · have h0 : 0 < (s0.drop i).length := by rw [List.length_drop, L0.out]; omega
          have := Ln.steps_pos (s0.drop i) (s1.drop k) (by omega)
          rw [hend] at this; simp at this
        · omega
      have hke : k = len1 := by
        rcases Nat.lt_or_ge k len1 with h | h
        · have h0 : 0 < (s1.drop k).length := by rw [List.length_drop, L1.out]; omega
          have := Ln.steps_pos (s0.drop i) (s1.drop k) (by omega)
          rw [hend] at this; simp at this
        · omega
      have hb1 : ((i : Int) == (len0 : Int)) = true := by simp [hie]
      have hb2 : ((k : Int) == (len1 : Int)) = true := by simp [hke]
      clear hend hie hke HS HL
      go_wp2
      go_ret
      exact ⟨rfl, HF.out.bel⟩

set_option maxRecDepth 100000 in
theorem lifted (os : Os) (started : os.Started) (H : Type) (enc : TypeId × Value → H) :
    ReturnsInHanded {} Try.checked os 9 .any (Rows.linesFirstSpec.pre6 enc Try.prog Try.f9 Rows.linesFirstRow.domain false) (Rows.linesFirstSpec.post enc Try.prog Try.f9 false true false false) := by
  refine returnsInHanded_of_change_sized (C := Try.checked) own started (by kernel_rfl) Try.func9
    (ChangeSpec.witness6 (enc := enc) (C := Try.checked) false ⟨#[], #[.slice none 0 0, .slice none 0 0], []⟩ 8 (by kernel_rfl) (by kernel_rfl) (by kernel_rfl) (by kernel_rfl)) ?_
  intro W base args ds gs before hval0 hW _ hsz0 _
  have hsz : (DataW.weightsEach Try.prog (Try.f9.params.toList ++ Rows.linesFirstSpec.plain.varTypes Try.prog) (ds ++ gs)).all (· ≤ reachBytes) = true := hsz0
  clear hsz0
  have hval : ∀ (j : Nat) t v, Try.f9.params[j]? = some t → args[j]? = some v → Value.okWide Try.prog W .any base t v := hval0
  have hW' := hW
  obtain ⟨p, q, hA0, hV, rfl, _, _⟩ := hW
  have hA : DataW.TrodAll enc Try.prog W 0 (fun _ => true) true Try.f9.params.toList args.toList ds p := hA0
  rw [Try.params9] at hA hval hsz
  obtain ⟨v0, vs0, d0, ds0, p0, q0, hargs, rfl, rfl, h0, r0⟩ := trodAll_cons hA
  obtain ⟨v1, vs1, d1, ds1, p1, q1, rfl, rfl, rfl, h1, r1⟩ := trodAll_cons r0
  obtain ⟨rfl, rfl, rfl⟩ := trodAll_nil r1
  obtain rfl : args = #[v0, v1] := by cases args; simp_all
  obtain ⟨rfl, rfl⟩ := trodVars_none hV
  have k0 := h0
  have lt0 : ∀ x ∈ p0, x.block < W.heap.size := by obtain ⟨m, hm⟩ := k0; exact DataW.trod_lt m _ _ _ hm
  have k1 := h1
  have lt1 : ∀ x ∈ p1, x.block < W.heap.size := by obtain ⟨m, hm⟩ := k1; exact DataW.trod_lt m _ _ _ hm
  obtain ⟨a0, len0, cap0, rfl⟩ := okWide_slice Try.underlying22 (hval 0 22 v0 rfl rfl)
  obtain ⟨s0, w0⟩ := Fr.isStrs_of Try.underlying22 Try.underlying9 (by kernel_rfl) (by kernel_rfl) hsz (j := 0) rfl rfl h0
  obtain ⟨a1, len1, cap1, rfl⟩ := okWide_slice Try.underlying22 (hval 1 22 v1 rfl rfl)
  obtain ⟨s1, w1⟩ := Fr.isStrs_of Try.underlying22 Try.underlying9 (by kernel_rfl) (by kernel_rfl) hsz (j := 1) rfl rfl h1
  clear hA0 hval0
  simp only [List.append_nil] at hW'
  refine (walk W a0 len0 cap0 s0 w0 a1 len1 cap1 s1 w1).mono fun e W' ⟨he, bel⟩ => ?_
  subst he
  exact ⟨_, rfl, _, _, _, [], _, [], hW', trodAll_mk1 (shut_bool Try.underlying4 _), (trodAll_cons_mk (Below.trod laidOut (by kernel_rfl) (of_decide_eq_true (by kernel_rfl)) k0 bel lt0) (trodAll_cons_mk (Below.trod laidOut (by kernel_rfl) (of_decide_eq_true (by kernel_rfl)) k1 bel lt1) trodAll_mk0)), rfl, bel.frame _, fun h => by cases h⟩

theorem over : Rows.linesFirstRow.holds Try.pinned (OpenSpec.ofChange Rows.linesFirstSpec) :=
  OpenClaim.holds_of_wide 9 Try.f9 rfl rfl rfl rfl rfl rfl rfl ⟨rfl, rfl, rfl, rfl, rfl⟩ rfl rfl rfl rfl rfl (by kernel_rfl) Try.func9 (by kernel_rfl)
    (of_decide_eq_true (by kernel_rfl)) (by unfold Func.isWrapper; first | (rw [if_pos (by decide +kernel)]; kernel_rfl) | (rw [if_neg (by decide +kernel)]; exact ⟨rfl, rfl⟩))
    (fun os started H enc _ => lifted os started H enc)

/-- The statement. -/
theorem proved : Rows.LinesFirstSaid := over
#print axioms proved
end Go.Proofs.Ytfgmnfcakeenmaa.linesFirst
