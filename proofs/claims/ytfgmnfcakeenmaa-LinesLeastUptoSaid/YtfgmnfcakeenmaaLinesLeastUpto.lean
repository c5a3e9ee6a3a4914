/- LinesLeast: whatever the input of at most 1048576 values and letters, the law returns true, and each argument reads as it did before. The one condition is the form's own bound on the input's size. -/
import Derived.Test.YtfgmnfcakeenmaaRows
import Derived.WalkKit
import Derived.ProofKit
import Derived.OpenShut
import Derived.ShutString
import Derived.SizedLaws
import Derived.Below
import Derived.Deep.QuietTactic
import Derived.BigQuiet
import Derived.RegionTactic
import Derived.BigRegion
import Derived.Outline
import Derived.Deep.RegionLaw
import Derived.Deep.RegionWith
import Derived.Deep.RegionHeld3
import Derived.Deep.DeepCutAuto
import Derived.Deep.CutBlock
import Derived.Deep.LoopGhost
import Derived.Lib.Hide
import Derived.WalkSpells
import Derived.WalkLawsBesides
import Derived.Deep.CondSized
import Derived.JoinedCond
import Derived.Test.YtfgmnfcakeenmaaFrInts
import Derived.Test.YtfgmnfcakeenmaaFrStrs
import Derived.Test.YtfgmnfcakeenmaaLnLeast
import Derived.Test.YtfgmnfcakeenmaaLnWithin
namespace Go.Proofs.Ytfgmnfcakeenmaa.linesLeastUpto
open Go.ChangeShapes Go.WideShapes Go.ChangeAt Go.RowKit
open Go.ChangeMaps (open_string shut_string)
set_option linter.unusedVariables false

theorem own : ownKnob Try.prog.godebug = none := by kernel_rfl
theorem laidOut : laidOutB Try.prog = true := by kernel_rfl

/-- the lines while they are being changed -/
structure Ls (w wr : World) (A : Option Addr) (C : Nat) (s0 b : List ByteArray) (ch : Nat) : Prop where
  rd : Ln.Rd wr wr.heap.size A b.length C (Ln.sv b)
  mx : ∀ s ∈ b, s.size ≤ maxLen
  le : s0.length + b.length ≤ 2 * Ln.lcs s0 b + ch
  bel : Below w.heap.size w wr
theorem int_at {w : World} {a : Option Addr} {len cap : Nat} {zs : List Int} (h : Fr.IsInts .i64 8 w a len cap zs) (i : Nat) (hi : i < len) :
    ∃ b off, a = some ⟨b, off, none⟩ ∧ (∀ w', Below w.heap.size w w' → w'.cell? ⟨b, off + i, none⟩ = some (.int .i64 (zs.getD i 0))) ∧ -9223372036854775808 ≤ zs.getD i 0 ∧ zs.getD i 0 ≤ 9223372036854775807 := by
  rcases h with ⟨rfl, rfl, rfl, rfl⟩ | ⟨x, rfl, hl, hm, hz, hc, hw⟩
  · omega
  · obtain ⟨b, off, spot⟩ := x
    have hspot : spot = none := by simpa [Addr.add] using World.cell?_spot (hc 0 (by omega))
    subst hspot
    have e : ∀ k, Addr.add ⟨b, off, none⟩ k = (⟨b, off + k, none⟩ : Addr) := by intro k; simp [Addr.add]
    have h := hc i hi
    rw [e] at h
    have hg : zs.getD i 0 = zs[i] := by simp [List.getD, show i < zs.length by omega]
    refine ⟨b, off, rfl, fun w' hb => (hb.cell (p := ⟨b, off + i, none⟩) (block_lt_of_cell h)).trans h, ?_⟩
    exact Wi.wf_bounds (hw _ (by rw [hg]; exact List.getElem_mem _))
theorem ls_put {w wr W : World} {A A' : Option Addr} {C C' : Nat} {s0 b : List ByteArray} {ch : Nat} (h : Ls w wr A C s0 b ch) (k : Nat) (hk : k ≤ b.length) (v : ByteArray) (hv : v.size ≤ maxLen) (n : Nat) (hn : b.length = n) (hs : n ≤ 1000)
    (ho : W.ownsRow wr.heap.size 9 1 (.slice A' (n + 1) C') (n + 1) (Ln.sv (b.take k ++ v :: b.drop k))) (hb : Below wr.heap.size wr.drew W) : Ls w W A' C' s0 (b.take k ++ v :: b.drop k) (ch + 1) ∧ (b.take k ++ v :: b.drop k).length = n + 1 := by
  have hl : (b.take k ++ v :: b.drop k).length = n + 1 := by simp; omega
  refine ⟨⟨?_, ?_, ?_, h.bel.drew.trans (hb.mono h.bel.size)⟩, hl⟩
  · rw [hl]; exact (Ln.Rd.of_own ho (by omega)).1
  · intro s hs
    rcases List.mem_append.1 hs with hs | hs
    · exact h.mx s (List.mem_of_mem_take hs)
    · rcases List.mem_cons.1 hs with rfl | hs
      · exact hv
      · exact h.mx s (List.mem_of_mem_drop hs)
  · have h1 := (Ln.lcs_put v (b.drop k) (b.take k) s0).1
    rw [List.take_append_drop] at h1
    have := h.le
    omega
theorem ls_del {w wr W : World} {A A' : Option Addr} {C C' : Nat} {s0 b : List ByteArray} {ch : Nat} (h : Ls w wr A C s0 b ch) (k : Nat) (n : Nat) (hk : k < n) (hn : b.length = n) (hs : n ≤ 1000)
    (ho : W.ownsRow wr.heap.size 9 1 (.slice A' (n - 1) C') (n - 1) (Ln.sv (b.take k ++ b.drop (k + 1)))) (hb : Below wr.heap.size wr.drew W) : Ls w W A' C' s0 (b.take k ++ b.drop (k + 1)) (ch + 1) ∧ (b.take k ++ b.drop (k + 1)).length = n - 1 := by
  have hl : (b.take k ++ b.drop (k + 1)).length = n - 1 := by simp; omega
  refine ⟨⟨?_, ?_, ?_, h.bel.drew.trans (hb.mono h.bel.size)⟩, hl⟩
  · rw [hl]; exact (Ln.Rd.of_own ho (by omega)).1
  · intro s hs
    rcases List.mem_append.1 hs with hs | hs
    · exact h.mx s (List.mem_of_mem_take hs)
    · exact h.mx s (List.mem_of_mem_drop hs)
  · have hkl : k < b.length := by omega
    have h1 := (Ln.lcs_put b[k] (b.drop (k + 1)) (b.take k) s0).2
    rw [← List.drop_eq_getElem_cons hkl, List.take_append_drop] at h1
    have := h.le
    omega

set_option maxRecDepth 100000 in
set_option maxHeartbeats 6000000 in
theorem walk (w : World) (a0 : Option Addr) (len0 cap0 : Nat) (s0 : List ByteArray) (w0 : Fr.IsStrs w a0 len0 cap0 s0) (a1 : Option Addr) (len1 cap1 : Nat) (z1 : List Int) (w1 : Fr.IsInts .i64 8 w a1 len1 cap1 z1) (a2 : Option Addr) (len2 cap2 : Nat) (s2 : List ByteArray) (w2 : Fr.IsStrs w a2 len2 cap2 s2) :
    Calls Try.prog 7 #[.slice a0 len0 cap0, .slice a1 len1 cap1, .slice a2 len2 cap2] w fun e w' => e = .returned (.bool true) ∧ Below w.heap.size w w' := by
  obtain ⟨r0, q0⟩ := Ln.rd_of_strs w0
  obtain ⟨r2, q2⟩ := Ln.rd_of_strs w2
  have HK := Lib.hid (Ln.known_any w)
  have H0 := Lib.hid r0
  have H1 := Lib.hid w1
  have H2 := Lib.hid r2
  have Q0 := Lib.hid q0
  have Q2 := Lib.hid q2
  have M0 := Lib.hid (fun s hs => Nat.le_trans (q0 s hs) (show 140737488351232 ≤ maxLen by unfold maxLen; omega))
  have M2 := Lib.hid (fun s hs => Nat.le_trans (q2 s hs) (show 140737488351232 ≤ maxLen by unfold maxLen; omega))
  have L0 := Lib.hid (show s0.length = len0 by have := r0.hlen; simpa [Ln.sv] using this)
  have L2 := Lib.hid (show s2.length = len2 by have := r2.hlen; simpa [Ln.sv] using this)
  have c0 := r0.hcap
  have c2 := r2.hcap
  have g0 := r0.hbig
  have g2 := r2.hbig
  clear r0 r2 q0 q2 w0 w1 w2
  go_enter Try.func7, Try.ntmps7
  go_wp2_with fail
  refine HK.out.mono ?_
  rintro e w1 ⟨rfl, hb⟩
  have HB1 := Lib.hid hb
  have HF := Lib.hid (Ln.few_call _ a0 len0 cap0 s0 w1 (H0.out.below hb) Q0.out)
  clear hb HK
  go_wp2_with fail
  refine HF.out.mono ?_
  rintro e w2 ⟨f, rfl, hf, hb2⟩
  have HB2 := Lib.hid (HB1.out.trans (hb2.mono HB1.out.size))
  cases f
  · clear hf HF hb2
    go_wp2
    go_ret
    exact ⟨rfl, HB2.out⟩
  have hl0 := hf rfl
  have HF2 := Lib.hid (Ln.few_call _ a2 len2 cap2 s2 w2 (H2.out.below HB2.out) Q2.out)
  clear hf HF HB1 hb2
  go_wp2_with fail
  refine HF2.out.mono ?_
  rintro e w3 ⟨f, rfl, hf, hb3⟩
  have HB3 := Lib.hid (HB2.out.trans (hb3.mono HB2.out.size))
  cases f
  · clear hf HF2 hb3
    go_wp2
    go_ret
    exact ⟨rfl, HB3.out⟩
  have hl2 := hf rfl
  have hsz3 := HB3.out.size
  clear hf HF2 HB2 hb3
  have HX1 := Lib.hid ((Below.refl w3.heap.size w3).alloc (Nat.le_refl _) (.cells #[] 9))
  have HE1 := Lib.hid (Ln.own_empty w3 w3.heap.size (Nat.le_refl _))
  have HR0 := Lib.hid (H0.out.below (HB3.out.trans (HX1.out.mono hsz3)))
  go_wp2_with (at_builtin; refine Ln.wpList_append_strs _ rfl _ _ rfl w3.heap.size _ 0 [] rfl HE1.out _ a0 len0 cap0 s0 rfl HR0.out len0 (Nat.zero_add _) s0 rfl (by omega) HX1.out.size ?_)
  intro A4 C4 w4 ho4 hb4 hk4
  have hx4 := HX1.out.trans hb4
  have HB4 := Lib.hid (HB3.out.trans (hx4.mono hsz3))
  have HL : Hid (Ls w w4 A4 C4 s0 s0 0) := Lib.hid ⟨by have := (Ln.Rd.of_own ho4 (by omega)).1; rw [L0.out]; exact this, M0.out, by rw [Ln.lcs_self]; omega, HB4.out⟩
  clear ho4 hb4 hk4 HX1 HE1 HR0 hx4 HB4
  go_wp2
  go_loopw [7, 8, 9] (fun s7 s8 s9 wr => ∃ (A : Option Addr) (C : Nat) (b : List ByteArray) (n ch i : Nat), s7 = .slice A n C ∧ s8 = .int .i64 ch ∧ s9 = .int .i64 i ∧ i ≤ 8 ∧ i ≤ len1 ∧ ch ≤ i ∧ n ≤ len0 + i ∧ b.length = n ∧ Hid (Ls w wr A C s0 b ch)) (fun _ _ s9 _ => 8 - (intOf s9).toNat)
  case atStart => exact ⟨A4, C4, s0, len0, 0, 0, rfl, rfl, rfl, by omega, by omega, by omega, by omega, L0.out, HL⟩
  case round =>
    clear HL HB3 hsz3
    obtain ⟨A, C, b, n, ch, i, rfl, rfl, rfl, hi8, hi1, hch, hn, hbn, HL⟩ := hrel
    by_cases hlt : i < 8 ∧ i < len1
    · obtain ⟨hlt8, hlt1⟩ := hlt
      obtain ⟨b1, o1, rfl, hcz, hz1, hz2⟩ := int_at H1.out i hlt1
      have hcz1 := hcz _ HL.out.bel
      have HC1 := Lib.hid hcz
      have hrl := HL.out.rd.hcap
      have hrm := HL.out.rd.hmax
      generalize z1.getD i 0 = z at *
      have hzk : 0 ≤ z % ((n : Int) + 1) := Int.emod_nonneg _ (by omega)
      have hzk2 : z % ((n : Int) + 1) < (n : Int) + 1 := Int.emod_lt_of_pos _ (by omega)
      have HW := Lib.hid (fun W => Wi.within_any z ((n : Int) + 1) W (by omega) (by omega) hz1 hz2)
      obtain ⟨k, hk⟩ : ∃ k : Nat, z % ((n : Int) + 1) = (k : Int) := ⟨(z % ((n : Int) + 1)).toNat, by omega⟩
      rw [hk] at HW hzk2
      have hkn : k ≤ n := by omega
      clear hcz hzk hzk2 hz1 hz2 hk
      by_cases hput : i < len2 ∧ z.tmod 2 = 0
      · obtain ⟨hput1, hput2⟩ := hput
        have hz0 : (z.tmod 2 == 0) = true := by simp [hput2]
        clear hput2
        go_wp2_with fail
        refine (HW.out _).mono ?_
        rintro e wx ⟨rfl, rfl⟩
        clear HW
        go_wp2
        go_upto_region 13 with (fail)
        obtain ⟨b2, o2, rfl, hb2, hcs⟩ := H2.out.str i hput1
        have hvm : (s2.getD i ByteArray.empty).size ≤ maxLen := by
          have hi : i < s2.length := by rw [L2.out]; exact hput1
          have e : s2.getD i ByteArray.empty = s2[i] := by simp [List.getD, hi]
          rw [e]; exact M2.out _ (List.getElem_mem _)
        generalize s2.getD i ByteArray.empty = v at *
        have HS := Lib.hid (fun (W : World) (hW : Below wr.heap.size wr.drew W) => (show W.cell? ⟨b2, o2 + i, none⟩ = some (.string v) from
          ((HL.out.bel.drew.trans (hW.mono HL.out.bel.size)).cell (p := ⟨b2, o2 + i, none⟩) hb2).trans hcs))
        have hRD := HL.out.rd.drewN 1
        rw [hbn] at hRD
        have HRT := Lib.hid (fun (W : World) (hW : Below wr.heap.size wr.drew W) => (show Ln.Rd W wr.heap.size A k C (Ln.sv (b.take k)) from by
          have := (Ln.Rd.below hRD hW).take k hkn
          rw [show (Ln.sv b).take k = Ln.sv (b.take k) from by simp [Ln.sv]] at this
          exact this))
        obtain ⟨AD, hAD⟩ : ∃ AD, (if C = k then A else Option.map (fun x => x.add k) A) = AD := ⟨_, rfl⟩
        have HRC := Lib.hid (fun (W : World) (hW : Below wr.heap.size wr.drew W) => (show Ln.Rd W wr.heap.size AD (n - k) (C - k) (Ln.sv (b.drop k)) from by
          have := (Ln.Rd.below hRD hW).cut k hkn
          rw [show (Ln.sv b).drop k = Ln.sv (b.drop k) from by simp [Ln.sv], hAD] at this
          exact this))
        have HBq := Lib.hid (show Below wr.heap.size wr.drew wr.drew from Below.refl _ _)
        have hcq := HS.out _ HBq.out
        have hkC : k ≤ C := by omega
        have hb1 : k * 16 ≤ 140737488355328 := by omega
        have hb2' : (k + 1) * 16 ≤ 140737488355328 := by omega
        have hb3 : (n + 1) * 16 ≤ 140737488355328 := by omega
        have hkn1 : k + 1 + (n - k) = n + 1 := by omega
        have HBqa := Lib.hid (show Below wr.heap.size wr.drew (wr.drew.alloc (.cells #[.string v] 9)) from HBq.out.alloc HBq.out.size _)
        have hsqa : wr.heap.size + 1 ≤ (wr.drew.alloc (.cells #[.string v] 9)).heap.size := by rw [Ln.size_alloc]; exact Nat.le_refl _
        clear hRD hcs
        go_cut [11] (fun s11 wx => ∃ A' C', s11 = .slice A' (n + 1) C' ∧ Hid (wx.ownsRow wr.heap.size 9 1 (.slice A' (n + 1) C') (n + 1) (Ln.sv (b.take k ++ v :: b.drop k))) ∧ Hid (Below wr.heap.size wr.drew wx))
        case first =>
          clear HL HC1 hcz1
          go_region_held3 (fun wS => wS.cell? ⟨b2, o2 + i, none⟩ = some (.string v)) (first | exact HS.out _ HB7.out | exact HS.out _ HB6.out | exact HS.out _ (HB5.out.alloc HB5.out.size _) | exact HS.out _ HB5.out | exact HS.out _ HBqa.out | exact HS.out _ HBq.out) (first
            | (refine Ln.step_append_strs _ rfl (.tmp 62) (.tmp 65) rfl wr.heap.size (.slice none 0 0) 0 [] rfl (Ln.own_nil _ _) wr.heap.size A k C (b.take k) rfl (HRT.out _ HBq.out) k (Nat.zero_add _) (b.take k) rfl hb1 HBq.out.size ?_
               intro A5 C5 W5 ho5 hb5 hk5
               have HO5 := Lib.hid ho5
               have HB5 : Hid (Below wr.heap.size wr.drew W5) := Lib.hid hb5
               clear ho5 hb5 hk5)
            | (refine Ln.step_append_strs _ rfl (.tmp 62) (.tmp 65) rfl (wr.heap.size + 1) (.slice none 0 0) 0 [] rfl (Ln.own_nil _ _) wr.heap.size A k C (b.take k) rfl (HRT.out _ HBqa.out) k (Nat.zero_add _) (b.take k) rfl hb1 hsqa ?_
               intro A5 C5 W5 ho5 hb5 hk5
               have HO5b := Lib.hid ho5
               have HB5 : Hid (Below wr.heap.size wr.drew W5) := Lib.hid (HBqa.out.trans (hb5.mono (Nat.le_succ _)))
               have HB5b : Hid (Below (wr.heap.size + 1) (wr.drew.alloc (.cells #[.string v] 9)) W5) := Lib.hid hb5
               clear ho5 hb5 hk5)
            | (refine Ln.step_append_strs _ rfl (.tmp 66) (.tmp 71) rfl (wr.heap.size + 1) (.slice A5 k C5) k (b.take k) rfl HO5b.out (wr.heap.size + 1) (some ⟨wr.heap.size, 0, none⟩) 1 1 [v] rfl ((Ln.lit_rd wr.drew v).below HB5b.out) (k + 1) rfl (b.take k ++ [v]) rfl hb2' (Nat.le_trans hsqa HB5b.out.size) ?_
               intro A6 C6 W6 ho6 hb6 hk6
               have HO6 := Lib.hid (Ln.own_base ho6 (Nat.le_succ _))
               have HB6 : Hid (Below wr.heap.size wr.drew W6) := Lib.hid (HB5.out.trans (hb6.mono (Nat.le_succ _)))
               clear ho6 hb6 hk6)
            | (refine Ln.step_append_strs _ rfl (.tmp 66) (.tmp 71) rfl wr.heap.size (.slice A5 k C5) k (b.take k) rfl (Ln.own_keep HO5.out ((Below.refl _ _).alloc (Nat.le_refl _) _)) (W5.heap.size + 1) (some ⟨W5.heap.size, 0, none⟩) 1 1 [v] rfl (Ln.lit_rd W5 v) (k + 1) rfl (b.take k ++ [v]) rfl hb2' ((HB5.out.alloc HB5.out.size _).size) ?_
               intro A6 C6 W6 ho6 hb6 hk6
               have HO6 := Lib.hid ho6
               have HB6 : Hid (Below wr.heap.size wr.drew W6) := Lib.hid ((HB5.out.alloc HB5.out.size _).trans hb6)
               clear ho6 hb6 hk6)
            | (refine Ln.step_append_strs _ rfl (.tmp 72) (.tmp 75) rfl wr.heap.size (.slice A6 (k + 1) C6) (k + 1) (b.take k ++ [v]) rfl HO6.out wr.heap.size AD (n - k) (C - k) (b.drop k) rfl (HRC.out _ HB6.out) (n + 1) hkn1 (b.take k ++ v :: b.drop k) (by simp) hb3 HB6.out.size ?_
               intro A7 C7 W7 ho7 hb7 hk7
               have HO7 := Lib.hid ho7
               have HB7 : Hid (Below wr.heap.size wr.drew W7) := Lib.hid (HB6.out.trans hb7)
               clear ho7 hb7 hk7))
          all_goals (go_wp2_with fail; go_meet)
          all_goals exact ⟨_, _, rfl, HO7, HB7⟩
        case rest =>
          obtain ⟨A', C', rfl, HO7, HB7⟩ := hcut
          obtain ⟨hL9, hl9⟩ := ls_put HL.out k (by omega) v hvm n hbn (by omega) HO7.out HB7.out
          have HN := Lib.hid hL9
          clear HS HRT HRC HBq HBqa hcq hAD hL9 HO7 HB7 hcz1 HL HC1
          go_wp2
          go_roundw
          case rel => exact ⟨A', C', b.take k ++ v :: b.drop k, n + 1, ch + 1, i + 1, rfl, by go_num, by go_num, by omega, by omega, by omega, by omega, hl9, HN⟩
          case measure => simp [intOf]; omega
      by_cases hp : i < len2
      · have hz0 : (z.tmod 2 == 0) = false := by
          cases e : (z.tmod 2 == 0)
          · rfl
          · exact absurd ⟨hp, by simpa using e⟩ hput
        clear hput
        by_cases hkd : k < n
        · go_wp2_with fail
          refine (HW.out _).mono ?_
          rintro e wx ⟨rfl, rfl⟩
          clear HW
          go_wp2
          go_upto_region 18 with (fail)
          have hRD := HL.out.rd.drewN 1
          rw [hbn] at hRD
          have HRT := Lib.hid (fun (W : World) (hW : Below wr.heap.size wr.drew W) => (show Ln.Rd W wr.heap.size A k C (Ln.sv (b.take k)) from by
            have := (Ln.Rd.below hRD hW).take k hkn
            rw [show (Ln.sv b).take k = Ln.sv (b.take k) from by simp [Ln.sv]] at this
            exact this))
          obtain ⟨AD, hAD⟩ : ∃ AD, (if C = k + 1 then A else Option.map (fun x => x.add (k + 1)) A) = AD := ⟨_, rfl⟩
          have hAD2 : (if C = k + 1 then A else Option.map (fun x => { block := x.block, off := x.off + (k + 1) }) A) = AD := hAD
          have HRC := Lib.hid (fun (W : World) (hW : Below wr.heap.size wr.drew W) => (show Ln.Rd W wr.heap.size AD (n - (k + 1)) (C - (k + 1)) (Ln.sv (b.drop (k + 1))) from by
            have := (Ln.Rd.below hRD hW).cut (k + 1) hkd
            rw [show (Ln.sv b).drop (k + 1) = Ln.sv (b.drop (k + 1)) from by simp [Ln.sv], hAD] at this
            exact this))
          have HBq := Lib.hid (show Below wr.heap.size wr.drew wr.drew from Below.refl _ _)
          have hkC : k ≤ C := by omega
          have hb1 : k * 16 ≤ 140737488355328 := by omega
          have hb3 : (n - 1) * 16 ≤ 140737488355328 := by omega
          have hkn1 : k + (n - (k + 1)) = n - 1 := by omega
          have hs1 : (0 : Int) ≤ (k : Int) + 1 := by omega
          have hs2 : (k : Int) + 1 ≤ (n : Int) := by omega
          have hs3 : ((k : Int) + 1).toNat = k + 1 := by omega
          have hs4 : (k : Int) + 1 ≤ (C : Int) := by omega
          have hw1 : IntKind.i64.wrap ((k : Int) + 1) = (k : Int) + 1 := IntWalk.i64_in _ (by omega)
          clear hRD
          go_cut [12] (fun s12 wx => ∃ A' C', s12 = .slice A' (n - 1) C' ∧ Hid (wx.ownsRow wr.heap.size 9 1 (.slice A' (n - 1) C') (n - 1) (Ln.sv (b.take k ++ b.drop (k + 1)))) ∧ Hid (Below wr.heap.size wr.drew wx))
          case first =>
            clear HL HC1 hcz1
            go_region_held3 (fun _ => True) (trivial) (first
              | (refine Ln.step_append_strs _ rfl (.tmp 84) (.tmp 87) rfl wr.heap.size (.slice none 0 0) 0 [] rfl (Ln.own_nil _ _) wr.heap.size A k C (b.take k) rfl (HRT.out _ HBq.out) k (Nat.zero_add _) (b.take k) rfl hb1 HBq.out.size ?_
                 intro A5 C5 W5 ho5 hb5 hk5
                 have HO5 := Lib.hid ho5
                 have HB5 : Hid (Below wr.heap.size wr.drew W5) := Lib.hid hb5
                 clear ho5 hb5 hk5)
              | (refine Ln.step_append_strs _ rfl (.tmp 88) (.tmp 92) rfl wr.heap.size (.slice A5 k C5) k (b.take k) rfl HO5.out wr.heap.size AD (n - (k + 1)) (C - (k + 1)) (b.drop (k + 1)) (by first | rfl | (show Go.Value.slice _ _ _ = _; rw [← hAD]; rfl)) (HRC.out _ HB5.out) (n - 1) hkn1 (b.take k ++ b.drop (k + 1)) rfl hb3 HB5.out.size ?_
                 intro A7 C7 W7 ho7 hb7 hk7
                 have HO7 := Lib.hid ho7
                 have HB7 : Hid (Below wr.heap.size wr.drew W7) := Lib.hid (HB5.out.trans hb7)
                 clear ho7 hb7 hk7))
            all_goals (go_wp2_with fail; go_meet)
            all_goals exact ⟨_, _, rfl, HO7, HB7⟩
          case rest =>
            obtain ⟨A', C', rfl, HO7, HB7⟩ := hcut
            obtain ⟨hL9, hl9⟩ := ls_del HL.out k n hkd hbn (by omega) HO7.out HB7.out
            have HN := Lib.hid hL9
            clear HRT HRC HBq hAD hAD2 hL9 HO7 HB7 hcz1 HL HC1 hw1 hs1 hs2 hs3 hs4
            go_wp2
            go_roundw
            case rel => exact ⟨A', C', b.take k ++ b.drop (k + 1), n - 1, ch + 1, i + 1, rfl, by go_num, by go_num, by omega, by omega, by omega, by omega, hl9, HN⟩
            case measure => simp [intOf]; omega
        · have hkd2 : decide ((k : Int) < (n : Int)) = false := by simp; omega
          go_wp2_with fail
          refine (HW.out _).mono ?_
          rintro e wx ⟨rfl, rfl⟩
          clear HW
          go_wp2
          go_roundw
          case rel => exact ⟨A, C, b, n, ch, i + 1, rfl, rfl, by go_num, by omega, by omega, by omega, by omega, hbn, HL⟩
          case measure => simp [intOf]; omega
      · have hpd : decide ((i : Int) < (len2 : Int)) = false := by simp; omega
        clear hput
        by_cases hkd : k < n
        · go_wp2_with fail
          refine (HW.out _).mono ?_
          rintro e wx ⟨rfl, rfl⟩
          clear HW
          go_wp2
          go_upto_region 18 with (fail)
          have hRD := HL.out.rd.drewN 1
          rw [hbn] at hRD
          have HRT := Lib.hid (fun (W : World) (hW : Below wr.heap.size wr.drew W) => (show Ln.Rd W wr.heap.size A k C (Ln.sv (b.take k)) from by
            have := (Ln.Rd.below hRD hW).take k hkn
            rw [show (Ln.sv b).take k = Ln.sv (b.take k) from by simp [Ln.sv]] at this
            exact this))
          obtain ⟨AD, hAD⟩ : ∃ AD, (if C = k + 1 then A else Option.map (fun x => x.add (k + 1)) A) = AD := ⟨_, rfl⟩
          have hAD2 : (if C = k + 1 then A else Option.map (fun x => { block := x.block, off := x.off + (k + 1) }) A) = AD := hAD
          have HRC := Lib.hid (fun (W : World) (hW : Below wr.heap.size wr.drew W) => (show Ln.Rd W wr.heap.size AD (n - (k + 1)) (C - (k + 1)) (Ln.sv (b.drop (k + 1))) from by
            have := (Ln.Rd.below hRD hW).cut (k + 1) hkd
            rw [show (Ln.sv b).drop (k + 1) = Ln.sv (b.drop (k + 1)) from by simp [Ln.sv], hAD] at this
            exact this))
          have HBq := Lib.hid (show Below wr.heap.size wr.drew wr.drew from Below.refl _ _)
          have hkC : k ≤ C := by omega
          have hb1 : k * 16 ≤ 140737488355328 := by omega
          have hb3 : (n - 1) * 16 ≤ 140737488355328 := by omega
          have hkn1 : k + (n - (k + 1)) = n - 1 := by omega
          have hs1 : (0 : Int) ≤ (k : Int) + 1 := by omega
          have hs2 : (k : Int) + 1 ≤ (n : Int) := by omega
          have hs3 : ((k : Int) + 1).toNat = k + 1 := by omega
          have hs4 : (k : Int) + 1 ≤ (C : Int) := by omega
          have hw1 : IntKind.i64.wrap ((k : Int) + 1) = (k : Int) + 1 := IntWalk.i64_in _ (by omega)
          clear hRD
          go_cut [12] (fun s12 wx => ∃ A' C', s12 = .slice A' (n - 1) C' ∧ Hid (wx.ownsRow wr.heap.size 9 1 (.slice A' (n - 1) C') (n - 1) (Ln.sv (b.take k ++ b.drop (k + 1)))) ∧ Hid (Below wr.heap.size wr.drew wx))
          case first =>
            clear HL HC1 hcz1
            go_region_held3 (fun _ => True) (trivial) (first
              | (refine Ln.step_append_strs _ rfl (.tmp 84) (.tmp 87) rfl wr.heap.size (.slice none 0 0) 0 [] rfl (Ln.own_nil _ _) wr.heap.size A k C (b.take k) rfl (HRT.out _ HBq.out) k (Nat.zero_add _) (b.take k) rfl hb1 HBq.out.size ?_
                 intro A5 C5 W5 ho5 hb5 hk5
                 have HO5 := Lib.hid ho5
                 have HB5 : Hid (Below wr.heap.size wr.drew W5) := Lib.hid hb5
                 clear ho5 hb5 hk5)
              | (refine Ln.step_append_strs _ rfl (.tmp 88) (.tmp 92) rfl wr.heap.size (.slice A5 k C5) k (b.take k) rfl HO5.out wr.heap.size AD (n - (k + 1)) (C - (k + 1)) (b.drop (k + 1)) (by first | rfl | (show Go.Value.slice _ _ _ = _; rw [← hAD]; rfl)) (HRC.out _ HB5.out) (n - 1) hkn1 (b.take k ++ b.drop (k + 1)) rfl hb3 HB5.out.size ?_
                 intro A7 C7 W7 ho7 hb7 hk7
                 have HO7 := Lib.hid ho7
                 have HB7 : Hid (Below wr.heap.size wr.drew W7) := Lib.hid (HB5.out.trans hb7)
                 clear ho7 hb7 hk7))
            all_goals (go_wp2_with fail; go_meet)
            all_goals exact ⟨_, _, rfl, HO7, HB7⟩
          case rest =>
            obtain ⟨A', C', rfl, HO7, HB7⟩ := hcut
            obtain ⟨hL9, hl9⟩ := ls_del HL.out k n hkd hbn (by omega) HO7.out HB7.out
            have HN := Lib.hid hL9
            clear HRT HRC HBq hAD hAD2 hL9 HO7 HB7 hcz1 HL HC1 hw1 hs1 hs2 hs3 hs4
            go_wp2
            go_roundw
            case rel => exact ⟨A', C', b.take k ++ b.drop (k + 1), n - 1, ch + 1, i + 1, rfl, by go_num, by go_num, by omega, by omega, by omega, by omega, hl9, HN⟩
            case measure => simp [intOf]; omega
        · have hkd2 : decide ((k : Int) < (n : Int)) = false := by simp; omega
          go_wp2_with fail
          refine (HW.out _).mono ?_
          rintro e wx ⟨rfl, rfl⟩
          clear HW
          go_wp2
          go_roundw
          case rel => exact ⟨A, C, b, n, ch, i + 1, rfl, rfl, by go_num, by omega, by omega, by omega, by omega, hbn, HL⟩
          case measure => simp [intOf]; omega
    · by_cases h8 : i < len1
      · have hd8 : decide ((i : Int) < 8) = false := by simp; omega
        have hn127 : n ≤ 127 := by omega
        have HB := Lib.hid HL.out.bel
        have hsz := HB.out.size
        have hle := HL.out.le
        rw [hbn, L0.out] at hle
        have hnk := Ln.nk_scr s0 b
        have htl := Ln.tot_lcs s0 b
        have hln := Ln.scr_len s0 b
        rw [hbn, L0.out] at hnk htl hln
        have HD := Lib.hid (Ln.diff_any a0 len0 cap0 s0 A n C b wr ((H0.out.below HB.out).more hsz) (by have := HL.out.rd; rw [hbn] at this; exact this) M0.out HL.out.mx (by omega) (by omega))
        clear HL
        go_wp2_with fail
        refine HD.out.mono ?_
        rintro e w5 ⟨v5, rfl, ho5, ht5, hb5⟩
        obtain ⟨A5, N5, C5, rfl⟩ := Ln.own_slice ho5
        obtain rfl := Ln.own_N ho5
        have hsl : (Ln.scr s0 b).length ≤ 300 := by omega
        have hkn : Ln.nk (Ln.scr s0 b) ≤ ch := by omega
        have HO5 := Lib.hid ho5
        have HB5 := Lib.hid (HB.out.trans (hb5.mono hsz))
        have hsz5 := HB5.out.size
        have HD2 := Lib.hid (Ln.diff_any a0 len0 cap0 s0 a0 len0 cap0 s0 w5 ((H0.out.below HB5.out).more hsz5) ((H0.out.below HB5.out).more hsz5) M0.out M0.out (by omega) (by omega))
        generalize Ln.scr s0 b = l at *
        clear ho5 ht5 hb5 hnk htl hln hle HD HB
        go_wp2_with fail
        refine HD2.out.mono ?_
        rintro e w6 ⟨v6, rfl, ho6, ht6, hb6⟩
        obtain ⟨A6, N6, C6, rfl⟩ := Ln.own_slice ho6
        obtain rfl := Ln.own_N ho6
        have HB6 := Lib.hid (HB5.out.trans (hb6.mono hsz5))
        have HO56 := Lib.hid (Ln.own_keep HO5.out hb6)
        have hkc : Ln.kc (Ln.scr s0 s0) = len0 := by rw [Ln.kc_scr, Ln.lcs_self, L0.out]
        have hl2b : (Ln.scr s0 s0).length ≤ 1 := by rw [Ln.scr_self]; split <;> simp
        have HL2 := Lib.hid (show (Ln.scr s0 s0).length = if len0 = 0 then 0 else 1 by rw [Ln.scr_self, L0.out]; split <;> rfl)
        have htt : Ln.tot (Ln.scr s0 s0) ≤ 300 := by have := Ln.tot_lcs s0 s0; rw [L0.out] at this; omega
        have HKE := Lib.hid (Ln.kept_any _ A6 C6 _ w6 ho6 (by omega) (by omega))
        rw [hkc] at HKE
        generalize Ln.scr s0 s0 = l2 at *
        clear ho6 ht6 hb6 HD2 HO5 hkc htt
        have hC5 := (Ln.own_edit_len HO56.out).2
        unfold maxLen at hC5
        go_wp2
        go_loopw [17, 18] (fun s17 s18 wx => ∃ k m : Nat, k ≤ l.length ∧ s18 = .int .i64 k ∧ s17 = .int .i64 m ∧ m ≤ 1000 ∧ Hid (m = Ln.nk (l.take k)) ∧ wx = w6) (fun _ s18 _ => l.length - (intOf s18).toNat)
        case atStart => exact ⟨0, 0, Nat.zero_le _, rfl, rfl, by omega, Lib.hid (by simp [Ln.nk, Ln.tot, Ln.kc]), rfl⟩
        case round =>
          obtain ⟨k, m, hk, rfl, rfl, hm, HM, rfl⟩ := hrel
          by_cases hlt : k < l.length
          · obtain ⟨g, rfl, a1, a2⟩ := Ln.own_edit HO56.out k hlt
            have hs := Ln.nk_take l k hlt
            have hle := Ln.nk_take_le l (k + 1)
            rw [← HM.out] at hs
            generalize l[k].1 = x at a1 hs
            generalize l[k].2 = y at a2 hs
            by_cases hx : x = 0
            · rw [if_pos hx] at hs
              have hx' : ((x : Int) == 0) = true := by simp [hx]
              have HN := Lib.hid hs.symm
              clear hs hx HKE
              go_wp2
              go_roundw
              case rel => exact ⟨k + 1, m, by omega, by go_num, rfl, by omega, HN, trivial⟩
              case measure => simp [intOf]; omega
            · rw [if_neg hx] at hs
              have hx' : ((x : Int) == 0) = false := by simp [hx]
              have HN := Lib.hid hs.symm
              have hmy : m + y ≤ 1000 := by omega
              clear hs hx HKE
              go_wp2
              go_roundw
              case rel => exact ⟨k + 1, m + y, by omega, by go_num, by go_num, by omega, HN, trivial⟩
              case measure => simp [intOf]; omega
          · have hmc : m ≤ ch := by rw [HM.out, List.take_of_length_le (by omega)]; exact hkn
            have hdm : decide ((m : Int) ≤ (ch : Int)) = true := by simp; omega
            by_cases hz : len0 = 0
            · have e2 : l2.length = 0 := by rw [HL2.out, if_pos hz]
              have hz1 : decide ((1 : Int) ≤ (len0 : Int)) = false := by simp; omega
              have hz2 : ¬ (1 : Int) ≤ (len0 : Int) := by omega
              rw [e2] at HKE
              clear HL2 hl2b
              go_wp2_with fail
              refine HKE.out.mono ?_
              rintro e w7 ⟨rfl, rfl⟩
              go_wp2
              go_ret
              exact ⟨by simp, HB6.out⟩
            · have e2 : l2.length = 1 := by rw [HL2.out, if_neg hz]
              have hz1 : decide ((1 : Int) ≤ (len0 : Int)) = true := by simp; omega
              have hz2 : (1 : Int) ≤ (len0 : Int) := by omega
              rw [e2] at HKE
              clear HL2 hl2b
              go_wp2_with fail
              refine HKE.out.mono ?_
              rintro e w7 ⟨rfl, rfl⟩
              go_wp2
              go_ret
              exact ⟨by simp, HB6.out⟩
      · have hd1 : decide ((i : Int) < (len1 : Int)) = false := by simp; omega
        have hn127 : n ≤ 127 := by omega
        have HB := Lib.hid HL.out.bel
        have hsz := HB.out.size
        have hle := HL.out.le
        rw [hbn, L0.out] at hle
        have hnk := Ln.nk_scr s0 b
        have htl := Ln.tot_lcs s0 b
        have hln := Ln.scr_len s0 b
        rw [hbn, L0.out] at hnk htl hln
        have HD := Lib.hid (Ln.diff_any a0 len0 cap0 s0 A n C b wr ((H0.out.below HB.out).more hsz) (by have := HL.out.rd; rw [hbn] at this; exact this) M0.out HL.out.mx (by omega) (by omega))
        clear HL
        go_wp2_with fail
        refine HD.out.mono ?_
        rintro e w5 ⟨v5, rfl, ho5, ht5, hb5⟩
        obtain ⟨A5, N5, C5, rfl⟩ := Ln.own_slice ho5
        obtain rfl := Ln.own_N ho5
        have hsl : (Ln.scr s0 b).length ≤ 300 := by omega
        have hkn : Ln.nk (Ln.scr s0 b) ≤ ch := by omega
        have HO5 := Lib.hid ho5
        have HB5 := Lib.hid (HB.out.trans (hb5.mono hsz))
        have hsz5 := HB5.out.size
        have HD2 := Lib.hid (Ln.diff_any a0 len0 cap0 s0 a0 len0 cap0 s0 w5 ((H0.out.below HB5.out).more hsz5) ((H0.out.below HB5.out).more hsz5) M0.out M0.out (by omega) (by omega))
        generalize Ln.scr s0 b = l at *
        clear ho5 ht5 hb5 hnk htl hln hle HD HB
        go_wp2_with fail
        refine HD2.out.mono ?_
        rintro e w6 ⟨v6, rfl, ho6, ht6, hb6⟩
        obtain ⟨A6, N6, C6, rfl⟩ := Ln.own_slice ho6
        obtain rfl := Ln.own_N ho6
        have HB6 := Lib.hid (HB5.out.trans (hb6.mono hsz5))
        have HO56 := Lib.hid (Ln.own_keep HO5.out hb6)
        have hkc : Ln.kc (Ln.scr s0 s0) = len0 := by rw [Ln.kc_scr, Ln.lcs_self, L0.out]
        have hl2b : (Ln.scr s0 s0).length ≤ 1 := by rw [Ln.scr_self]; split <;> simp
        have HL2 := Lib.hid (show (Ln.scr s0 s0).length = if len0 = 0 then 0 else 1 by rw [Ln.scr_self, L0.out]; split <;> rfl)
        have htt : Ln.tot (Ln.scr s0 s0) ≤ 300 := by have := Ln.tot_lcs s0 s0; rw [L0.out] at this; omega
        have HKE := Lib.hid (Ln.kept_any _ A6 C6 _ w6 ho6 (by omega) (by omega))
        rw [hkc] at HKE
        generalize Ln.scr s0 s0 = l2 at *
        clear ho6 ht6 hb6 HD2 HO5 hkc htt
        have hC5 := (Ln.own_edit_len HO56.out).2
        unfold maxLen at hC5
        go_wp2
        go_loopw [17, 18] (fun s17 s18 wx => ∃ k m : Nat, k ≤ l.length ∧ s18 = .int .i64 k ∧ s17 = .int .i64 m ∧ m ≤ 1000 ∧ Hid (m = Ln.nk (l.take k)) ∧ wx = w6) (fun _ s18 _ => l.length - (intOf s18).toNat)
        case atStart => exact ⟨0, 0, Nat.zero_le _, rfl, rfl, by omega, Lib.hid (by simp [Ln.nk, Ln.tot, Ln.kc]), rfl⟩
        case round =>
          obtain ⟨k, m, hk, rfl, rfl, hm, HM, rfl⟩ := hrel
          by_cases hlt : k < l.length
          · obtain ⟨g, rfl, a1, a2⟩ := Ln.own_edit HO56.out k hlt
            have hs := Ln.nk_take l k hlt
            have hle := Ln.nk_take_le l (k + 1)
            rw [← HM.out] at hs
            generalize l[k].1 = x at a1 hs
            generalize l[k].2 = y at a2 hs
            by_cases hx : x = 0
            · rw [if_pos hx] at hs
              have hx' : ((x : Int) == 0) = true := by simp [hx]
              have HN := Lib.hid hs.symm
              clear hs hx HKE
              go_wp2
              go_roundw
              case rel => exact ⟨k + 1, m, by omega, by go_num, rfl, by omega, HN, trivial⟩
              case measure => simp [intOf]; omega
            · rw [if_neg hx] at hs
              have hx' : ((x : Int) == 0) = false := by simp [hx]
              have HN := Lib.hid hs.symm
              have hmy : m + y ≤ 1000 := by omega
              clear hs hx HKE
              go_wp2
              go_roundw
              case rel => exact ⟨k + 1, m + y, by omega, by go_num, by go_num, by omega, HN, trivial⟩
              case measure => simp [intOf]; omega
          · have hmc : m ≤ ch := by rw [HM.out, List.take_of_length_le (by omega)]; exact hkn
            have hdm : decide ((m : Int) ≤ (ch : Int)) = true := by simp; omega
            by_cases hz : len0 = 0
            · have e2 : l2.length = 0 := by rw [HL2.out, if_pos hz]
              have hz1 : decide ((1 : Int) ≤ (len0 : Int)) = false := by simp; omega
              have hz2 : ¬ (1 : Int) ≤ (len0 : Int) := by omega
              rw [e2] at HKE
              clear HL2 hl2b
              go_wp2_with fail
              refine HKE.out.mono ?_
              rintro e w7 ⟨rfl, rfl⟩
              go_wp2
              go_ret
              exact ⟨by simp, HB6.out⟩
            · have e2 : l2.length = 1 := by rw [HL2.out, if_neg hz]
              have hz1 : decide ((1 : Int) ≤ (len0 : Int)) = true := by simp; omega
              have hz2 : (1 : Int) ≤ (len0 : Int) := by omega
              rw [e2] at HKE
              clear HL2 hl2b
              go_wp2_with fail
              refine HKE.out.mono ?_
              rintro e w7 ⟨rfl, rfl⟩
              go_wp2
              go_ret
              exact ⟨by simp, HB6.out⟩

set_option maxRecDepth 100000 in
theorem lifted (os : Os) (started : os.Started) (H : Type) (enc : TypeId × Value → H) (F : Stop.Interp) :
    ReturnsInHanded {} Try.checked os 7 .any ((Rows.OpenSpec.upto Rows.linesLeastSpec).pre6 enc Try.prog Try.f7 Rows.linesLeastUptoRow.domain false) (((Rows.OpenSpec.upto Rows.linesLeastSpec).at F).post enc Try.prog Try.f7 false true false false) := by
  refine returnsInHanded_of_cond_sized (C := Try.checked) (s := (Rows.OpenSpec.upto Rows.linesLeastSpec)) (k := Rows.uptoSmall) rfl own started (by kernel_rfl) Try.func7
    (OpenSpec.witness (enc := enc) (C := Try.checked) (s := (Rows.OpenSpec.upto Rows.linesLeastSpec)) (k := Rows.uptoSmall) rfl false ⟨#[], #[.slice none 0 0, .slice none 0 0, .slice none 0 0], []⟩ 8 (by kernel_rfl) (by kernel_rfl) (by kernel_rfl)
      (x := ([.nil, .nil, .nil], [], [])) (by kernel_rfl) rfl (by kernel_rfl)) ?_
  intro W base args ds gs before hval0 hW _ hk0 hsz0 _
  have hsz : (DataW.weightsEach Try.prog (Try.f7.params.toList ++ (Rows.OpenSpec.upto Rows.linesLeastSpec).bare.plain.varTypes Try.prog) (ds ++ gs)).all (· ≤ reachBytes) = true := hsz0
  clear hsz0
  have hval : ∀ (j : Nat) t v, Try.f7.params[j]? = some t → args[j]? = some v → Value.okWide Try.prog W .any base t v := hval0
  have hW' := hW
  obtain ⟨p, q, hA0, hV, rfl, _, _⟩ := hW
  have hA : DataW.TrodAll enc Try.prog W 0 (fun _ => true) true Try.f7.params.toList args.toList ds p := hA0
  rw [Try.params7] at hA hval hsz
  obtain ⟨v0, vs0, d0, ds0, p0, q0, hargs, rfl, rfl, h0, r0⟩ := trodAll_cons hA
  obtain ⟨v1, vs1, d1, ds1, p1, q1, rfl, rfl, rfl, h1, r1⟩ := trodAll_cons r0
  obtain ⟨v2, vs2, d2, ds2, p2, q2, rfl, rfl, rfl, h2, r2⟩ := trodAll_cons r1
  obtain ⟨rfl, rfl, rfl⟩ := trodAll_nil r2
  obtain rfl : args = #[v0, v1, v2] := by cases args; simp_all
  obtain ⟨rfl, rfl⟩ := trodVars_none hV
  have hk : Rows.uptoBulkAll ([d0, d1, d2] ++ []) ≤ 1048576 := of_decide_eq_true hk0
  simp only [List.append_nil, Rows.uptoBulkAll] at hk
  have bulk0 : Rows.uptoBulk d0 ≤ 1048576 := by omega
  have bulk1 : Rows.uptoBulk d1 ≤ 1048576 := by omega
  have bulk2 : Rows.uptoBulk d2 ≤ 1048576 := by omega
  have k0 := h0
  have lt0 : ∀ x ∈ p0, x.block < W.heap.size := by obtain ⟨m, hm⟩ := k0; exact DataW.trod_lt m _ _ _ hm
  have k1 := h1
  have lt1 : ∀ x ∈ p1, x.block < W.heap.size := by obtain ⟨m, hm⟩ := k1; exact DataW.trod_lt m _ _ _ hm
  have k2 := h2
  have lt2 : ∀ x ∈ p2, x.block < W.heap.size := by obtain ⟨m, hm⟩ := k2; exact DataW.trod_lt m _ _ _ hm
  obtain ⟨a0, len0, cap0, rfl⟩ := okWide_slice Try.underlying22 (hval 0 22 v0 rfl rfl)
  obtain ⟨s0, w0⟩ := Fr.isStrs_of Try.underlying22 Try.underlying9 (by kernel_rfl) (by kernel_rfl) hsz (j := 0) rfl rfl h0
  obtain ⟨a1, len1, cap1, rfl⟩ := okWide_slice Try.underlying45 (hval 1 45 v1 rfl rfl)
  obtain ⟨z1, w1⟩ := Fr.isInts_of (b := 8) Try.underlying45 Try.underlying3 (by kernel_rfl) (by kernel_rfl) hsz (j := 1) rfl rfl h1
  obtain ⟨a2, len2, cap2, rfl⟩ := okWide_slice Try.underlying22 (hval 2 22 v2 rfl rfl)
  obtain ⟨s2, w2⟩ := Fr.isStrs_of Try.underlying22 Try.underlying9 (by kernel_rfl) (by kernel_rfl) hsz (j := 2) rfl rfl h2
  clear hA0 hval0
  simp only [List.append_nil] at hW'
  refine (walk W a0 len0 cap0 s0 w0 a1 len1 cap1 z1 w1 a2 len2 cap2 s2 w2).mono fun e W' ⟨he, bel⟩ => ?_
  subst he
  exact ⟨_, rfl, _, _, _, [], _, [], hW', trodAll_mk1 (shut_bool Try.underlying4 _), (trodAll_cons_mk (Below.trod laidOut (by kernel_rfl) (of_decide_eq_true (by kernel_rfl)) k0 bel lt0) (trodAll_cons_mk (Below.trod laidOut (by kernel_rfl) (of_decide_eq_true (by kernel_rfl)) k1 bel lt1) (trodAll_cons_mk (Below.trod laidOut (by kernel_rfl) (of_decide_eq_true (by kernel_rfl)) k2 bel lt2) trodAll_mk0))), rfl, bel.frame _, fun h => by cases h⟩

/-- The statement. -/
theorem proved : Rows.LinesLeastUptoSaid :=
  OpenClaim.holds_of_cond 7 Try.f7 rfl rfl rfl rfl rfl rfl rfl ⟨rfl, rfl, rfl, rfl, rfl⟩ rfl rfl rfl rfl rfl (by kernel_rfl) Try.func7 (by kernel_rfl)
    (of_decide_eq_true (by kernel_rfl)) (by unfold Func.isWrapper; first | (rw [if_pos (by decide +kernel)]; kernel_rfl) | (rw [if_neg (by decide +kernel)]; exact ⟨rfl, rfl⟩))
    (fun os started H enc _ F => lifted os started H enc F)
#print axioms proved
end Go.Proofs.Ytfgmnfcakeenmaa.linesLeastUpto
