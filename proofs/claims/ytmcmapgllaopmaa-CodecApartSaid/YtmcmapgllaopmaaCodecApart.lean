/- CodecApart: whatever the input, the law returns true, and each argument reads as it did before. No condition. -/
import Derived.Test.YtmcmapgllaopmaaRows
import Derived.WalkKit
import Derived.ProofKit
import Derived.OpenShut
import Derived.ShutString
import Derived.SizedLaws
import Derived.Below
import Derived.Deep.QuietTactic
import Derived.BigQuiet
import Derived.RegionTactic
import Derived.BigRegion
import Derived.Outline
import Derived.Deep.RegionLaw
import Derived.Deep.RegionWith
import Derived.Deep.RegionHeld3
import Derived.Deep.DeepCutAuto
import Derived.Deep.CutBlock
import Derived.Deep.LoopGhost
import Derived.Lib.Hide
import Derived.WalkSpells
import Derived.WalkLawsBesides
import Derived.Test.YtmcmapgllaopmaaFrOpen
import Derived.Test.YtmcmapgllaopmaaCdObj
namespace Go.Proofs.Ytmcmapgllaopmaa.codecApart
open Go.ChangeShapes Go.WideShapes Go.ChangeAt Go.RowKit
open Go.ChangeMaps (open_string shut_string)
set_option linter.unusedVariables false

theorem own : ownKnob Try.prog.godebug = none := by kernel_rfl
theorem laidOut : laidOutB Try.prog = true := by kernel_rfl

open Cd
theorem be4_byte (n : Int) : ∀ x ∈ be 4 n, 0 ≤ x ∧ x ≤ 255 := by
  intro x hx
  simp only [be, List.mem_cons, List.not_mem_nil, or_false] at hx
  omega
theorem mem_byte {z : List Int} {L : Nat} (hl : z.length = L) (hz : ∀ i, i < L → 0 ≤ z.getD i 0 ∧ z.getD i 0 ≤ 255) : ∀ x ∈ z, 0 ≤ x ∧ x ≤ 255 := by
  intro x hx
  obtain ⟨i, hi, rfl⟩ := List.getElem_of_mem hx
  have := hz i (by omega)
  simpa [List.getD, hi] using this
theorem objM (o : Int) (L : Nat) (z : List Int) (hl : z.length = L) (hz : ∀ i, i < L → 0 ≤ z.getD i 0 ∧ z.getD i 0 ≤ 255) : ∀ x ∈ ckL o z L :: be 4 (L : Int) ++ z, 0 ≤ x ∧ x ≤ 255 := by
  intro x hx
  rw [List.cons_append] at hx
  rcases List.mem_cons.1 hx with rfl | hx
  · exact ckL_byte o z L
  · rcases List.mem_append.1 hx with h | h
    · exact be4_byte _ x h
    · exact mem_byte hl hz x h
theorem objB (o : Int) (L : Nat) (z : List Int) (hl : z.length = L) (hz : ∀ i, i < L → 0 ≤ z.getD i 0 ∧ z.getD i 0 ≤ 255) : ∀ i, i < 5 + L → 0 ≤ (ckL o z L :: be 4 (L : Int) ++ z).getD i 0 ∧ (ckL o z L :: be 4 (L : Int) ++ z).getD i 0 ≤ 255 := by
  intro i hi
  have hlen : (ckL o z L :: be 4 (L : Int) ++ z).length = 5 + L := by simp [be_length, hl]; omega
  have hi2 : i < (ckL o z L :: be 4 (L : Int) ++ z).length := by omega
  rw [List.getD_eq_getElem?_getD, List.getElem?_eq_getElem hi2]
  exact objM o L z hl hz _ (List.getElem_mem hi2)
theorem u8_inj {a b : Int} (ha : 0 ≤ a ∧ a ≤ 255) (hb : 0 ≤ b ∧ b ≤ 255) (h : UInt8.ofNat a.toNat = UInt8.ofNat b.toNat) : a = b := by
  have h2 : (UInt8.ofNat a.toNat).toNat = (UInt8.ofNat b.toNat).toNat := by rw [h]
  simp only [UInt8.toNat_ofNat'] at h2
  omega
theorem map_inj : ∀ (l m : List Int), (∀ x ∈ l, 0 ≤ x ∧ x ≤ 255) → (∀ x ∈ m, 0 ≤ x ∧ x ≤ 255) → l.map (fun n => UInt8.ofNat n.toNat) = m.map (fun n => UInt8.ofNat n.toNat) → l = m
  | [], [], _, _, _ => rfl
  | [], _ :: _, _, _, h => by simp at h
  | _ :: _, [], _, _, h => by simp at h
  | a :: l, b :: m, hl, hm, h => by
    simp only [List.map_cons, List.cons.injEq] at h
    rw [u8_inj (hl a (by simp)) (hm b (by simp)) h.1, map_inj l m (fun x hx => hl x (List.mem_cons_of_mem _ hx)) (fun x hx => hm x (List.mem_cons_of_mem _ hx)) h.2]
theorem sb_eqb (l m : List Int) (hl : ∀ x ∈ l, 0 ≤ x ∧ x ≤ 255) (hm : ∀ x ∈ m, 0 ≤ x ∧ x ≤ 255) : ((sb l).toList == (sb m).toList) = decide (l = m) := by
  rw [ByteArray.toList_eq, ByteArray.toList_eq, sb_data, sb_data]
  by_cases h : l = m
  · subst h; simp
  · rw [decide_eq_false h]
    simp only [beq_eq_false_iff_ne, ne_eq]
    exact fun e => h (map_inj l m hl hm e)
theorem ck_kind {k : Int} {l : List Int} {L : Nat} (h : ckE k l L = 0) : (k = 1 ∧ ckL k l L = 98) ∨ (k = 2 ∧ ckL k l L = 116) ∨ (k = 3 ∧ ckL k l L = 99) := by
  unfold ckE at h
  unfold ckL
  by_cases h1 : k = 1
  · rw [if_pos h1] at h ⊢
    by_cases h2 : 65536 < L
    · rw [if_pos h2] at h; exact absurd h (by decide)
    · rw [if_neg h2]; exact .inl ⟨h1, rfl⟩
  · rw [if_neg h1] at h ⊢
    by_cases h2 : k = 2
    · rw [if_pos h2]; exact .inr (.inl ⟨h2, rfl⟩)
    · rw [if_neg h2] at h ⊢
      by_cases h3 : k = 3
      · rw [if_pos h3]; exact .inr (.inr ⟨h3, rfl⟩)
      · rw [if_neg h3] at h; exact absurd h (by decide)
theorem obj_eq {o0 o1 : Int} {z0 z1 : List Int} {L0 L1 : Nat} (h0 : z0.length = L0) (h1 : z1.length = L1) (e0 : ckE o0 z0 L0 = 0) (e1 : ckE o1 z1 L1 = 0) :
    (ckL o0 z0 L0 :: be 4 (L0 : Int) ++ z0 = ckL o1 z1 L1 :: be 4 (L1 : Int) ++ z1) ↔ (o0 = o1 ∧ z0 = z1) := by
  constructor
  · intro h
    rw [List.cons_append, List.cons_append] at h
    simp only [List.cons.injEq] at h
    obtain ⟨ha, hb⟩ := h
    refine ⟨?_, (List.append_inj hb (by rw [be_length, be_length])).2⟩
    rcases ck_kind e0 with ⟨a, b⟩ | ⟨a, b⟩ | ⟨a, b⟩ <;> rcases ck_kind e1 with ⟨c, d⟩ | ⟨c, d⟩ | ⟨c, d⟩ <;> omega
  · rintro ⟨rfl, rfl⟩
    rw [← h0, ← h1]

set_option maxRecDepth 100000 in
set_option maxHeartbeats 2000000 in
theorem walk (w : World) (o0 : Int) (y0 : (Lit.int .i64 o0).wf = true) (a0 : Option Addr) (len0 cap0 : Nat) (z0 : List Int) (w0 : Fr.IsInts .u8 1 w a0 len0 cap0 z0) (o1 : Int) (y1 : (Lit.int .i64 o1).wf = true) (a1 : Option Addr) (len1 cap1 : Nat) (z1 : List Int) (w1 : Fr.IsInts .u8 1 w a1 len1 cap1 z1) :
    Calls Try.prog 9 #[.agg #[.int .i64 o0, .slice a0 len0 cap0], .agg #[.int .i64 o1, .slice a1 len1 cap1]] w fun e w' => e = .returned (.bool true) ∧ Below w.heap.size w w' := by
  have HK := Lib.hid (Cd.known_any ((w.alloc (.cells #[.int .i64 o0, .slice a0 len0 cap0] 50)).alloc (.cells #[.int .i64 o1, .slice a1 len1 cap1] 50)))
  have hA := (Below.refl w.heap.size w).alloc (Nat.le_refl _) (.cells #[.int .i64 o0, .slice a0 len0 cap0] 50)
  have hs1 := Cd.al_lt w (.cells #[.int .i64 o0, .slice a0 len0 cap0] 50)
  have hs2 := Cd.al_lt (w.alloc (.cells #[.int .i64 o0, .slice a0 len0 cap0] 50)) (.cells #[.int .i64 o1, .slice a1 len1 cap1] 50)
  have hX1 : (w.alloc (.cells #[.int .i64 o0, .slice a0 len0 cap0] 50)).heap.size = w.heap.size + 1 := by show (w.heap.push _).size = _; simp
  have HB := Lib.hid (hA.alloc (Nat.le_of_lt hs1) (.cells #[.int .i64 o1, .slice a1 len1 cap1] 50))
  have HR0 := Lib.hid ((Cd.rd_of_ints w0).below HB.out)
  have HR1 := Lib.hid ((Cd.rd_of_ints w1).below HB.out)
  have hc0 : ((w.alloc (.cells #[.int .i64 o0, .slice a0 len0 cap0] 50)).alloc (.cells #[.int .i64 o1, .slice a1 len1 cap1] 50)).cell? ⟨w.heap.size, 0, none⟩ = some (.int .i64 o0) := Cd.al_keep (Cd.al_cell w #[.int .i64 o0, .slice a0 len0 cap0] 50 0 _ rfl) (.cells #[.int .i64 o1, .slice a1 len1 cap1] 50)
  have hc1 : ((w.alloc (.cells #[.int .i64 o0, .slice a0 len0 cap0] 50)).alloc (.cells #[.int .i64 o1, .slice a1 len1 cap1] 50)).cell? ⟨w.heap.size, 1, none⟩ = some (.slice a0 len0 cap0) := Cd.al_keep (Cd.al_cell w #[.int .i64 o0, .slice a0 len0 cap0] 50 1 _ rfl) (.cells #[.int .i64 o1, .slice a1 len1 cap1] 50)
  have hd0 : ((w.alloc (.cells #[.int .i64 o0, .slice a0 len0 cap0] 50)).alloc (.cells #[.int .i64 o1, .slice a1 len1 cap1] 50)).cell? ⟨(w.alloc (.cells #[.int .i64 o0, .slice a0 len0 cap0] 50)).heap.size, 0, none⟩ = some (.int .i64 o1) := Cd.al_cell (w.alloc (.cells #[.int .i64 o0, .slice a0 len0 cap0] 50)) #[.int .i64 o1, .slice a1 len1 cap1] 50 0 _ rfl
  have hd1 : ((w.alloc (.cells #[.int .i64 o0, .slice a0 len0 cap0] 50)).alloc (.cells #[.int .i64 o1, .slice a1 len1 cap1] 50)).cell? ⟨(w.alloc (.cells #[.int .i64 o0, .slice a0 len0 cap0] 50)).heap.size, 1, none⟩ = some (.slice a1 len1 cap1) := Cd.al_cell (w.alloc (.cells #[.int .i64 o0, .slice a0 len0 cap0] 50)) #[.int .i64 o1, .slice a1 len1 cap1] 50 1 _ rfl
  have l0 := HR0.out.len
  have l1 := HR1.out.len
  have b0 := HR0.out.byte
  have b1 := HR1.out.byte
  have HL0 := Lib.hid l0
  have HL1 := Lib.hid l1
  have HY0 := Lib.hid b0
  have HY1 := Lib.hid b1
  have k0 := HR0.out.big
  have k1 := HR1.out.big
  rw [hX1] at hs1 hs2 hd0 hd1
  clear hA l0 l1 b0 b1 w0 w1 y0 y1
  obtain ⟨P, hP⟩ : ∃ P, P = w.heap.size := ⟨_, rfl⟩
  obtain ⟨Q, hQ⟩ : ∃ Q, Q = w.heap.size + 1 := ⟨_, rfl⟩
  go_enter Try.func9, Try.ntmps9
  go_upto_region 1 with (fail)
  rw [← hQ] at hd0 hd1 hs1 hs2
  rw [← hP] at hc0 hc1 hs1
  rw [← hQ]
  rw [← hP] at HB ⊢
  generalize (w.alloc (.cells #[.int .i64 o0, .slice a0 len0 cap0] 50)).alloc (.cells #[.int .i64 o1, .slice a1 len1 cap1] 50) = w1 at *
  clear hX1
  go_wp2_with fail
  refine HK.out.mono ?_
  rintro e w2 ⟨rfl, hb⟩
  have HB2 := Lib.hid (HB.out.trans (hb.mono (by have := HB.out.size; omega)))
  have HR0' := Lib.hid (HR0.out.below hb)
  have HR1' := Lib.hid (HR1.out.below hb)
  have hc0' : w2.cell? ⟨P, 0, none⟩ = some (.int .i64 o0) := (hb.cell (p := ⟨P, 0, none⟩) (Nat.lt_trans hs1 hs2)).trans hc0
  have hc1' : w2.cell? ⟨P, 1, none⟩ = some (.slice a0 len0 cap0) := (hb.cell (p := ⟨P, 1, none⟩) (Nat.lt_trans hs1 hs2)).trans hc1
  have hd0' : w2.cell? ⟨Q, 0, none⟩ = some (.int .i64 o1) := (hb.cell (p := ⟨Q, 0, none⟩) hs2).trans hd0
  have hd1' : w2.cell? ⟨Q, 1, none⟩ = some (.slice a1 len1 cap1) := (hb.cell (p := ⟨Q, 1, none⟩) hs2).trans hd1
  have hs3 : Q < w2.heap.size := Nat.lt_of_lt_of_le hs2 hb.size
  have hP0 := Lib.hid hP
  clear hb hc0 hc1 hd0 hd1 HR0 HR1 HB HK hs2 hQ hP
  by_cases g0 : 5000 < len0
  · have hd : decide ((5000 : Int) < (len0 : Int)) = true := by simp; omega
    go_wp2_with fail
    go_ret
    exact ⟨rfl, by rw [← hP0.out]; exact HB2.out⟩
  · have hd : decide ((5000 : Int) < (len0 : Int)) = false := by simp; omega
    by_cases g1 : 5000 < len1
    · have hdd : decide ((5000 : Int) < (len1 : Int)) = true := by simp; omega
      go_wp2_with fail
      go_ret
      exact ⟨rfl, by rw [← hP0.out]; exact HB2.out⟩
    · have hdd : decide ((5000 : Int) < (len1 : Int)) = false := by simp; omega
      have HE0 := Lib.hid (Cd.encodeObj_any o0 a0 len0 cap0 z0 w2 HR0'.out (by omega))
      go_wp2_with fail
      refine HE0.out.mono ?_
      rintro e w3 ⟨hb, hr0⟩
      have HB3 := Lib.hid (HB2.out.trans (hb.mono (by omega)))
      have HR0 := Lib.hid (HR0'.out.below hb)
      have HR1 := Lib.hid (HR1'.out.below hb)
      have hc0 : w3.cell? ⟨P, 0, none⟩ = some (.int .i64 o0) := (hb.cell (p := ⟨P, 0, none⟩) (Nat.lt_trans hs1 hs3)).trans hc0'
      have hc1 : w3.cell? ⟨P, 1, none⟩ = some (.slice a0 len0 cap0) := (hb.cell (p := ⟨P, 1, none⟩) (Nat.lt_trans hs1 hs3)).trans hc1'
      have hd0 : w3.cell? ⟨Q, 0, none⟩ = some (.int .i64 o1) := (hb.cell (p := ⟨Q, 0, none⟩) hs3).trans hd0'
      have hd1 : w3.cell? ⟨Q, 1, none⟩ = some (.slice a1 len1 cap1) := (hb.cell (p := ⟨Q, 1, none⟩) hs3).trans hd1'
      have hs4 : Q < w3.heap.size := Nat.lt_of_lt_of_le hs3 hb.size
      have HE1 := Lib.hid (Cd.encodeObj_any o1 a1 len1 cap1 z1 w3 HR1.out (by omega))
      clear hb hc0' hc1' hd0' hd1' HR0' HR1' HB2 HE0 hs3
      rcases hr0 with ⟨hne, rfl⟩ | ⟨hz, A0, C0, rfl, ho0⟩
      · have hn0 : (Cd.ckE o0 z0 len0 != 0) = true := by simp [hne]
        clear hne
        generalize Cd.ckE o0 z0 len0 = E0 at *
        go_wp2_with fail
        refine HE1.out.mono ?_
        rintro e w4 ⟨hb, hr1⟩
        have HB4 := Lib.hid (HB3.out.trans (hb.mono (by omega)))
        rcases hr1 with ⟨hne1, rfl⟩ | ⟨hz1, A1, C1, rfl, ho1⟩
        · clear HE1 hb
          go_wp2_with fail
          go_ret
          exact ⟨rfl, by rw [← hP0.out]; exact HB4.out⟩
        · clear HE1 hb
          go_wp2_with fail
          go_ret
          exact ⟨rfl, by rw [← hP0.out]; exact HB4.out⟩
      · have HO0 := Lib.hid ho0
        have HZ0 := Lib.hid hz
        clear ho0 hz
        go_wp2_with fail
        refine HE1.out.mono ?_
        rintro e w4 ⟨hb, hr1⟩
        have HB4 := Lib.hid (HB3.out.trans (hb.mono (by omega)))
        rcases hr1 with ⟨hne1, rfl⟩ | ⟨hz1, A1, C1, rfl, ho1⟩
        · have hn1 : (Cd.ckE o1 z1 len1 != 0) = true := by simp [hne1]
          clear HE1 hb hne1
          generalize Cd.ckE o1 z1 len1 = E1 at *
          go_wp2_with fail
          go_ret
          exact ⟨rfl, by rw [← hP0.out]; exact HB4.out⟩
        · have hq0 := conv_rd (HR0.out.below hb)
          have hq1 := conv_rd (HR1.out.below hb)
          have bb0 := objB o0 len0 z0 HL0.out HY0.out
          have bb1 := objB o1 len1 z1 HL1.out HY1.out
          have hx0 := conv_rd (Cd.RdB.of_own2 (Cd.own_keep HO0.out hb) (by omega) bb0)
          have hx1 := conv_rd (Cd.RdB.of_own2 ho1 (by omega) bb1)
          have e0 : w4.cell? ⟨P, 0, none⟩ = some (.int .i64 o0) := (hb.cell (p := ⟨P, 0, none⟩) (Nat.lt_trans hs1 hs4)).trans hc0
          have e1 : w4.cell? ⟨P, 1, none⟩ = some (.slice a0 len0 cap0) := (hb.cell (p := ⟨P, 1, none⟩) (Nat.lt_trans hs1 hs4)).trans hc1
          have e2 : w4.cell? ⟨Q, 0, none⟩ = some (.int .i64 o1) := (hb.cell (p := ⟨Q, 0, none⟩) hs4).trans hd0
          have e3 : w4.cell? ⟨Q, 1, none⟩ = some (.slice a1 len1 cap1) := (hb.cell (p := ⟨Q, 1, none⟩) hs4).trans hd1
          clear HE1 hb HO0 ho1 HR0 HR1 hc0 hc1 hd0 hd1
          have hE1 := sb_eqb _ _ (objM o0 len0 z0 HL0.out HY0.out) (objM o1 len1 z1 HL1.out HY1.out)
          have hE2 := sb_eqb z0 z1 (mem_byte HL0.out HY0.out) (mem_byte HL1.out HY1.out)
          have hE3 := obj_eq HL0.out HL1.out HZ0.out hz1
          clear bb0 bb1 HZ0 hz1 HL0 HL1 HY0 HY1
          generalize ckL o0 z0 len0 :: be 4 (len0 : Int) ++ z0 = X0 at *
          generalize ckL o1 z1 len1 :: be 4 (len1 : Int) ++ z1 = X1 at *
          by_cases ho : o0 = o1
          · have hob : (o0 == o1) = true := by simp [ho]
            by_cases hz : z0 = z1
            · rw [decide_eq_true (hE3.2 ⟨ho, hz⟩)] at hE1
              rw [decide_eq_true hz] at hE2
              clear ho hz hE3
              generalize sb z0 = S0 at *
              generalize sb z1 = S1 at *
              generalize sb X0 = S2 at *
              generalize sb X1 = S3 at *
              go_wp2_with fail
              go_ret
              exact ⟨rfl, by rw [← hP0.out]; exact HB4.out⟩
            · rw [decide_eq_false (fun h => hz (hE3.1 h).2)] at hE1
              rw [decide_eq_false hz] at hE2
              clear ho hz hE3
              generalize sb z0 = S0 at *
              generalize sb z1 = S1 at *
              generalize sb X0 = S2 at *
              generalize sb X1 = S3 at *
              go_wp2_with fail
              go_ret
              exact ⟨rfl, by rw [← hP0.out]; exact HB4.out⟩
          · have hob : (o0 == o1) = false := by simp [ho]
            rw [decide_eq_false (fun h => ho (hE3.1 h).1)] at hE1
            clear ho hE3 hE2
            generalize sb z0 = S0 at *
            generalize sb z1 = S1 at *
            generalize sb X0 = S2 at *
            generalize sb X1 = S3 at *
            go_wp2_with fail
            go_ret
            exact ⟨rfl, by rw [← hP0.out]; exact HB4.out⟩

set_option maxRecDepth 100000 in
theorem lifted (os : Os) (started : os.Started) (H : Type) (enc : TypeId × Value → H) :
    ReturnsInHanded {} Try.checked os 9 .any (Rows.codecApartSpec.pre6 enc Try.prog Try.f9 Rows.codecApartRow.domain false) (Rows.codecApartSpec.post enc Try.prog Try.f9 false true false false) := by
  refine returnsInHanded_of_change_sized (C := Try.checked) own started (by kernel_rfl) Try.func9
    (ChangeSpec.witness6 (enc := enc) (C := Try.checked) false ⟨#[], #[.agg #[.int .i64 0, .slice none 0 0], .agg #[.int .i64 0, .slice none 0 0]], []⟩ 8 (by kernel_rfl) (by kernel_rfl) (by kernel_rfl) (by kernel_rfl)) ?_
  intro W base args ds gs before hval0 hW _ hsz0 _
  have hsz : (DataW.weightsEach Try.prog (Try.f9.params.toList ++ Rows.codecApartSpec.plain.varTypes Try.prog) (ds ++ gs)).all (· ≤ reachBytes) = true := hsz0
  clear hsz0
  have hval : ∀ (j : Nat) t v, Try.f9.params[j]? = some t → args[j]? = some v → Value.okWide Try.prog W .any base t v := hval0
  have hW' := hW
  obtain ⟨p, q, hA0, hV, rfl, _, _⟩ := hW
  have hA : DataW.TrodAll enc Try.prog W 0 (fun _ => true) true Try.f9.params.toList args.toList ds p := hA0
  rw [Try.params9] at hA hval hsz
  obtain ⟨v0, vs0, d0, ds0, p0, q0, hargs, rfl, rfl, h0, r0⟩ := trodAll_cons hA
  obtain ⟨v1, vs1, d1, ds1, p1, q1, rfl, rfl, rfl, h1, r1⟩ := trodAll_cons r0
  obtain ⟨rfl, rfl, rfl⟩ := trodAll_nil r1
  obtain rfl : args = #[v0, v1] := by cases args; simp_all
  obtain ⟨rfl, rfl⟩ := trodVars_none hV
  have k0 := h0
  have lt0 : ∀ x ∈ p0, x.block < W.heap.size := by obtain ⟨m, hm⟩ := k0; exact DataW.trod_lt m _ _ _ hm
  have k1 := h1
  have lt1 : ∀ x ∈ p1, x.block < W.heap.size := by obtain ⟨m, hm⟩ := k1; exact DataW.trod_lt m _ _ _ hm
  obtain ⟨o0, a0, len0, cap0, z0, rfl, y0, w0⟩ := Fr.isObj_of Try.underlying50 (by kernel_rfl) rfl rfl (by kernel_rfl) (by kernel_rfl) (by kernel_rfl) Try.underlying23 Try.underlying5 (by kernel_rfl) (by kernel_rfl) (hval 0 50 v0 rfl rfl) (Fr.wOk_each hsz (j := 0) rfl rfl) h0
  obtain ⟨o1, a1, len1, cap1, z1, rfl, y1, w1⟩ := Fr.isObj_of Try.underlying50 (by kernel_rfl) rfl rfl (by kernel_rfl) (by kernel_rfl) (by kernel_rfl) Try.underlying23 Try.underlying5 (by kernel_rfl) (by kernel_rfl) (hval 1 50 v1 rfl rfl) (Fr.wOk_each hsz (j := 1) rfl rfl) h1
  clear hA0 hval0
  simp only [List.append_nil] at hW'
  refine (walk W o0 y0 a0 len0 cap0 z0 w0 o1 y1 a1 len1 cap1 z1 w1).mono fun e W' ⟨he, bel⟩ => ?_
  subst he
  exact ⟨_, rfl, _, _, _, [], _, [], hW', trodAll_mk1 (shut_bool Try.underlying4 _), (trodAll_cons_mk (Below.trod laidOut (by kernel_rfl) (of_decide_eq_true (by kernel_rfl)) k0 bel lt0) (trodAll_cons_mk (Below.trod laidOut (by kernel_rfl) (of_decide_eq_true (by kernel_rfl)) k1 bel lt1) trodAll_mk0)), rfl, bel.frame _, fun h => by cases h⟩

theorem over : Rows.codecApartRow.holds Try.pinned (OpenSpec.ofChange Rows.codecApartSpec) :=
  OpenClaim.holds_of_wide 9 Try.f9 rfl rfl rfl rfl rfl rfl rfl ⟨rfl, rfl, rfl, rfl, rfl⟩ rfl rfl rfl rfl rfl (by kernel_rfl) Try.func9 (by kernel_rfl)
    (of_decide_eq_true (by kernel_rfl)) (by unfold Func.isWrapper; first | (rw [if_pos (by decide +kernel)]; kernel_rfl) | (rw [if_neg (by decide +kernel)]; exact ⟨rfl, rfl⟩))
    (fun os started H enc _ => lifted os started H enc)

/-- The statement. -/
theorem proved : Rows.CodecApartSaid := over
#print axioms proved
end Go.Proofs.Ytmcmapgllaopmaa.codecApart
