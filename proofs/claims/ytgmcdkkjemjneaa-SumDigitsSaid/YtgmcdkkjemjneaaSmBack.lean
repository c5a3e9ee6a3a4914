/- The document's Less; what is written is read again; the order of digits. -/
import Derived.Test.YtgmcdkkjemjneaaSmLess
import Derived.Test.YtgmcdkkjemjneaaSmRParse
namespace Go.Proofs.Ytgmcdkkjemjneaa.Sm
open Go.RowKit
set_option linter.unusedVariables false

theorem ltL_step (a b : List Int) (ha : a.length = 32) (hb : b.length = 32) (k : Nat) (hk : k < 32) : ltL (a.drop k) (b.drop k) = if a.getD k 0 = b.getD k 0 then ltL (a.drop (k + 1)) (b.drop (k + 1)) else decide (a.getD k 0 < b.getD k 0) := by
  rw [List.drop_eq_getElem_cons (show k < a.length by omega), List.drop_eq_getElem_cons (show k < b.length by omega), ltL]
  simp [List.getD, ha, hb, hk]

set_option maxRecDepth 100000 in
set_option maxHeartbeats 1000000 in
theorem rless_any (a b : List Int) (ha : a.length = 32) (hb : b.length = 32) (w : World) :
    Calls Try.prog 20 #[.agg (bv a).toArray, .agg (bv b).toArray] w fun e w' => e = .returned (.bool (ltL a b)) ∧ Below w.heap.size w w' := by
  obtain ⟨h1, h2, h3⟩ := boxes w a b ha hb
  have H1 := Lib.hid h1
  have H2 := Lib.hid h2
  have H3 := Lib.hid h3
  have HA := Lib.hid ha
  have HB := Lib.hid hb
  have HL0 := Lib.hid (show ltL (a.drop 0) (b.drop 0) = ltL a b from rfl)
  clear h1 h2 h3 ha hb
  generalize hDa : bv a = Da at *
  generalize hDb : bv b = Db at *
  clear hDa hDb
  go_enter Try.func20, Try.ntmps20
  go_upto_region 1 with (fail)
  generalize (w.alloc (.cells Da.toArray 27)).alloc (.cells Db.toArray 27) = w2 at *
  generalize w.heap.size + 1 = G2 at *
  generalize hG : w.heap.size = G at *
  have HG := Lib.hid hG
  clear hG
  go_wp2_with fail
  go_loopw [5] (fun s5 wr => ∃ k n : Nat, s5 = .int .i64 k ∧ k ≤ 32 ∧ Hid (ltL (a.drop k) (b.drop k) = ltL a b) ∧ wr = w2.drewN n) (fun s5 _ => 32 - (intOf s5).toNat)
  case atStart => exact ⟨0, 0, rfl, by omega, HL0, rfl⟩
  case round =>
    clear HL0
    obtain ⟨k, n, rfl, hk, HL, rfl⟩ := hrel
    by_cases hlt : k < 32
    · have hk0 : (0 : Int) ≤ (k : Int) := by omega
      have hk1 : (k : Int) < 32 := by omega
      have hc1 : w2.cell? ⟨G, k, none⟩ = some (.int .u8 (a.getD k 0)) := H1.out.cell hlt
      have hc2 : w2.cell? ⟨G2, k, none⟩ = some (.int .u8 (b.getD k 0)) := H2.out.cell hlt
      have hst := ltL_step a b HA.out HB.out k hlt
      rw [HL.out] at hst
      have HS := Lib.hid hst
      clear hst HL
      generalize a.getD k 0 = x at *
      generalize b.getD k 0 = y at *
      by_cases hxy : x = y
      · have hd : (x != y) = false := by simp [hxy]
        have HL2 : Hid (ltL (a.drop (k + 1)) (b.drop (k + 1)) = ltL a b) := Lib.hid (by rw [HS.out, if_pos hxy])
        clear HS hxy
        go_wp2_with fail
        go_quiet (fail)
        go_wp2_with fail
        go_roundw
        case rel => exact ⟨k + 1, _, by go_num, by omega, HL2, rfl⟩
        case measure => simp [intOf]; omega
      · have hd : (x != y) = true := by simpa using hxy
        have HL2 : Hid (decide (x < y) = ltL a b) := Lib.hid (by rw [HS.out, if_neg hxy])
        clear HS hxy
        go_wp2_with fail
        go_quiet (fail)
        go_wp2_with fail
        go_quiet (fail)
        go_wp2_with fail
        go_ret
        refine ⟨ret_bool HL2.out, ?_⟩
        rw [HG.out]
        exact below_drewN (below_drewN (below_drewN H3.out _) _) _
    · have ek : k = 32 := by omega
      subst ek
      have HL2 : Hid (false = ltL a b) := Lib.hid (by
        rw [← HL.out, List.drop_eq_nil_of_le (Nat.le_of_eq HA.out)]
        rfl)
      go_wp2_with fail
      go_ret
      refine ⟨ret_bool HL2.out, ?_⟩
      rw [HG.out]
      exact below_drewN H3.out n

/-! what is written is read again -/
theorem hexd_dg (d : Int) (h0 : 0 ≤ d) (h1 : d < 16) : dgB (hexd d) = true ∧ dgV (hexd d) = d ∧ 0 ≤ hexd d ∧ hexd d ≤ 255 := by
  rcases (show d = 0 ∨ d = 1 ∨ d = 2 ∨ d = 3 ∨ d = 4 ∨ d = 5 ∨ d = 6 ∨ d = 7 ∨ d = 8 ∨ d = 9 ∨ d = 10 ∨ d = 11 ∨ d = 12 ∨ d = 13 ∨ d = 14 ∨ d = 15 from by omega) with rfl | rfl | rfl | rfl | rfl | rfl | rfl | rfl | rfl | rfl | rfl | rfl | rfl | rfl | rfl | rfl <;> decide
set_option maxRecDepth 100000 in
theorem orx (x : Int) (h0 : 0 ≤ x) (h1 : x ≤ 255) : bits .or .u8 (x / 16 * 16) (x % 16) = x := by
  have h : ∀ n : _root_.Fin 256, bits .or .u8 ((n.val : Int) / 16 * 16) ((n.val : Int) % 16) = (n.val : Int) := by decide
  have := h ⟨x.toNat, by omega⟩
  simpa [show ((x.toNat : Nat) : Int) = x by omega] using this
theorem xs_sb (l : List Int) (k : Nat) (hk : k < l.length) (h : 0 ≤ l.getD k 0 ∧ l.getD k 0 ≤ 255) : xs (sb l) k = l.getD k 0 := by
  unfold xs
  rw [sb_data]
  simp only [List.getD, List.getElem?_map, List.getElem?_eq_getElem hk, Option.map_some, Option.getD_some] at *
  simp only [UInt8.toNat_ofNat']
  omega
theorem hex_len (a : List Int) : (hexL a).length = 64 := by simp [hexL]
theorem hex_at (a : List Int) (k : Nat) (hk : k < 64) : (hexL a).getD k 0 = hexAt a k := by simp [hexL, List.getD, hk]
theorem hexAt_ok (a : List Int) (hr : ∀ i, i < 32 → 0 ≤ a.getD i 0 ∧ a.getD i 0 ≤ 255) (k : Nat) (hk : k < 64) : dgB (hexAt a k) = true ∧ 0 ≤ hexAt a k ∧ hexAt a k ≤ 255 := by
  have h := hr (k / 2) (by omega)
  unfold hexAt
  split
  · obtain ⟨h1, -, h3, h4⟩ := hexd_dg (a.getD (k / 2) 0 / 16) (by omega) (by omega)
    exact ⟨h1, h3, h4⟩
  · obtain ⟨h1, -, h3, h4⟩ := hexd_dg (a.getD (k / 2) 0 % 16) (by omega) (by omega)
    exact ⟨h1, h3, h4⟩
theorem xs_hex (a : List Int) (hr : ∀ i, i < 32 → 0 ≤ a.getD i 0 ∧ a.getD i 0 ≤ 255) (k : Nat) (hk : k < 64) : xs (sb (hexL a)) k = hexAt a k := by
  rw [xs_sb _ k (by rw [hex_len]; exact hk) (by rw [hex_at a k hk]; exact (hexAt_ok a hr k hk).2), hex_at a k hk]
theorem pOk_hex (a : List Int) (hr : ∀ i, i < 32 → 0 ≤ a.getD i 0 ∧ a.getD i 0 ≤ 255) : pOk (sb (hexL a)) :=
  ⟨by rw [sb_size, hex_len], fun j hj => by rw [xs_hex a hr j hj]; exact (hexAt_ok a hr j hj).1⟩
theorem pvs_hex (a : List Int) (hl : a.length = 32) (hr : ∀ i, i < 32 → 0 ≤ a.getD i 0 ∧ a.getD i 0 ≤ 255) : pvs (sb (hexL a)) = a := by
  apply List.ext_getElem
  · simp [pvs, hl]
  · intro j h1 h2
    have hj : j < 32 := by rw [hl] at h2; exact h2
    have h := hr j hj
    have e1 := xs_hex a hr (2 * j) (by omega)
    have e2 := xs_hex a hr (2 * j + 1) (by omega)
    rw [hexAt, if_pos (by omega), show 2 * j / 2 = j by omega] at e1
    rw [hexAt, if_neg (by omega), show (2 * j + 1) / 2 = j by omega] at e2
    have hv : pv (sb (hexL a)) j = a.getD j 0 := by
      unfold pv
      rw [e1, e2, (hexd_dg (a.getD j 0 / 16) (by omega) (by omega)).2.1, (hexd_dg (a.getD j 0 % 16) (by omega) (by omega)).2.1, orx _ h.1 h.2]
    have e3 : (pvs (sb (hexL a)))[j]'h1 = pv (sb (hexL a)) j := by simp [pvs]
    refine e3.trans (hv.trans ?_)
    simp [List.getD, hl, hj]
/-- the last digit turned to what is none -/
theorem pOk_turned (s : ByteArray) (h : s.size = 64) : ¬ pOk (s.extract 0 63 ++ ⟨#[71]⟩) := by
  intro hp
  have h2 := hp.2 63 (by omega)
  have : xs (s.extract 0 63 ++ ⟨#[71]⟩) 63 = 71 := by
    unfold xs
    rw [ByteArray.data_append, Array.toList_append]
    have hl : (s.extract 0 63).data.toList.length = 63 := by
      have : (s.extract 0 63).size = 63 := by rw [ByteArray.size_extract]; omega
      simpa using this
    rw [List.getD, List.getElem?_append_right (by omega), hl]
    rfl
  rw [this] at h2
  cases h2

/-! the order of digits -/
theorem hexU (d e : Int) (h0 : 0 ≤ d) (h1 : d < 16) (h2 : 0 ≤ e) (h3 : e < 16) : decide (UInt8.ofNat (hexd d).toNat < UInt8.ofNat (hexd e).toNat) = decide (d < e) ∧ (UInt8.ofNat (hexd d).toNat == UInt8.ofNat (hexd e).toNat) = decide (d = e) := by
  have h : ∀ i j : _root_.Fin 16, decide (UInt8.ofNat (hexd (i.val : Int)).toNat < UInt8.ofNat (hexd (j.val : Int)).toNat) = decide ((i.val : Int) < (j.val : Int)) ∧ (UInt8.ofNat (hexd (i.val : Int)).toNat == UInt8.ofNat (hexd (j.val : Int)).toNat) = decide ((i.val : Int) = (j.val : Int)) := by decide
  have := h ⟨d.toNat, by omega⟩ ⟨e.toNat, by omega⟩
  simpa only [show ((d.toNat : Nat) : Int) = d by omega, show ((e.toNat : Nat) : Int) = e by omega] using this
def hexF : List Int → List Int
  | [] => []
  | x :: l => hexd (x / 16) :: hexd (x % 16) :: hexF l
theorem hexL_eq : ∀ (l : List Int), (List.range (2 * l.length)).map (hexAt l) = hexF l
  | [] => rfl
  | x :: l => by
      have ih := hexL_eq l
      rw [List.length_cons, show 2 * (l.length + 1) = 2 * l.length + 1 + 1 by omega, List.range_succ_eq_map, List.range_succ_eq_map]
      simp only [List.map_cons, List.map_map, hexF]
      rw [← ih]
      congr 1
      congr 1
      apply List.map_congr_left
      intro j _
      simp only [Function.comp, hexAt, Nat.succ_eq_add_one]
      rw [show (j + 1 + 1) % 2 = j % 2 by omega, show (j + 1 + 1) / 2 = j / 2 + 1 by omega]
      rfl
theorem less_hexF : ∀ (a b : List Int), a.length = b.length → (∀ x ∈ a, 0 ≤ x ∧ x ≤ 255) → (∀ x ∈ b, 0 ≤ x ∧ x ≤ 255) → Op.bytesLess ((hexF a).map fun n => UInt8.ofNat n.toNat) ((hexF b).map fun n => UInt8.ofNat n.toNat) = ltL a b
  | [], [], _, _, _ => rfl
  | x :: a, y :: b, hl, ha, hb => by
      have ih := less_hexF a b (by simpa using hl) (fun z hz => ha z (List.mem_cons_of_mem _ hz)) (fun z hz => hb z (List.mem_cons_of_mem _ hz))
      obtain ⟨x0, x1⟩ := ha x (List.mem_cons_self ..)
      obtain ⟨y0, y1⟩ := hb y (List.mem_cons_self ..)
      obtain ⟨h1, h2⟩ := hexU (x / 16) (y / 16) (by omega) (by omega) (by omega) (by omega)
      obtain ⟨h3, h4⟩ := hexU (x % 16) (y % 16) (by omega) (by omega) (by omega) (by omega)
      simp only [hexF, List.map_cons, Op.bytesLess, ltL]
      rw [ih, h1, h2, h3, h4]
      by_cases e : x = y
      · subst e
        simp
      · rw [if_neg e]
        by_cases e1 : x / 16 = y / 16
        · have e2 : x % 16 ≠ y % 16 := by omega
          rw [decide_eq_true e1, decide_eq_false e2, decide_eq_false (by omega)]
          simp only [Bool.false_and, Bool.or_false, Bool.true_and, Bool.false_or]
          by_cases e3 : x < y
          · rw [decide_eq_true e3, decide_eq_true (by omega)]
          · rw [decide_eq_false e3, decide_eq_false (by omega)]
        · rw [decide_eq_false e1]
          simp only [Bool.false_and, Bool.or_false]
          by_cases e3 : x < y
          · rw [decide_eq_true e3, decide_eq_true (by omega)]
          · rw [decide_eq_false e3, decide_eq_false (by omega)]
  | [], _ :: _, hl, _, _ => by simp at hl
  | _ :: _, [], hl, _, _ => by simp at hl
theorem less_hex (a b : List Int) (ha : a.length = 32) (hb : b.length = 32) (hra : ∀ x ∈ a, 0 ≤ x ∧ x ≤ 255) (hrb : ∀ x ∈ b, 0 ≤ x ∧ x ≤ 255) : Op.bytesLess (sb (hexL a)).toList (sb (hexL b)).toList = ltL a b := by
  rw [Lib.toList_data, Lib.toList_data, sb_data, sb_data]
  have e1 : hexL a = hexF a := by rw [← hexL_eq, ha]; rfl
  have e2 : hexL b = hexF b := by rw [← hexL_eq, hb]; rfl
  rw [e1, e2]
  exact less_hexF a b (by rw [ha, hb]) hra hrb
end Go.Proofs.Ytgmcdkkjemjneaa.Sm
