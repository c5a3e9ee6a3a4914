/- finish: the end of FIPS 180-4 behind the bytes. -/
import Derived.Test.YtgmcdkkjemjneaaSmPut
namespace Go.Proofs.Ytgmcdkkjemjneaa.Sm
open Go.RowKit
set_option linter.unusedVariables false

/-- how long the end is -/
def padN (n : Nat) : Nat := if 64 - n % 64 < 9 then 128 - n % 64 else 64 - n % 64
/-- the end behind n bytes -/
def pad (n : Nat) : List Int := 128 :: List.replicate (padN n - 9) 0 ++ (wb (((n : Int) * 8) / 4294967296) ++ wb (((n : Int) * 8) % 4294967296))
theorem padN_ge (n : Nat) : 9 ≤ padN n ∧ padN n ≤ 128 ∧ (n + padN n) % 64 = 0 := by unfold padN; split <;> omega
theorem pad_length (n : Nat) : (pad n).length = padN n := by
  have := padN_ge n
  simp only [pad, List.length_append, List.length_cons, List.length_replicate, wb_length]
  omega
theorem pad_range (n : Nat) (hn : n ≤ 140737488355328) : ∀ i, i < padN n → 0 ≤ (pad n).getD i 0 ∧ (pad n).getD i 0 ≤ 255 := by
  intro i hi
  have hl : i < (pad n).length := by rw [pad_length]; exact hi
  have hm : (pad n).getD i 0 ∈ pad n := by
    rw [List.getD, List.getElem?_eq_getElem hl]; exact List.getElem_mem hl
  generalize (pad n).getD i 0 = y at hm
  simp only [pad, List.mem_append, List.mem_cons] at hm
  rcases hm with (rfl | hm) | hm | hm
  · omega
  · rw [List.eq_of_mem_replicate hm]; omega
  · exact wb_range _ (by omega) (by omega) y hm
  · exact wb_range _ (by omega) (by omega) y hm

/-- the array of the end: noughts, the bit, the length -/
def endF (n : Nat) : Nat → Value := layF (layF (layF (fun _ => .int .u8 0) 0 (bv [128])) (padN n - 8) (bv (wb (((n : Int) * 8) / 4294967296)))) (padN n - 4) (bv (wb (((n : Int) * 8) % 4294967296)))

theorem endF_at (n i : Nat) (hi : i < padN n) : endF n i = .int .u8 ((pad n).getD i 0) := by
  have hp := padN_ge n
  have hb : ∀ l : List Int, (bv l).length = l.length := fun l => by simp [bv]
  unfold endF
  rw [layF, hb, wb_length]
  by_cases h1 : padN n - 4 ≤ i ∧ i < padN n - 4 + 4
  · rw [if_pos h1]
    simp only [pad, List.getD]
    rw [List.getElem?_append_right (by simp; omega), List.getElem?_append_right (by simp [wb_length]; omega)]
    simp only [List.length_cons, List.length_replicate, wb_length]
    rw [show i - (padN n - 9 + 1) - 4 = i - (padN n - 4) by omega]
    rcases (show i - (padN n - 4) = 0 ∨ i - (padN n - 4) = 1 ∨ i - (padN n - 4) = 2 ∨ i - (padN n - 4) = 3 by omega) with e | e | e | e <;> rw [e] <;> rfl
  · rw [if_neg h1, layF, hb, wb_length]
    by_cases h2 : padN n - 8 ≤ i ∧ i < padN n - 8 + 4
    · rw [if_pos h2]
      simp only [pad, List.getD]
      rw [List.getElem?_append_right (by simp; omega), List.getElem?_append_left (by simp [wb_length]; omega)]
      simp only [List.length_cons, List.length_replicate]
      rw [show i - (padN n - 9 + 1) = i - (padN n - 8) by omega]
      rcases (show i - (padN n - 8) = 0 ∨ i - (padN n - 8) = 1 ∨ i - (padN n - 8) = 2 ∨ i - (padN n - 8) = 3 by omega) with e | e | e | e <;> rw [e] <;> rfl
    · rw [if_neg h2, layF, hb]
      simp only [pad, List.getD]
      rw [List.getElem?_append_left (by simp; omega)]
      by_cases h3 : i = 0
      · subst h3; rw [if_pos (by simp)]; rfl
      · rw [if_neg (by simp; omega)]
        obtain ⟨k, rfl⟩ : ∃ k, i = k + 1 := ⟨i - 1, by omega⟩
        rw [List.getElem?_cons_succ, List.getElem?_replicate, if_pos (by omega)]
        rfl

theorem zeros_at (N i : Nat) (h : i < N) : (bv (List.replicate N 0)).toArray.getD i undef = .int .u8 0 := by simp [bv, h]
theorem row_apart {b E : Nat} {t : TypeId} {n : Nat} {F : Nat → Value} (hne : b ≠ E) : ∀ (vs : List Value) (o : Nat) (w : World), w.rowIs b t n F → (w.setCells E o vs).rowIs b t n F
  | [], _, _, h => h
  | v :: vs, o, w, h => row_apart hne vs (o + 1) _ (h.setOther hne v)
theorem grown_apart {a : World} {H E : Nat} (hE : a.heap.size ≤ E) : ∀ (vs : List Value) (o : Nat) (w : World), a.grownBy w (some H) → a.grownBy (w.setCells E o vs) (some H)
  | [], _, _, h => h
  | v :: vs, o, w, h => grown_apart hE vs (o + 1) _ ⟨h.os, h.tape, h.output, by simpa [World.setCell] using h.size, fun i hi hne => (Below.heap_setCell w ⟨E, o, none⟩ v i (by show i ≠ E; omega)).trans (h.block i hi hne)⟩

set_option maxRecDepth 100000 in
theorem zero128 (w : World) : (zeroValue 64).run Try.prog w = .ok (.agg (bv (List.replicate 128 0)).toArray) w := by
  rfl

set_option maxRecDepth 100000 in
set_option maxHeartbeats 4000000 in
theorem finish_any (H tH : Nat) (F : Nat → Value) (B : List Int) (w : World) (hrow : w.rowIs H tH 73 F) (hs : Hs B F) (n : Nat) (hnB : B.length = n) (hn : n ≤ 1099511627776) (hB : ∀ i, i < n → 0 ≤ B.getD i 0 ∧ B.getD i 0 ≤ 255) :
    Calls Try.prog 24 #[.pointer (some ⟨H, 0, none⟩)] w fun e w' => e = .returned (.tuple #[]) ∧ (∃ F', w'.rowIs H tH 73 F' ∧ Hs (B ++ pad n) F') ∧ w.grownBy w' (some H) := by
  have h72 : w.cell? ⟨H, 72, none⟩ = some (.int .u64 n) := by
    obtain ⟨S, x, hc, -, -⟩ := hs
    rw [hrow.cell (by omega), hc.cnt, hnB]
  have HRow := Lib.hid hrow
  have HS := Lib.hid hs
  have HB := Lib.hid hB
  have hHlt := hrow.lt
  clear hrow hs hB
  have hz := zero128
  generalize hZ : (bv (List.replicate 128 0)).toArray = Z at *
  have HZ := Lib.hid hZ
  clear hZ
  go_enter Try.func24, Try.ntmps24
  go_upto_region 2 with (fail)
  have hE0 : (w.alloc (.cells Z 64)).rowIs w.heap.size 64 128 (fun _ => .int .u8 0) := by
    have h := row_new w Z 64
    have hz : Z.size = 128 := by rw [← HZ.out, List.size_toArray, bv, List.length_map, List.length_replicate]
    rw [hz] at h
    refine h.congr fun i hi => ?_
    rw [← HZ.out]
    exact zeros_at 128 i hi
  have HH0 := Lib.hid (World.rowIs.alloc HRow.out (.cells Z 64))
  have HG0 : Hid (w.grownBy (w.alloc (.cells Z 64)) (some H)) := Lib.hid (by
    have h := (Below.refl w.heap.size w).alloc (Nat.le_refl _) (.cells Z 64)
    exact ⟨h.os, h.tape, h.output, h.size, fun i hi _ => h.block i hi⟩)
  have HE0 := Lib.hid hE0
  have hEH : w.heap.size ≠ H := by omega
  have hEw := Nat.le_refl w.heap.size
  clear hE0 HZ hz HRow
  generalize w.alloc (.cells Z 64) = wE at *
  generalize hEE : w.heap.size = E at *
  have HEE := Lib.hid hEE
  clear hEE h72
  have cE : wE.cell? ⟨E, 0, none⟩ = some (.int .u8 0) := HE0.out.cell (by omega)
  have fE : wE.frozen? ⟨E, 0, none⟩ = false := HE0.out.frozen _
  have HE1 : Hid ((wE.setCell ⟨E, 0, none⟩ (.int .u8 128)).rowIs E 64 128 (layF (fun _ => .int .u8 0) 0 (bv [128]))) := Lib.hid (row_lay HE0.out 0 (bv [128]))
  have HH1 : Hid ((wE.setCell ⟨E, 0, none⟩ (.int .u8 128)).rowIs H tH 73 F) := Lib.hid (HH0.out.setOther (fun e => hEH e.symm) _)
  have HG1 : Hid (w.grownBy (wE.setCell ⟨E, 0, none⟩ (.int .u8 128)) (some H)) := Lib.hid ⟨HG0.out.os, HG0.out.tape, HG0.out.output, by simpa [World.setCell] using HG0.out.size, fun i hi hne => (Below.heap_setCell wE ⟨E, 0, none⟩ _ i (by show i ≠ E; have := HEE.out; omega)).trans (HG0.out.block i hi hne)⟩
  have h72 : (wE.setCell ⟨E, 0, none⟩ (.int .u8 128)).cell? ⟨H, 72, none⟩ = some (.int .u64 n) := by
    obtain ⟨S, x, hc, -, -⟩ := HS.out
    rw [HH1.out.cell (by omega), hc.cnt, hnB]
  obtain ⟨r, hr⟩ : ∃ r, r = n % 64 := ⟨_, rfl⟩
  have ir : (n : Int) % 64 = (r : Int) := by omega
  obtain ⟨q, hq⟩ : ∃ q, q + r = 64 := ⟨64 - r, by omega⟩
  have iq : (64 : Int) - (r : Int) = (q : Int) := by omega
  obtain ⟨P, hP⟩ : ∃ P, P = padN n := ⟨_, rfl⟩
  have hpr := padN_ge n
  rw [← hP] at hpr
  have hPq : (q < 9 ∧ P = q + 64) ∨ (9 ≤ q ∧ P = q) := by
    rw [hP]; unfold padN
    split
    · exact .inl ⟨by omega, by omega⟩
    · exact .inr ⟨by omega, by omega⟩
  have HP := Lib.hid hP
  have HHr := Lib.hid hr
  clear hP hr HE0 HH0 HG0
  obtain ⟨p8, h8⟩ : ∃ p8, p8 + 8 = P := ⟨P - 8, by omega⟩
  obtain ⟨p4, h4⟩ : ∃ p4, p4 + 4 = P := ⟨P - 4, by omega⟩
  have i8 : (P : Int) - 8 = (p8 : Int) := by omega
  have i4 : (P : Int) - 4 = (p4 : Int) := by omega
  have j8 : (p8 : Int) ≤ 128 := by omega
  have j4 : (p4 : Int) ≤ 128 := by omega
  have jP : (P : Int) ≤ 128 := by omega
  have z8 : (0 : Int) ≤ (p8 : Int) := by omega
  have z4 : (0 : Int) ≤ (p4 : Int) := by omega
  have zP : (0 : Int) ≤ (P : Int) := by omega
  have w8 : IntKind.i64.wrap (p8 : Int) = (p8 : Int) := by simp [IntKind.wrap, IntKind.signed, IntKind.bits]; omega
  have w4 : IntKind.i64.wrap (p4 : Int) = (p4 : Int) := by simp [IntKind.wrap, IntKind.signed, IntKind.bits]; omega
  have wP : IntKind.i64.wrap (P : Int) = (P : Int) := by simp [IntKind.wrap, IntKind.signed, IntKind.bits]; omega
  have n8 : ¬ 128 = p8 := by omega
  have n4 : ¬ 128 = p4 := by omega
  have l8 : 4 ≤ 128 - p8 := by omega
  have l4 : 4 ≤ 128 - p4 := by omega
  have b8 : p8 + 4 ≤ 128 := by omega
  have b4 : p4 + 4 ≤ 128 := by omega
  have HQ := Lib.hid hq
  have H8 := Lib.hid h8
  have H4 := Lib.hid h4
  have HPR := Lib.hid hpr
  clear hq h8 h4 hpr
  rcases hPq with ⟨hq9, hPe⟩ | ⟨hq9, hPe⟩
  · have hd : decide ((q : Int) < 9) = true := by simp; omega
    have iP : (q : Int) + 64 = (P : Int) := by omega
    clear hPe hq9
    go_wp2_with fail
    refine (put_any E 64 p8 (128 - p8) (128 - p8) 128 _ ((n : Int) * 8 / 4294967296) _ (by omega) (by omega) l8 HE1.out b8).mono ?_
    rintro e w2 ⟨rfl, rfl⟩
    have HE2 := Lib.hid (row_lay HE1.out p8 (bv (wb ((n : Int) * 8 / 4294967296))))
    have HH2 := Lib.hid (row_apart (fun e => hEH e.symm) (bv (wb ((n : Int) * 8 / 4294967296))) p8 _ HH1.out)
    have HG2 := Lib.hid (grown_apart (show w.heap.size ≤ E from by have := HEE.out; omega) (bv (wb ((n : Int) * 8 / 4294967296))) p8 _ HG1.out)
    clear HE1 HH1 HG1 h72 cE fE
    generalize (wE.setCell ⟨E, 0, none⟩ (.int .u8 128)).setCells E p8 (bv (wb ((n : Int) * 8 / 4294967296))) = w2 at *
    go_wp2_with fail
    refine (put_any E 64 p4 (128 - p4) (128 - p4) 128 _ ((n : Int) * 8 % 4294967296) _ (by omega) (by omega) l4 HE2.out b4).mono ?_
    rintro e w3 ⟨rfl, rfl⟩
    have HE3 := Lib.hid (row_lay HE2.out p4 (bv (wb ((n : Int) * 8 % 4294967296))))
    have HH3 := Lib.hid (row_apart (fun e => hEH e.symm) (bv (wb ((n : Int) * 8 % 4294967296))) p4 _ HH2.out)
    have HG3 := Lib.hid (grown_apart (show w.heap.size ≤ E from by have := HEE.out; omega) (bv (wb ((n : Int) * 8 % 4294967296))) p4 _ HG2.out)
    clear HE2 HH2 HG2
    generalize w2.setCells E p4 (bv (wb ((n : Int) * 8 % 4294967296))) = w3 at *
    have HT := Lib.hid (take_any H tH F B (some ⟨E, 0, none⟩) E 0 P 128 (pad n) w3 HH3.out HS.out n hnB (by omega) (by rw [pad_length, HP.out]) (by omega) (by omega) (fun _ => rfl) hEH HE3.out.lt (by rw [HP.out]; exact pad_range n (by omega)) HB.out (fun i hi => by
      rw [Nat.zero_add, HE3.out.cell (by omega)]
      have h := endF_at n i (by rw [← HP.out]; exact hi)
      rw [endF, ← HP.out, show P - 8 = p8 from by have := H8.out; omega, show P - 4 = p4 from by have := H4.out; omega] at h
      exact congrArg some h))
    clear HE3
    go_wp2_with fail
    refine HT.out.mono ?_
    rintro e w4 ⟨rfl, hf, hg⟩
    have HFf := Lib.hid hf
    have HGf := Lib.hid (grown_trans HG3.out hg)
    clear hf hg HT
    go_wp2_with fail
    go_end0
    exact ⟨rfl, HFf.out, HGf.out⟩
  · have hd : decide ((q : Int) < 9) = false := by simp; omega
    subst hPe
    go_wp2_with fail
    refine (put_any E 64 p8 (128 - p8) (128 - p8) 128 _ ((n : Int) * 8 / 4294967296) _ (by omega) (by omega) l8 HE1.out b8).mono ?_
    rintro e w2 ⟨rfl, rfl⟩
    have HE2 := Lib.hid (row_lay HE1.out p8 (bv (wb ((n : Int) * 8 / 4294967296))))
    have HH2 := Lib.hid (row_apart (fun e => hEH e.symm) (bv (wb ((n : Int) * 8 / 4294967296))) p8 _ HH1.out)
    have HG2 := Lib.hid (grown_apart (show w.heap.size ≤ E from by have := HEE.out; omega) (bv (wb ((n : Int) * 8 / 4294967296))) p8 _ HG1.out)
    clear HE1 HH1 HG1 h72 cE fE
    generalize (wE.setCell ⟨E, 0, none⟩ (.int .u8 128)).setCells E p8 (bv (wb ((n : Int) * 8 / 4294967296))) = w2 at *
    go_wp2_with fail
    refine (put_any E 64 p4 (128 - p4) (128 - p4) 128 _ ((n : Int) * 8 % 4294967296) _ (by omega) (by omega) l4 HE2.out b4).mono ?_
    rintro e w3 ⟨rfl, rfl⟩
    have HE3 := Lib.hid (row_lay HE2.out p4 (bv (wb ((n : Int) * 8 % 4294967296))))
    have HH3 := Lib.hid (row_apart (fun e => hEH e.symm) (bv (wb ((n : Int) * 8 % 4294967296))) p4 _ HH2.out)
    have HG3 := Lib.hid (grown_apart (show w.heap.size ≤ E from by have := HEE.out; omega) (bv (wb ((n : Int) * 8 % 4294967296))) p4 _ HG2.out)
    clear HE2 HH2 HG2
    generalize w2.setCells E p4 (bv (wb ((n : Int) * 8 % 4294967296))) = w3 at *
    have HT := Lib.hid (take_any H tH F B (some ⟨E, 0, none⟩) E 0 P 128 (pad n) w3 HH3.out HS.out n hnB (by omega) (by rw [pad_length, HP.out]) (by omega) (by omega) (fun _ => rfl) hEH HE3.out.lt (by rw [HP.out]; exact pad_range n (by omega)) HB.out (fun i hi => by
      rw [Nat.zero_add, HE3.out.cell (by omega)]
      have h := endF_at n i (by rw [← HP.out]; exact hi)
      rw [endF, ← HP.out, show P - 8 = p8 from by have := H8.out; omega, show P - 4 = p4 from by have := H4.out; omega] at h
      exact congrArg some h))
    clear HE3
    go_wp2_with fail
    refine HT.out.mono ?_
    rintro e w4 ⟨rfl, hf, hg⟩
    have HFf := Lib.hid hf
    have HGf := Lib.hid (grown_trans HG3.out hg)
    clear hf hg HT
    go_wp2_with fail
    go_end0
    exact ⟨rfl, HFf.out, HGf.out⟩
end Go.Proofs.Ytgmcdkkjemjneaa.Sm
