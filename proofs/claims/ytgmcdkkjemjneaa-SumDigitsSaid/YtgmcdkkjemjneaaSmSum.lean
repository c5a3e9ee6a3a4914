/- Sum: on a copy. -/
import Derived.Test.YtgmcdkkjemjneaaSmFin
namespace Go.Proofs.Ytgmcdkkjemjneaa.Sm
open Go.RowKit
set_option linter.unusedVariables false

/-- the sum's bytes -/
def dig (S : W8) : List Int := wb S.a ++ (wb S.b ++ (wb S.c ++ (wb S.d ++ (wb S.e ++ (wb S.f ++ (wb S.g ++ wb S.h))))))
theorem dig_length (S : W8) : (dig S).length = 32 := by simp [dig, wb_length]
theorem dig_word (S : W8) (k j : Nat) (hk : k < 8) (hj : j < 4) : (dig S).getD (4 * k + j) 0 = (wb (S.at k)).getD j 0 := by
  rcases (show k = 0 ∨ k = 1 ∨ k = 2 ∨ k = 3 ∨ k = 4 ∨ k = 5 ∨ k = 6 ∨ k = 7 from by omega) with rfl | rfl | rfl | rfl | rfl | rfl | rfl | rfl <;>
  rcases (show j = 0 ∨ j = 1 ∨ j = 2 ∨ j = 3 from by omega) with rfl | rfl | rfl | rfl <;> rfl

def z73 : List Value := uv (List.replicate 8 0) ++ (bv (List.replicate 64 0) ++ [.int .u64 0])
set_option maxRecDepth 100000 in
theorem zero32 (w : World) : (zeroValue 27).run Try.prog w = .ok (.agg (bv (List.replicate 32 0)).toArray) w := by rfl
set_option maxRecDepth 100000 in
theorem zeroH (w : World) : (zeroValue 56).run Try.prog w = .ok (.agg z73.toArray) w := by rfl

/-- a row's cells as a list -/
def cellsOf (F : Nat → Value) (n : Nat) : List Value := (List.range n).map F
theorem cellsOf_length (F : Nat → Value) (n : Nat) : (cellsOf F n).length = n := by simp [cellsOf]
theorem row_range {w : World} {b : Nat} {t : TypeId} {n : Nat} {F : Nat → Value} (h : w.rowIs b t n F) (o k : Nat) (hk : o + k ≤ n) : w.rangeAt b o (cellsOf (fun j => F (o + j)) k) := by
  intro j v hj
  have hl := (List.getElem?_eq_some_iff.1 hj).1
  rw [cellsOf_length] at hl
  rw [h.cell (by omega), ← hj]
  simp [cellsOf, hl]
theorem hs_one {B : List Int} {F : Nat → Value} (h : Hs B F) : ∀ j, j < 73 → (F j).oneCell' = true := by
  obtain ⟨S, x, hc, -, -⟩ := h
  intro j hj
  by_cases h1 : j < 8
  · rw [hc.st j h1]; rfl
  · by_cases h2 : j < 72
    · have := hc.wt (j - 8) (by omega)
      rw [show 8 + (j - 8) = j by omega] at this
      rw [this]; rfl
    · rw [show j = 72 by omega, hc.cnt]; rfl
theorem row_new_list (w : World) (l : List Value) (t : TypeId) : (w.alloc (.cells l.toArray t)).rowIs w.heap.size t l.length (fun i => l.getD i undef) := by
  have h := row_new w l.toArray t
  rw [List.size_toArray] at h
  exact h.congr fun i hi => by simp

theorem row_zeros (w : World) (N : Nat) (t : TypeId) : (w.alloc (.cells (bv (List.replicate N 0)).toArray t)).rowIs w.heap.size t N (fun _ => .int .u8 0) := by
  have h := row_new w (bv (List.replicate N 0)).toArray t
  have hl : (bv (List.replicate N 0)).toArray.size = N := by simp [bv]
  rw [hl] at h
  exact h.congr fun i hi => zeros_at N i hi

set_option maxRecDepth 100000 in
set_option maxHeartbeats 4000000 in
theorem sum_any (H tH : Nat) (F : Nat → Value) (B : List Int) (w : World) (hrow : w.rowIs H tH 73 F) (hs : Hs B F) (n : Nat) (hnB : B.length = n) (hn : n ≤ 1099511627776) (hB : ∀ i, i < n → 0 ≤ B.getD i 0 ∧ B.getD i 0 ≤ 255) :
    Calls Try.prog 13 #[.pointer (some ⟨H, 0, none⟩)] w fun e w' => e = .returned (.agg (bv (dig (run (B ++ pad n)))).toArray) ∧ Below w.heap.size w w' := by
  have hz1 := zero32
  have hz2 := zeroH
  generalize hZ1 : (bv (List.replicate 32 0)).toArray = Z1 at *
  generalize hZ2 : z73.toArray = Z2 at *
  have HZ1 := Lib.hid hZ1
  have HZ2 := Lib.hid hZ2
  clear hZ1 hZ2
  have HRow := Lib.hid hrow
  have HS := Lib.hid hs
  have HB := Lib.hid hB
  have hHlt := hrow.lt
  clear hrow hs hB
  go_enter Try.func13, Try.ntmps13
  go_upto_region 1 with (fail)
  have HB1 := Lib.hid ((Below.refl w.heap.size w).alloc (Nat.le_refl _) (.cells Z1 27))
  have HO1 : Hid ((w.alloc (.cells Z1 27)).rowIs w.heap.size 27 32 (fun _ => .int .u8 0)) := Lib.hid (by
    rw [← HZ1.out]
    exact row_zeros w 32 _)
  have HR1 := Lib.hid (World.rowIs.alloc HRow.out (.cells Z1 27))
  have hs1 := al_lt w (.cells Z1 27)
  generalize w.alloc (.cells Z1 27) = w1 at *
  generalize hO : w.heap.size = O at *
  have HO := Lib.hid hO
  clear hO
  have HCR := Lib.hid (row_range HR1.out 0 73 (Nat.le_refl _))
  have HCL : Hid ((Try.prog.info? 56).map (·.size) = some (cellsOf (fun j => F (0 + j)) 73).length) := Lib.hid (by rw [cellsOf_length]; kernel_rfl)
  have HC1 : Hid ((cellsOf (fun j => F (0 + j)) 73).toArray.all (·.oneCell') = true) := Lib.hid (all_oneCell_toArray (fun v hv => by
    obtain ⟨j, hj, rfl⟩ := List.mem_map.1 hv
    rw [Nat.zero_add]
    exact hs_one HS.out j (List.mem_range.1 hj)))
  have HZs : Hid (73 ≤ Z2.size) := Lib.hid (by rw [← HZ2.out]; simp [z73, uv, bv])
  have HCg : Hid (∀ j, j < 73 → (cellsOf (fun j => F (0 + j)) 73).getD j undef = F j) := Lib.hid (fun j hj => by simp [cellsOf, hj])
  have HCn : Hid ((cellsOf (fun j => F (0 + j)) 73).length = 73) := Lib.hid (cellsOf_length _ _)
  have HCL2 : Hid ((Try.prog.info? 56).map (·.size) = some (cellsOf (fun j => F (0 + j)) 73).toArray.size) := Lib.hid (by rw [List.size_toArray]; exact HCL.out)
  generalize cellsOf (fun j => F (0 + j)) 73 = CL at *
  go_upto_region 2 with (first
    | (refine wpList_load_mid rfl _ _ rfl H 0 rfl CL _ HCR.out Try.underlying56 rfl HCL.out ?_)
    | (refine wpList_store_mid rfl _ _ _ rfl w1.heap.size 0 CL.toArray rfl rfl (there_new w1 Z2 _ _ (by rw [List.size_toArray, HCn.out]; exact HZs.out)) HCL2.out HC1.out ?_))
  have hOL : O ≠ w1.heap.size := by omega
  have hsL := al_lt w1 (.cells Z2 56)
  have HL2 : Hid (((w1.alloc (.cells Z2 56)).setCells w1.heap.size 0 CL).rowIs w1.heap.size 56 73 F) := Lib.hid (by
    have h0 := row_new w1 Z2 56
    have hz : Z2.size = 73 := by rw [← HZ2.out]; simp [z73, uv, bv]
    rw [hz] at h0
    refine (row_lay h0 0 CL).congr fun j hj => ?_
    rw [layF, HCn.out, if_pos (by omega), Nat.sub_zero]
    exact HCg.out j hj)
  have HO2 : Hid (((w1.alloc (.cells Z2 56)).setCells w1.heap.size 0 CL).rowIs O 27 32 (fun _ => .int .u8 0)) := Lib.hid (row_apart hOL CL 0 _ (World.rowIs.alloc HO1.out _))
  have HB2 : Hid (Below O w ((w1.alloc (.cells Z2 56)).setCells w1.heap.size 0 CL)) := Lib.hid (below_setCells _ (by omega) CL 0 _ (HB1.out.alloc (by omega) _))
  clear HO1 HR1 HCR HCL HCL2 HC1 HCg HCn HZs HB1 hz2 HZ2 HRow
  generalize (w1.alloc (.cells Z2 56)).setCells w1.heap.size 0 CL = w2 at *
  have hOw1 : O < w1.heap.size := hs1
  generalize hL : w1.heap.size = L at *
  clear hsL hL hs1
  have HFn := Lib.hid (finish_any L 56 F B w2 HL2.out HS.out n hnB hn HB.out)
  have hLw := HL2.out.lt
  go_wp2_with fail
  refine HFn.out.mono ?_
  rintro e w3 ⟨rfl, ⟨F', hf, hs'⟩, hg⟩
  have HL3 := Lib.hid hf
  have HO3 := Lib.hid (World.rowIs.of_block HO2.out (hg.block O HO2.out.lt (fun e => hOL (Option.some.inj e))))
  have HB3 := Lib.hid (HB2.out.grown hg (by omega) (fun k hk => by
    have := Option.some.inj hk
    omega))
  obtain ⟨S, x, hc, hS, -⟩ := hs'
  have hpad : B ++ pad n ≠ [] := by
    intro h
    have := congrArg List.length h
    rw [List.length_append, pad_length] at this
    have := padN_ge n
    simp at *
    omega
  have hSe := hS hpad
  have hS' := hSe
  have HSe := Lib.hid hSe
  obtain ⟨a, b, c, d, e, f, g, h⟩ := S
  have H8c : Hid (w3.rangeAt L 0 [.int .u32 a, .int .u32 b, .int .u32 c, .int .u32 d, .int .u32 e, .int .u32 f, .int .u32 g, .int .u32 h]) := Lib.hid (fun j v hj => by
    have hj8 : j < 8 := (List.getElem?_eq_some_iff.1 hj).1
    rw [Nat.zero_add, HL3.out.cell (by omega), hc.st j hj8, ← hj]
    rcases (show j = 0 ∨ j = 1 ∨ j = 2 ∨ j = 3 ∨ j = 4 ∨ j = 5 ∨ j = 6 ∨ j = 7 from by omega) with rfl | rfl | rfl | rfl | rfl | rfl | rfl | rfl <;> rfl)
  have H8s : Hid ((Try.prog.info? 49).map (·.size) = some ([.int .u32 a, .int .u32 b, .int .u32 c, .int .u32 d, .int .u32 e, .int .u32 f, .int .u32 g, .int .u32 h] : List Value).length) := Lib.hid (by kernel_rfl)
  have HP4 : Hid ((w3.alloc (.cells Z1 27)).rowIs w3.heap.size 27 32 (fun _ => .int .u8 0)) := Lib.hid (by rw [← HZ1.out]; exact row_zeros w3 32 _)
  have HO4 := Lib.hid (World.rowIs.alloc HO3.out (.cells Z1 27))
  have HB4 := Lib.hid (HB3.out.alloc (HO.out ▸ HB3.out.size) (.cells Z1 27))
  have H8d := Lib.hid (World.rangeAt_alloc H8c.out (.cells Z1 27))
  have hO3 := HO3.out.lt
  have hran : Hid (∀ k, k < 8 → 0 ≤ W8.at ⟨a, b, c, d, e, f, g, h⟩ k ∧ W8.at ⟨a, b, c, d, e, f, g, h⟩ k < 4294967296) := Lib.hid (fun k _ => by rw [HSe.out]; exact run_ok _ k)
  clear hf hg hc hS hSe HFn HL2 HO2 HB2 HL3 HO3 HB3 H8c hpad
  go_upto_region 4 with (fail)
  generalize w3.alloc (.cells Z1 27) = w4 at *
  generalize hP : w3.heap.size = P at *
  have hOP : O ≠ P := by omega
  have hPw : Hid (O ≤ P) := Lib.hid (by omega)
  clear hP
  go_wp2_with (refine wpList_load_mid rfl _ _ rfl L 0 rfl _ _ H8d.out Try.underlying49 rfl H8s.out ?_)
  have HD0 : Hid (∀ j, j < 4 * 0 → (fun _ => Value.int .u8 0 : Nat → Value) j = .int .u8 ((dig ⟨a, b, c, d, e, f, g, h⟩).getD j 0)) := Lib.hid (fun j hj => absurd hj (by omega))
  clear H8d H8s hz1 HZ1 HS HB HSe
  have HSe := Lib.hid hS'
  clear hS'
  go_loopw [13] (fun i wr => ∃ (k : Nat) (G : Nat → Value), i = .int .i64 k ∧ k ≤ 8 ∧ Hid (wr.rowIs P 27 32 G) ∧ Hid (∀ j, j < 4 * k → G j = .int .u8 ((dig ⟨a, b, c, d, e, f, g, h⟩).getD j 0)) ∧ Hid (wr.rowIs O 27 32 (fun _ => .int .u8 0)) ∧ Hid (Below O w wr)) (fun i _ => 8 - (intOf i).toNat)
  case atStart => exact ⟨0, _, rfl, by omega, HP4, HD0, HO4, HB4⟩
  case round =>
    clear HP4 HD0 HO4 HB4
    obtain ⟨k, G, rfl, hk, HP, HD, HO4, HB4⟩ := hrel
    by_cases hk8 : k < 8
    · have hidx := idx8 a b c d e f g h k hk8
      have k0 : (0 : Int) ≤ (k : Int) := by omega
      have k1 : (k : Int) < 8 := by omega
      obtain ⟨q, hq⟩ : ∃ q, q = 4 * k := ⟨_, rfl⟩
      have iq : 4 * (k : Int) = (q : Int) := by omega
      have wq : IntKind.i64.wrap (q : Int) = (q : Int) := by simp [IntKind.wrap, IntKind.signed, IntKind.bits]; omega
      have q0 : (0 : Int) ≤ (q : Int) := by omega
      have q1 : (q : Int) ≤ 32 := by omega
      have hne : ¬ 32 = q := by omega
      have HX := Lib.hid (put_any P 27 q (32 - q) (32 - q) 32 G (W8.at ⟨a, b, c, d, e, f, g, h⟩ k) wr (hran.out k hk8).1 (hran.out k hk8).2 (by omega) HP.out (by omega))
      have HP2 := Lib.hid (row_lay HP.out q (bv (wb (W8.at ⟨a, b, c, d, e, f, g, h⟩ k))))
      have HO5 := Lib.hid (row_apart hOP (bv (wb (W8.at ⟨a, b, c, d, e, f, g, h⟩ k))) q wr HO4.out)
      have HB5 := Lib.hid (below_setCells P hPw.out (bv (wb (W8.at ⟨a, b, c, d, e, f, g, h⟩ k))) q wr HB4.out)
      have HD2 : Hid (∀ j, j < 4 * (k + 1) → layF G q (bv (wb (W8.at ⟨a, b, c, d, e, f, g, h⟩ k))) j = .int .u8 ((dig ⟨a, b, c, d, e, f, g, h⟩).getD j 0)) := Lib.hid (fun j hj => by
        have hl : (bv (wb (W8.at ⟨a, b, c, d, e, f, g, h⟩ k))).length = 4 := rfl
        rw [layF, hl, hq]
        by_cases h1 : 4 * k ≤ j ∧ j < 4 * k + 4
        · rw [if_pos h1]
          have h2 := dig_word ⟨a, b, c, d, e, f, g, h⟩ k (j - 4 * k) hk8 (by omega)
          rw [show 4 * k + (j - 4 * k) = j by omega] at h2
          rw [h2]
          have hw : (wb (W8.at ⟨a, b, c, d, e, f, g, h⟩ k)).length = 4 := rfl
          simp [bv, List.getD, hw, show j - 4 * k < 4 by omega]
        · rw [if_neg h1]
          exact HD.out j (by omega))
      clear hq
      clear HP HD HO4 HB4
      generalize W8.at ⟨a, b, c, d, e, f, g, h⟩ k = X at *
      go_wp2_with fail
      refine HX.out.mono ?_
      rintro e w' ⟨rfl, rfl⟩
      clear HX
      go_wp2_with fail
      go_roundw
      case rel => exact ⟨k + 1, _, by go_num, by omega, HP2, HD2, HO5, HB5⟩
      case measure => simp [intOf]; omega
    · have hk2 : k = 8 := by omega
      have hdl := dig_length ⟨a, b, c, d, e, f, g, h⟩
      have hD2 : ∀ j, j < 32 → G j = .int .u8 ((dig ⟨a, b, c, d, e, f, g, h⟩).getD j 0) := fun j hj => HD.out j (by omega)
      have HRg : Hid (wr.rangeAt P 0 (bv (dig ⟨a, b, c, d, e, f, g, h⟩))) := Lib.hid (fun j v hj => by
        have hl := (List.getElem?_eq_some_iff.1 hj).1
        rw [bv, List.length_map, hdl] at hl
        rw [Nat.zero_add, HP.out.cell hl, hD2 j hl, ← hj]
        simp [bv, hdl, hl])
      have hbl : (bv (dig ⟨a, b, c, d, e, f, g, h⟩)).length = 32 := by rw [bv, List.length_map, hdl]
      have HSz : Hid ((Try.prog.info? 27).map (·.size) = some (bv (dig ⟨a, b, c, d, e, f, g, h⟩)).length) := Lib.hid (by rw [hbl]; kernel_rfl)
      have HSz2 : Hid ((Try.prog.info? 27).map (·.size) = some (bv (dig ⟨a, b, c, d, e, f, g, h⟩)).toArray.size) := Lib.hid (by rw [List.size_toArray]; exact HSz.out)
      have HOne := Lib.hid (all_oneCell_toArray (bv_one (dig ⟨a, b, c, d, e, f, g, h⟩)))
      have HTh : Hid (wr.there O 0 (bv (dig ⟨a, b, c, d, e, f, g, h⟩)).toArray.size) := Lib.hid (fun j hj => by
        rw [List.size_toArray, hbl] at hj
        rw [Nat.zero_add]
        exact ⟨by rw [HO4.out.cell hj]; rfl, HO4.out.frozen _⟩)
      have HSt := Lib.hid (row_stored HO4.out (bv (dig ⟨a, b, c, d, e, f, g, h⟩)) hbl)
      have HBf := Lib.hid (below_setCells O (Nat.le_refl _) (bv (dig ⟨a, b, c, d, e, f, g, h⟩)) 0 wr HB4.out)
      have HDg : Hid (bv (dig ⟨a, b, c, d, e, f, g, h⟩) = bv (dig (run (B ++ pad n)))) := Lib.hid (by rw [HSe.out])
      have hkd : decide ((k : Int) < 8) = false := by simp; omega
      clear HD HP HO4 HB4 hD2 hdl hbl hk2
      generalize bv (dig ⟨a, b, c, d, e, f, g, h⟩) = DL at *
      go_wp2_with (first
        | (refine wpList_load_mid rfl _ _ rfl P 0 rfl DL _ HRg.out Try.underlying27 rfl HSz.out ?_)
        | (refine wpList_store_mid rfl _ _ _ rfl O 0 DL.toArray rfl rfl HTh.out HSz2.out HOne.out ?_))
      refine bodyPost_ret (results_cell_row rfl _ _ O _ _ _ _ rfl HSt.out Try.underlying27 rfl HSz2.out) rfl ?_
      refine ⟨by rw [HDg.out], ?_⟩
      rw [HO.out]
      exact HBf.out
end Go.Proofs.Ytgmcdkkjemjneaa.Sm
