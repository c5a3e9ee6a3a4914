/- New, Write, Of. -/
import Derived.Test.YtgmcdkkjemjneaaSmSum
namespace Go.Proofs.Ytgmcdkkjemjneaa.Sm
open Go.RowKit
set_option linter.unusedVariables false

/-- the sum of bytes -/
def sha (D : List Int) : List Int := dig (run (D ++ pad D.length))

/-- a row of bytes that does not lie in block H -/
def RowOk (w : World) (H : Nat) (A : Option Addr) (m C : Nat) (l : List Int) : Prop :=
  l.length = m ∧ m ≤ C ∧ C ≤ 9223372036854775807 ∧ (∀ i, i < m → 0 ≤ l.getD i 0 ∧ l.getD i 0 ≤ 255) ∧ ∃ g o, (0 < m → A = some ⟨g, o, none⟩) ∧ g ≠ H ∧ g < w.heap.size ∧ ∀ i, i < m → w.cell? ⟨g, o + i, none⟩ = some (.int .u8 (l.getD i 0))

theorem RowOk.grown {w w' : World} {H : Nat} {A : Option Addr} {m C : Nat} {l : List Int} (h : RowOk w H A m C l) (hG : w.grownBy w' (some H)) : RowOk w' H A m C l := by
  obtain ⟨h1, h2, h3, h4, g, o, h5, h6, h7, h8⟩ := h
  exact ⟨h1, h2, h3, h4, g, o, h5, h6, Nat.lt_of_lt_of_le h7 hG.size, fun i hi => by rw [src_cell hG h7 h6, h8 i hi]⟩

/-- the bytes of the first k rows -/
def rowsTo (lf : Nat → List Int) (k : Nat) : List Int := (List.range k).flatMap lf
theorem rowsTo_succ (lf : Nat → List Int) (k : Nat) : rowsTo lf (k + 1) = rowsTo lf k ++ lf k := by simp [rowsTo, List.range_succ]

theorem getD_append_range (a b : List Int) (ha : ∀ i, i < a.length → 0 ≤ a.getD i 0 ∧ a.getD i 0 ≤ 255) (hb : ∀ i, i < b.length → 0 ≤ b.getD i 0 ∧ b.getD i 0 ≤ 255) : ∀ i, i < (a ++ b).length → 0 ≤ (a ++ b).getD i 0 ∧ (a ++ b).getD i 0 ≤ 255 := by
  intro i hi
  rw [List.length_append] at hi
  simp only [List.getD] at *
  by_cases h : i < a.length
  · rw [List.getElem?_append_left h]; exact ha i h
  · rw [List.getElem?_append_right (by omega)]; exact hb (i - a.length) (by omega)

set_option maxRecDepth 100000 in
set_option maxHeartbeats 2000000 in
theorem write_any (H tH : Nat) (F : Nat → Value) (B : List Int) (Ar : Option Addr) (gr orr N Cr : Nat) (Af : Nat → Option Addr) (mf Cf : Nat → Nat) (lf : Nat → List Int) (w : World) (hrow : w.rowIs H tH 73 F) (hs : Hs B F)
    (hN : N ≤ Cr) (hCr : Cr ≤ 9223372036854775807) (hbig : N ≤ 10000000) (hAr : 0 < N → Ar = some ⟨gr, orr, none⟩) (hgr : gr ≠ H) (hgw : gr < w.heap.size) (hcell : ∀ i, i < N → w.cell? ⟨gr, orr + i, none⟩ = some (.slice (Af i) (mf i) (Cf i)))
    (hok : ∀ i, i < N → RowOk w H (Af i) (mf i) (Cf i) (lf i)) (htot : ∀ k, k ≤ N → B.length + (rowsTo lf k).length ≤ 1099511627776) (hB : ∀ i, i < B.length → 0 ≤ B.getD i 0 ∧ B.getD i 0 ≤ 255) :
    Calls Try.prog 12 #[.pointer (some ⟨H, 0, none⟩), .slice Ar N Cr] w fun e w' => e = .returned (.tuple #[]) ∧ (∃ F', w'.rowIs H tH 73 F' ∧ Hs (B ++ rowsTo lf N) F') ∧ w.grownBy w' (some H) ∧ ∀ i, i < (B ++ rowsTo lf N).length → 0 ≤ (B ++ rowsTo lf N).getD i 0 ∧ (B ++ rowsTo lf N).getD i 0 ≤ 255 := by
  have HRow := Lib.hid hrow
  have HS := Lib.hid (show Hs (B ++ rowsTo lf 0) F by simpa [rowsTo] using hs)
  have HCe := Lib.hid hcell
  have HOk := Lib.hid hok
  have HTot := Lib.hid htot
  have HB0 := Lib.hid (show ∀ i, i < (B ++ rowsTo lf 0).length → 0 ≤ (B ++ rowsTo lf 0).getD i 0 ∧ (B ++ rowsTo lf 0).getD i 0 ≤ 255 by simpa [rowsTo] using hB)
  have HA := Lib.hid hAr
  have HG0 := Lib.hid (World.grownBy.refl w (some H))
  clear hrow hs hcell hok htot hB hAr
  go_enter Try.func12, Try.ntmps12
  go_wp2_with fail
  go_loopw [8] (fun i wr => ∃ (k : Nat) (F : Nat → Value), i = .int .i64 k ∧ k ≤ N ∧ Hid (wr.rowIs H tH 73 F) ∧ Hid (Hs (B ++ rowsTo lf k) F) ∧ Hid (w.grownBy wr (some H)) ∧ Hid (∀ i, i < (B ++ rowsTo lf k).length → 0 ≤ (B ++ rowsTo lf k).getD i 0 ∧ (B ++ rowsTo lf k).getD i 0 ≤ 255)) (fun i _ => N - (intOf i).toNat)
  case atStart => exact ⟨0, F, rfl, Nat.zero_le _, HRow, HS, HG0, HB0⟩
  case round =>
    clear HRow HS HG0 HB0
    obtain ⟨k, F, rfl, hk, HRow, HS, HG, HB⟩ := hrel
    by_cases hlt : k < N
    · have hAe := HA.out (by omega)
      subst hAe
      have hc : wr.cell? ⟨gr, orr + k, none⟩ = some (.slice (Af k) (mf k) (Cf k)) := by rw [src_cell HG.out hgw hgr, HCe.out k hlt]
      obtain ⟨h1, h2, h3, h4, g, o, h5, h6, h7, h8⟩ := (HOk.out k hlt).grown HG.out
      have ht := HTot.out (k + 1) (by omega)
      rw [rowsTo_succ, List.length_append, h1] at ht
      have HT := Lib.hid (take_any H tH F (B ++ rowsTo lf k) (Af k) g o (mf k) (Cf k) (lf k) wr HRow.out HS.out _ rfl (by rw [List.length_append]; omega) h1 h2 h3 h5 h6 h7 h4 HB.out h8)
      have HB2 := Lib.hid (getD_append_range (B ++ rowsTo lf k) (lf k) HB.out (by rw [h1]; exact h4))
      rw [List.append_assoc, ← rowsTo_succ] at HT HB2
      have k0 : (0 : Int) ≤ (k : Int) := by omega
      clear h1 h2 h3 h4 h5 h6 h7 h8 ht HRow HS HB
      go_wp2_with fail
      refine HT.out.mono ?_
      rintro e w' ⟨rfl, ⟨F', hf, hs'⟩, hg⟩
      have HR2 := Lib.hid hf
      have HS2 := Lib.hid hs'
      have HG2 := Lib.hid (grown_trans HG.out hg)
      clear hf hs' hg HT HG hc
      go_wp2_with fail
      go_roundw
      case rel => exact ⟨k + 1, F', by go_num, by omega, HR2, HS2, HG2, HB2⟩
      case measure => simp [intOf]; omega
    · have e : k = N := by omega
      subst e
      go_wp2_with fail
      go_end0
      exact ⟨rfl, ⟨F, HRow.out, HS.out⟩, HG.out, HB.out⟩

set_option maxRecDepth 100000 in
theorem new_any (w : World) : Calls Try.prog 11 #[] w fun e w' => e = .returned (.pointer (some ⟨w.heap.size, 0, none⟩)) ∧ w' = w.alloc (.cells z73.toArray 56) := by
  have hz2 := zeroH
  generalize hZ2 : z73.toArray = Z2 at *
  clear hZ2
  have hcl : (Value.agg Z2).cells = Z2 := rfl
  go_enter Try.func11, Try.ntmps11
  go_wp2
  go_ret
  exact ⟨rfl, rfl⟩

theorem bv_zero (N j : Nat) (h : j < N) : (bv (List.replicate N 0))[j]? = some (.int .u8 0) := by simp [bv, h]
theorem hs_new (w : World) : ∃ F, (w.alloc (.cells z73.toArray 56)).rowIs w.heap.size 56 73 F ∧ Hs [] F := by
  have h := row_new w z73.toArray 56
  have hz : z73.toArray.size = 73 := by simp [z73, uv, bv]
  rw [hz] at h
  refine ⟨_, h, ⟨0, 0, 0, 0, 0, 0, 0, 0⟩, fun _ => 0, ⟨fun j hj => ?_, fun j hj => ?_, ?_⟩, fun hne => absurd rfl hne, fun j hj => absurd hj (by simp)⟩
  · rcases (show j = 0 ∨ j = 1 ∨ j = 2 ∨ j = 3 ∨ j = 4 ∨ j = 5 ∨ j = 6 ∨ j = 7 from by omega) with rfl | rfl | rfl | rfl | rfl | rfl | rfl | rfl <;> rfl
  · have e : z73.toArray.getD (8 + j) undef = z73.getD (8 + j) undef := by simp
    have hA : (uv (List.replicate 8 0)).length = 8 := by rw [uv, List.length_map, List.length_replicate]
    have hB : (bv (List.replicate 64 0)).length = 64 := by rw [bv, List.length_map, List.length_replicate]
    rw [e, z73, List.getD, List.getElem?_append_right (by omega), hA, show 8 + j - 8 = j by omega, List.getElem?_append_left (by omega), bv_zero 64 j hj]
    rfl
  · rfl

set_option maxRecDepth 100000 in
set_option maxHeartbeats 2000000 in
theorem of_any (Ar : Option Addr) (gr orr N Cr : Nat) (Af : Nat → Option Addr) (mf Cf : Nat → Nat) (lf : Nat → List Int) (w : World)
    (hN : N ≤ Cr) (hCr : Cr ≤ 9223372036854775807) (hbig : N ≤ 10000000) (hAr : 0 < N → Ar = some ⟨gr, orr, none⟩) (hgw : 0 < N → gr < w.heap.size) (hcell : ∀ i, i < N → w.cell? ⟨gr, orr + i, none⟩ = some (.slice (Af i) (mf i) (Cf i)))
    (hok : ∀ i, i < N → RowOk w w.heap.size (Af i) (mf i) (Cf i) (lf i)) (htot : ∀ k, k ≤ N → (rowsTo lf k).length ≤ 1099511627776) :
    Calls Try.prog 9 #[.slice Ar N Cr] w fun e w' => e = .returned (.agg (bv (sha (rowsTo lf N))).toArray) ∧ Below w.heap.size w w' := by
  obtain ⟨g2, hg2, hA2, hc2⟩ : ∃ g2, g2 ≤ w.heap.size ∧ (0 < N → Ar = some ⟨g2, orr, none⟩) ∧ (∀ i, i < N → g2 < w.heap.size ∧ w.cell? ⟨g2, orr + i, none⟩ = some (.slice (Af i) (mf i) (Cf i))) := by
    by_cases h : 0 < N
    · exact ⟨gr, Nat.le_of_lt (hgw h), hAr, fun i hi => ⟨hgw h, hcell i hi⟩⟩
    · exact ⟨w.heap.size, Nat.le_refl _, fun h' => absurd h' h, fun i hi => absurd hi (by omega)⟩
  clear hcell hAr hgw
  have hz1 := zero32
  generalize hZ1 : (bv (List.replicate 32 0)).toArray = Z1 at *
  have HZ1 := Lib.hid hZ1
  clear hZ1
  have HCe := Lib.hid hc2
  have HOk := Lib.hid hok
  have HTot := Lib.hid htot
  have HA := Lib.hid hA2
  clear hc2 hok htot hA2
  go_enter Try.func9, Try.ntmps9
  go_upto_region 1 with (fail)
  have HB1 := Lib.hid ((Below.refl w.heap.size w).alloc (Nat.le_refl _) (.cells Z1 27))
  have HO1 : Hid ((w.alloc (.cells Z1 27)).rowIs w.heap.size 27 32 (fun _ => .int .u8 0)) := Lib.hid (by
    rw [← HZ1.out]
    exact row_zeros w 32 _)
  have hs1 := al_lt w (.cells Z1 27)
  generalize w.alloc (.cells Z1 27) = w1 at *
  generalize hO : w.heap.size = O at *
  have HO := Lib.hid hO
  clear hO
  clear hz1 HZ1
  go_wp2_with fail
  refine (new_any w1).mono ?_
  rintro e w2 ⟨rfl, hw2⟩
  obtain ⟨F, hr, hs⟩ := hs_new w1
  rw [← hw2] at hr
  have HO2 : Hid (w2.rowIs O 27 32 (fun _ => .int .u8 0)) := Lib.hid (by rw [hw2]; exact World.rowIs.alloc HO1.out _)
  have HB2 : Hid (Below O w w2) := Lib.hid (by rw [hw2]; exact HB1.out.alloc (by omega) _)
  have hs2 : w1.heap.size < w2.heap.size := by rw [hw2]; exact al_lt w1 _
  generalize hH : w1.heap.size = H at *
  have HW := Lib.hid (write_any H 56 F [] Ar g2 orr N Cr Af mf Cf lf w2 hr hs hN hCr hbig HA.out (by omega) (by omega) (fun i hi => by
    have h := HCe.out i hi
    rw [HB2.out.cell (p := ⟨g2, orr + i, none⟩) (by have hOw := HO.out; show g2 < O; omega)]; exact h.2) (fun i hi => by
    obtain ⟨h1, h2, h3, h4, g, o, h5, h6, h7, h8⟩ := HOk.out i hi
    have hOw := HO.out
    exact ⟨h1, h2, h3, h4, g, o, h5, by omega, by omega, fun j hj => by rw [HB2.out.cell (p := ⟨g, o + j, none⟩) (by show g < O; omega)]; exact h8 j hj⟩) (fun k hk => by simpa using HTot.out k hk) (fun i hi => absurd hi (by simp)))
  rw [List.nil_append] at HW
  clear hr hs hH hw2 HO1 HB1
  go_wp2_with fail
  refine HW.out.mono ?_
  rintro e w3 ⟨rfl, ⟨F', hf, hs'⟩, hg, hB⟩
  have HO3 := Lib.hid (World.rowIs.of_block HO2.out (hg.block O (by omega) (fun e => by have := Option.some.inj e; omega)))
  have HB3 := Lib.hid (HB2.out.grown hg (by omega) (fun k hk => by
    have := Option.some.inj hk
    omega))
  have HSm := Lib.hid (sum_any H 56 F' (rowsTo lf N) w3 hf hs' _ rfl (HTot.out N (Nat.le_refl _)) hB)
  have hO3 := HO3.out.lt
  clear hf hs' hg hB HW HO2 HB2
  go_wp2_with fail
  refine HSm.out.mono ?_
  rintro e w4 ⟨rfl, hb4⟩
  have HO4 := Lib.hid (World.rowIs.of_block HO3.out (hb4.block O hO3))
  have HB4 := Lib.hid (HB3.out.trans (hb4.mono (by omega)))
  have hdl := dig_length (run (rowsTo lf N ++ pad (rowsTo lf N).length))
  have HDg : Hid (bv (dig (run (rowsTo lf N ++ pad (rowsTo lf N).length))) = bv (sha (rowsTo lf N))) := Lib.hid rfl
  have hbl : (bv (dig (run (rowsTo lf N ++ pad (rowsTo lf N).length)))).length = 32 := by rw [bv, List.length_map, hdl]
  have HSz2 : Hid ((Try.prog.info? 27).map (·.size) = some (bv (dig (run (rowsTo lf N ++ pad (rowsTo lf N).length)))).toArray.size) := Lib.hid (by rw [List.size_toArray, hbl]; kernel_rfl)
  have HOne := Lib.hid (all_oneCell_toArray (bv_one (dig (run (rowsTo lf N ++ pad (rowsTo lf N).length)))))
  have HTh : Hid (w4.there O 0 (bv (dig (run (rowsTo lf N ++ pad (rowsTo lf N).length)))).toArray.size) := Lib.hid (fun j hj => by
    rw [List.size_toArray, hbl] at hj
    rw [Nat.zero_add]
    exact ⟨by rw [HO4.out.cell hj]; rfl, HO4.out.frozen _⟩)
  have HSt := Lib.hid (row_stored HO4.out (bv (dig (run (rowsTo lf N ++ pad (rowsTo lf N).length)))) hbl)
  have HBf := Lib.hid (below_setCells O (Nat.le_refl _) (bv (dig (run (rowsTo lf N ++ pad (rowsTo lf N).length)))) 0 w4 HB4.out)
  clear hb4 hdl hbl HSm HO3 HB3 HO4 HB4
  generalize bv (dig (run (rowsTo lf N ++ pad (rowsTo lf N).length))) = DL at *
  go_wp2_with (refine wpList_store_mid rfl _ _ _ rfl O 0 DL.toArray rfl rfl HTh.out HSz2.out HOne.out ?_)
  refine bodyPost_ret (results_cell_row rfl _ _ O _ _ _ _ rfl HSt.out Try.underlying27 rfl HSz2.out) rfl ?_
  refine ⟨by rw [HDg.out], ?_⟩
  rw [HO.out]
  exact HBf.out
end Go.Proofs.Ytgmcdkkjemjneaa.Sm
