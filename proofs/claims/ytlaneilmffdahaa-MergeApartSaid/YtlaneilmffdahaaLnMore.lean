/- What the table tells, walked. -/
import Derived.Test.YtlaneilmffdahaaLnTab
import Derived.Deep.RegionHeld3
namespace Go.Proofs.Ytlaneilmffdahaa.Ln
open Go.RowKit
set_option linter.unusedVariables false
/-- the table, as it lies behind keepable -/
structure TabOk (w : World) (g : Nat) (za zb : List Int) (rows cols N : Nat) : Prop where
  hr : rows ≤ za.length
  hc : cols ≤ zb.length
  same : za.drop rows = zb.drop cols
  hN : N = (rows + 1) * (cols + 1)
  row : w.rowIs g 103 N (fun idx => .int .u16 ((tcell (za.take rows) (zb.take cols) (cols + 1) idx : Nat) : Int))
theorem TabOk.below {w w' : World} {g : Nat} {za zb : List Int} {rows cols N : Nat} (h : TabOk w g za zb rows cols N) (hb : Below w.heap.size w w') : TabOk w' g za zb rows cols N :=
  ⟨h.hr, h.hc, h.same, h.hN, h.row.of_block (hb.block g h.row.lt)⟩
theorem TabOk.drew {w : World} {g : Nat} {za zb : List Int} {rows cols N : Nat} (h : TabOk w g za zb rows cols N) : TabOk w.drew g za zb rows cols N := ⟨h.hr, h.hc, h.same, h.hN, h.row⟩
theorem TabOk.drewN {w : World} {g : Nat} {za zb : List Int} {rows cols N : Nat} (h : TabOk w g za zb rows cols N) (n : Nat) : TabOk (w.drewN n) g za zb rows cols N := ⟨h.hr, h.hc, h.same, h.hN, h.row⟩
theorem TabOk.kp {ts : List TypeId} {w w' : World} {g : Nat} {za zb : List Int} {rows cols N : Nat} (h : TabOk w g za zb rows cols N) (hb : Kp ts w w') (ht : 103 ∉ ts) : TabOk w' g za zb rows cols N :=
  ⟨h.hr, h.hc, h.same, h.hN, hb.rowIs h.row ht⟩
set_option maxHeartbeats 400000 in
theorem at_any (g rows cols N : Nat) (more : Int) (za zb : List Int) (i j : Int) (w : World) (h : TabOk w g za zb rows cols N) (br : rows ≤ 4000) (bc : cols ≤ 4000) (i0 : 0 ≤ i) (i1 : i ≤ rows) (j0 : 0 ≤ j) (j1 : j ≤ cols) :
    Calls Try.prog 61 #[.agg #[.slice (some ⟨g, 0, none⟩) N N, .int .i64 (rows : Int), .int .i64 (cols : Int), .int .i64 more], .int .i64 i, .int .i64 j] w fun e w' =>
      e = .returned (.int .u16 ((lcs ((za.take rows).drop i.toNat) ((zb.take cols).drop j.toNat) : Nat) : Int)) ∧ Below w.heap.size w w' := by
  obtain ⟨i, rfl⟩ := Int.eq_ofNat_of_zero_le i0
  obtain ⟨j, rfl⟩ := Int.eq_ofNat_of_zero_le j0
  rw [Int.toNat_natCast, Int.toNat_natCast]
  obtain ⟨p, HP⟩ : ∃ p, Hid (p = i * (cols + 1)) := ⟨_, Lib.hid rfl⟩
  have hp : p + j < N := by
    rw [HP.out, h.hN]
    have := Nat.mul_le_mul_right (cols + 1) (show i + 1 ≤ rows + 1 by omega)
    rw [Nat.add_mul] at this
    omega
  have hNb : N ≤ 16008001 := by rw [h.hN]; exact Nat.le_trans (Nat.mul_le_mul (show rows + 1 ≤ 4001 by omega) (show cols + 1 ≤ 4001 by omega)) (Nat.le_of_eq rfl)
  have hm1 : IntKind.i64.wrap ((i : Int) * ((cols : Int) + 1)) = (p : Int) := by
    have e : (i : Int) * ((cols : Int) + 1) = (p : Int) := by rw [HP.out]; simp
    rw [e]; exact IntWalk.i64_in _ (by omega)
  have hcell := h.row.cell hp
  have ht := tcell_at (za.take rows) (zb.take cols) (cols + 1) i j (by omega)
  rw [← HP.out] at ht
  rw [ht] at hcell
  have hlt := h.row.lt
  have HB := Lib.hid (Below.refl w.heap.size w)
  clear ht h
  go_enter Try.func61, Try.ntmps61
  go_wp2
  go_ret
  exact ⟨rfl, HB.out.alloc (Nat.le_refl _) _⟩
theorem drop_take_append (z : List Int) (r i : Nat) (hi : i ≤ r) : z.drop i = (z.take r).drop i ++ z.drop r := by
  rw [List.drop_take]
  have := List.take_append_drop (r - i) (z.drop i)
  rw [List.drop_drop, show i + (r - i) = r from by omega] at this
  exact this.symm
/-- what the table of the lines ahead of the common end tells of all of them -/
theorem tab_tells {za zb : List Int} {rows cols i j : Nat} (hs : za.drop rows = zb.drop cols) (hi : i < rows) (hj : j < cols) :
    (lcs ((za.take rows).drop i) ((zb.take cols).drop (j + 1)) ≤ lcs ((za.take rows).drop (i + 1)) ((zb.take cols).drop j)) ↔ (lcs (za.drop i) (zb.drop (j + 1)) ≤ lcs (za.drop (i + 1)) (zb.drop j)) := by
  rw [drop_take_append za rows i (by omega), drop_take_append za rows (i + 1) (by omega), drop_take_append zb cols j (by omega), drop_take_append zb cols (j + 1) (by omega), hs, lcs_end, lcs_end]
  omega
theorem suffix_of_drop {a b : List Int} {i j : Nat} (h : a.drop i = b.drop j) : ∀ k l, i ≤ k → k ≤ a.length → l ≤ b.length → a.length - k ≤ b.length - l → a.drop k <:+ b.drop l := by
  intro k l hk ha hl hlen
  have e1 : a.length - i = b.length - j := by have := congrArg List.length h; simpa using this
  have e : a.drop k = b.drop (j + (k - i)) := by
    have := congrArg (List.drop (k - i)) h
    rw [List.drop_drop, List.drop_drop, show i + (k - i) = k from by omega] at this
    exact this
  rw [e]
  rw [show j + (k - i) = l + (j + (k - i) - l) from by omega, ← List.drop_drop]
  exact List.drop_suffix _ _
/-- behind the common end's beginning the longer side loses -/
theorem end_tells {za zb : List Int} {rows cols i j : Nat} (hs : za.drop rows = zb.drop cols) (hr : rows ≤ za.length) (hc : cols ≤ zb.length) (hi : i < za.length) (hj : j < zb.length) (hne : za.getD i 0 ≠ zb.getD j 0) (h : rows ≤ i ∨ cols ≤ j) :
    (lcs (za.drop i) (zb.drop (j + 1)) ≤ lcs (za.drop (i + 1)) (zb.drop j)) ↔ (zb.length - j < za.length - i) := by
  have e1 : za.length - rows = zb.length - cols := by have := congrArg List.length hs; simpa using this
  have hsf : za.drop i <:+ zb.drop j ∨ zb.drop j <:+ za.drop i := by
    rcases Nat.lt_or_ge (zb.length - j) (za.length - i) with h1 | h1
    · exact Or.inr (suffix_of_drop hs.symm j i (by omega) (by omega) (by omega) (by omega))
    · exact Or.inl (suffix_of_drop hs i j (by omega) (by omega) (by omega) (by omega))
  have m := more_end (x := za[i]) (y := zb[j]) (p := za.drop (i + 1)) (q := zb.drop (j + 1)) (by simpa [hi, hj] using hne) (by rw [← List.drop_eq_getElem_cons hi, ← List.drop_eq_getElem_cons hj]; exact hsf)
  rw [← List.drop_eq_getElem_cons hi, ← List.drop_eq_getElem_cons hj, List.length_drop, List.length_drop] at m
  exact m
/-- the answer of moreBehind -/
def mbB (za zb : List Int) (i j : Nat) : Bool := decide (lcs (za.drop i) (zb.drop (j + 1)) ≤ lcs (za.drop (i + 1)) (zb.drop j))
set_option maxRecDepth 100000 in
set_option maxHeartbeats 1000000 in
theorem moreBehind_any (g rows cols N : Nat) (more : Int) (za zb : List Int) (i j : Nat) (w : World) (h : TabOk w g za zb rows cols N) (ba : za.length ≤ 4000) (bb : zb.length ≤ 4000) (hm : more = (za.length : Int) - (zb.length : Int)) (hi : i < za.length) (hj : j < zb.length) (hne : za.getD i 0 ≠ zb.getD j 0) :
    Calls Try.prog 59 #[.agg #[.slice (some ⟨g, 0, none⟩) N N, .int .i64 (rows : Int), .int .i64 (cols : Int), .int .i64 more], .int .i64 i, .int .i64 j] w fun e w' =>
      e = .returned (.bool (mbB za zb i j)) ∧ Below w.heap.size w w' := by
  have h1 := h.hr
  have h2 := h.hc
  by_cases hij : i < rows ∧ j < cols
  · obtain ⟨hi2, hj2⟩ := hij
    have HT := tab_tells h.same hi2 hj2
    have HB : Hid (mbB za zb i j = decide (lcs ((za.take rows).drop i) ((zb.take cols).drop (j + 1)) ≤ lcs ((za.take rows).drop (i + 1)) ((zb.take cols).drop j))) := Lib.hid (by unfold mbB; simp only [HT])
    have b1 := lcs_le_left ((za.take rows).drop i) ((zb.take cols).drop (j + 1))
    have b2 := lcs_le_left ((za.take rows).drop (i + 1)) ((zb.take cols).drop j)
    have HH := Lib.hid h
    have hd1 : decide (i < rows) = true := by simp; omega
    have hd2 : decide (j < cols) = true := by simp; omega
    clear HT h hm hne
    rw [HB.out]
    go_enter Try.func59, Try.ntmps59
    go_wp2
    have hblk := heap_alloc_new w (Obj.cells #[.slice (some ⟨g, 0, none⟩) N N, .int .i64 (rows : Int), .int .i64 (cols : Int), .int .i64 more] 98)
    have HT := Lib.hid (HH.out.below ((Below.refl w.heap.size w).alloc (Nat.le_refl _) (Obj.cells #[.slice (some ⟨g, 0, none⟩) N N, .int .i64 (rows : Int), .int .i64 (cols : Int), .int .i64 more] 98)))
    have HBl := Lib.hid ((Below.refl w.heap.size w).alloc (Nat.le_refl _) (Obj.cells #[.slice (some ⟨g, 0, none⟩) N N, .int .i64 (rows : Int), .int .i64 (cols : Int), .int .i64 more] 98))
    have hsz : (w.alloc (Obj.cells #[.slice (some ⟨g, 0, none⟩) N N, .int .i64 (rows : Int), .int .i64 (cols : Int), .int .i64 more] 98)).heap.size = w.heap.size + 1 := by simp
    generalize w.alloc _ = W1 at *
    have HTd := Lib.hid HT.out.drew
    have HSa : Hid (W1.cell? ⟨w.heap.size, 0, none⟩ = some (.slice (some ⟨g, 0, none⟩) N N) ∧ W1.cell? ⟨w.heap.size, 1, none⟩ = some (.int .i64 (rows : Int)) ∧ W1.cell? ⟨w.heap.size, 2, none⟩ = some (.int .i64 (cols : Int)) ∧ W1.cell? ⟨w.heap.size, 3, none⟩ = some (.int .i64 more)) := Lib.hid ⟨cell_of_row W1 _ 0 _ _ _ hblk, cell_of_row W1 _ 1 _ _ _ hblk, cell_of_row W1 _ 2 _ _ _ hblk, cell_of_row W1 _ 3 _ _ _ hblk⟩
    have Hsz := Lib.hid hsz
    clear hsz hblk HH
    have HC1 := Lib.hid (at_any g rows cols N more za zb (↑i + 1) ↑j W1.drew HTd.out (by omega) (by omega) (by omega) (by omega) (by omega) (by omega))
    have HC2 := Lib.hid (fun W (hW : TabOk W g za zb rows cols N) => at_any g rows cols N more za zb ↑i (↑j + 1) W hW (by omega) (by omega) (by omega) (by omega) (by omega) (by omega))
    have hw1 : IntKind.i64.wrap ((i : Int) + 1) = (i : Int) + 1 := IntWalk.i64_in _ (by omega)
    have hw2 : IntKind.i64.wrap ((j : Int) + 1) = (j : Int) + 1 := IntWalk.i64_in _ (by omega)
    go_region_held3 (fun wS => wS.cell? ⟨w.heap.size, 0, none⟩ = some (.slice (some ⟨g, 0, none⟩) N N) ∧ wS.cell? ⟨w.heap.size, 1, none⟩ = some (.int .i64 (rows : Int)) ∧ wS.cell? ⟨w.heap.size, 2, none⟩ = some (.int .i64 (cols : Int)) ∧ wS.cell? ⟨w.heap.size, 3, none⟩ = some (.int .i64 more)) (first | exact HSc.out | exact HSb.out | exact HSa.out) (first
      | (go_at_call 61
         (with_reducible refine HC1.out.mono ?_)
         rintro e w5 ⟨rfl, hb5⟩
         have HB5 := Lib.hid hb5
         have HT5 := Lib.hid (HTd.out.below hb5)
         have HSb : Hid (w5.cell? ⟨w.heap.size, 0, none⟩ = some (.slice (some ⟨g, 0, none⟩) N N) ∧ w5.cell? ⟨w.heap.size, 1, none⟩ = some (.int .i64 (rows : Int)) ∧ w5.cell? ⟨w.heap.size, 2, none⟩ = some (.int .i64 (cols : Int)) ∧ w5.cell? ⟨w.heap.size, 3, none⟩ = some (.int .i64 more)) := Lib.hid ⟨(hb5.cell (p := ⟨w.heap.size, 0, none⟩) (by show w.heap.size < W1.heap.size; rw [Hsz.out]; exact Nat.lt_succ_self _)).trans HSa.out.1, (hb5.cell (p := ⟨w.heap.size, 1, none⟩) (by show w.heap.size < W1.heap.size; rw [Hsz.out]; exact Nat.lt_succ_self _)).trans HSa.out.2.1, (hb5.cell (p := ⟨w.heap.size, 2, none⟩) (by show w.heap.size < W1.heap.size; rw [Hsz.out]; exact Nat.lt_succ_self _)).trans HSa.out.2.2.1, (hb5.cell (p := ⟨w.heap.size, 3, none⟩) (by show w.heap.size < W1.heap.size; rw [Hsz.out]; exact Nat.lt_succ_self _)).trans HSa.out.2.2.2⟩
         clear hb5)
      | (go_at_call 61
         (with_reducible refine (HC2.out _ HT5.out).mono ?_)
         rintro e w6 ⟨rfl, hb6⟩
         have HB6 := Lib.hid hb6
         have HSc : Hid (w6.cell? ⟨w.heap.size, 0, none⟩ = some (.slice (some ⟨g, 0, none⟩) N N) ∧ w6.cell? ⟨w.heap.size, 1, none⟩ = some (.int .i64 (rows : Int)) ∧ w6.cell? ⟨w.heap.size, 2, none⟩ = some (.int .i64 (cols : Int)) ∧ w6.cell? ⟨w.heap.size, 3, none⟩ = some (.int .i64 more)) := Lib.hid ⟨(hb6.cell (p := ⟨w.heap.size, 0, none⟩) (Nat.lt_of_lt_of_le (by show w.heap.size < W1.heap.size; rw [Hsz.out]; exact Nat.lt_succ_self _) HB5.out.size)).trans HSb.out.1, (hb6.cell (p := ⟨w.heap.size, 1, none⟩) (Nat.lt_of_lt_of_le (by show w.heap.size < W1.heap.size; rw [Hsz.out]; exact Nat.lt_succ_self _) HB5.out.size)).trans HSb.out.2.1, (hb6.cell (p := ⟨w.heap.size, 2, none⟩) (Nat.lt_of_lt_of_le (by show w.heap.size < W1.heap.size; rw [Hsz.out]; exact Nat.lt_succ_self _) HB5.out.size)).trans HSb.out.2.2.1, (hb6.cell (p := ⟨w.heap.size, 3, none⟩) (Nat.lt_of_lt_of_le (by show w.heap.size < W1.heap.size; rw [Hsz.out]; exact Nat.lt_succ_self _) HB5.out.size)).trans HSb.out.2.2.2⟩
         clear hb6))
    clear hw1 hw2
    go_wp2
    go_ret
    refine ⟨ret_bool ?_, ?_⟩
    · first | rfl | simp
    · exact (HBl.out.drew).trans ((HB5.out.trans (HB6.out.mono HB5.out.size)).mono (by show w.heap.size ≤ W1.heap.size; rw [Hsz.out]; omega))
  · have HT := end_tells h.same h1 h2 hi hj hne (by omega)
    have HB : Hid (mbB za zb i j = decide (zb.length - j < za.length - i)) := Lib.hid (by unfold mbB; simp only [HT])
    have HH := Lib.hid (Below.refl w.heap.size w)
    subst hm
    clear HT h hne
    rw [HB.out]
    by_cases hi2 : i < rows
    · have hd1 : decide (i < rows) = true := by simp; omega
      have hd2 : decide (j < cols) = false := by simp; omega
      go_enter Try.func59, Try.ntmps59
      go_wp2
      go_ret
      exact ⟨ret_bool (by simp; omega), HH.out.alloc (Nat.le_refl _) _⟩
    · have hd1 : decide (i < rows) = false := by simp; omega
      go_enter Try.func59, Try.ntmps59
      go_wp2
      go_ret
      exact ⟨ret_bool (by simp; omega), HH.out.alloc (Nat.le_refl _) _⟩
end Go.Proofs.Ytlaneilmffdahaa.Ln
