/- The table of what can be kept, walked. -/
import Derived.Test.YtlaneilmffdahaaLnKit
import Derived.Deep.DeepCutAuto
import Derived.Deep.CutBlock
import Derived.Deep.LoopGhost
import Derived.RegionTactic
import Derived.BigRegion
import Derived.IntWalk
namespace Go.Proofs.Ytlaneilmffdahaa.Ln
open Go.RowKit
set_option linter.unusedVariables false
/-- a cell of the table: from place i / c of a, i % c of b on -/
def tcell {α : Type} [DecidableEq α] (A B : List α) (c idx : Nat) : Nat := lcs (A.drop (idx / c)) (B.drop (idx % c))
theorem at_div (i j c : Nat) (hj : j < c) : (i * c + j) / c = i ∧ (i * c + j) % c = j := by
  constructor
  · rw [Nat.add_comm, Nat.add_mul_div_right _ _ (by omega), Nat.div_eq_of_lt hj, Nat.zero_add]
  · rw [Nat.add_comm, Nat.add_mul_mod_self_right, Nat.mod_eq_of_lt hj]
theorem tcell_at {α : Type} [DecidableEq α] (A B : List α) (c i j : Nat) (hj : j < c) : tcell A B c (i * c + j) = lcs (A.drop i) (B.drop j) := by
  unfold tcell
  rw [(at_div i j c hj).1, (at_div i j c hj).2]
theorem tcell_step {α : Type} [DecidableEq α] (A B : List α) (i j : Nat) (hi : i < A.length) (hj : j < B.length) :
    tcell A B (B.length + 1) (i * (B.length + 1) + j) =
      if A[i] = B[j] then tcell A B (B.length + 1) ((i + 1) * (B.length + 1) + (j + 1)) + 1
      else max (tcell A B (B.length + 1) ((i + 1) * (B.length + 1) + j)) (tcell A B (B.length + 1) (i * (B.length + 1) + (j + 1))) := by
  rw [tcell_at _ _ _ _ _ (by omega), tcell_at _ _ _ _ _ (by omega), tcell_at _ _ _ _ _ (by omega), tcell_at _ _ _ _ _ (by omega)]
  conv => lhs; rw [List.drop_eq_getElem_cons hi, List.drop_eq_getElem_cons hj, lcs_cons]
  rw [← List.drop_eq_getElem_cons hi, ← List.drop_eq_getElem_cons hj]
theorem tcell_col {α : Type} [DecidableEq α] (A B : List α) (i : Nat) : tcell A B (B.length + 1) (i * (B.length + 1) + B.length) = 0 := by
  rw [tcell_at _ _ _ _ _ (by omega), List.drop_length, lcs_nil_right]
theorem tcell_row {α : Type} [DecidableEq α] (A B : List α) (idx : Nat) (h : A.length * (B.length + 1) ≤ idx) : tcell A B (B.length + 1) idx = 0 := by
  unfold tcell
  rw [List.drop_eq_nil_of_le, lcs_nil_left]
  exact (Nat.le_div_iff_mul_le (by omega)).2 h
theorem tcell_le {α : Type} [DecidableEq α] (A B : List α) (c idx : Nat) : tcell A B c idx ≤ A.length := Nat.le_trans (lcs_le_left _ _) (by rw [List.length_drop]; exact Nat.sub_le _ _)
/-- the table, made from cell k on -/
def part {α : Type} [DecidableEq α] (A B : List α) (k idx : Nat) : Nat := if k ≤ idx then tcell A B (B.length + 1) idx else 0
theorem part_start {α : Type} [DecidableEq α] (A B : List α) (idx : Nat) : part A B (A.length * (B.length + 1)) idx = 0 := by
  unfold part
  split
  · exact tcell_row A B idx ‹_›
  · rfl
theorem part_col {α : Type} [DecidableEq α] (A B : List α) (i idx : Nat) : part A B ((i + 1) * (B.length + 1)) idx = part A B (i * (B.length + 1) + B.length) idx := by
  have e : (i + 1) * (B.length + 1) = i * (B.length + 1) + B.length + 1 := by rw [Nat.add_mul]; omega
  rw [e]
  unfold part
  by_cases h : i * (B.length + 1) + B.length + 1 ≤ idx
  · rw [if_pos h, if_pos (by omega)]
  · rw [if_neg h]
    by_cases h2 : i * (B.length + 1) + B.length ≤ idx
    · rw [if_pos h2, show idx = i * (B.length + 1) + B.length from by omega, tcell_col]
    · rw [if_neg h2]
theorem part_set {α : Type} [DecidableEq α] (A B : List α) (k idx : Nat) : (if idx = k then tcell A B (B.length + 1) k else part A B (k + 1) idx) = part A B k idx := by
  unfold part
  by_cases h : idx = k
  · subst h; rw [if_pos rfl, if_pos (Nat.le_refl _)]
  · rw [if_neg h]
    by_cases h2 : k ≤ idx
    · rw [if_pos h2, if_pos (by omega)]
    · rw [if_neg h2, if_neg (by omega)]
theorem drop_same (a b : List Int) (i j : Nat) (hi : i < a.length) (hj : j < b.length) : a.getD i 0 = b.getD j 0 → a.drop (i + 1) = b.drop (j + 1) → a.drop i = b.drop j := by
  intro h1 h2
  rw [List.drop_eq_getElem_cons hi, List.drop_eq_getElem_cons hj, h2]
  simp [hi, hj] at h1
  rw [h1]
/-- the table as it is being made behind w: from cell k on -/
structure Tb (w wr : World) (A B : List Int) (rows cols N k : Nat) (more : Int) : Prop where
  hA : A.length = rows
  hB : B.length = cols
  row : wr.rowIs (w.heap.size + 1) 103 N (fun idx => .int .u16 ((part A B k idx : Nat) : Int))
  tab : wr.heap[w.heap.size + 1 + 1]? = some (.cells #[.slice (some ⟨w.heap.size + 1, 0, none⟩) N N, .int .i64 (rows : Int), .int .i64 (cols : Int), .int .i64 more] 98 (0, 0))
  res : ∃ x0 x1 x2 x3, wr.heap[w.heap.size]? = some (.cells #[x0, x1, x2, x3] 98 (0, 0))
  bel : Below w.heap.size w wr
theorem Tb.size {w wr : World} {A B : List Int} {rows cols N k : Nat} {more : Int} (h : Tb w wr A B rows cols N k more) : w.heap.size + 1 + 1 < wr.heap.size := lt_of_block h.tab
theorem Tb.drewN {w wr : World} {A B : List Int} {rows cols N k : Nat} {more : Int} (h : Tb w wr A B rows cols N k more) (d : Nat) : Tb w (wr.drewN d) A B rows cols N k more :=
  ⟨h.hA, h.hB, h.row, h.tab, h.res, below_drewN h.bel d⟩
theorem Tb.col {w wr : World} {A B : List Int} {rows cols N i : Nat} {more : Int} (h : Tb w wr A B rows cols N ((i + 1) * (cols + 1)) more) : Tb w wr A B rows cols N (i * (cols + 1) + cols) more :=
  ⟨h.hA, h.hB, h.row.congr (fun idx _ => by have := part_col A B i idx; rw [h.hB] at this; simp only [this]), h.tab, h.res, h.bel⟩
theorem Tb.set_ {w wr : World} {A B : List Int} {rows cols N k : Nat} {more : Int} (h : Tb w wr A B rows cols N (k + 1) more) (x : Int) (hx : x = ((tcell A B (cols + 1) k : Nat) : Int)) : Tb w (wr.setCell ⟨w.heap.size + 1, k, none⟩ (.int .u16 x)) A B rows cols N k more := by
  subst hx
  refine ⟨h.hA, h.hB, (h.row.set k _).congr ?_, ?_, ?_, h.bel.setCell (by simp) _⟩
  · intro idx _
    have := part_set A B k idx
    rw [h.hB] at this
    show (if idx = k then _ else _) = _
    rw [← this]
    split <;> rfl
  · rw [Below.heap_setCell _ _ _ _ (by simp)]; exact h.tab
  · obtain ⟨x0, x1, x2, x3, hr⟩ := h.res
    exact ⟨x0, x1, x2, x3, by rw [Below.heap_setCell _ _ _ _ (by simp)]; exact hr⟩
theorem tb_start (w : World) (rows cols N d : Nat) (more : Int) (A B : List Int) (hA : A.length = rows) (hB : B.length = cols) :
    Tb w ((((w.alloc (Obj.cells #[.slice none 0 0, .int .i64 0, .int .i64 0, .int .i64 0] 98)).drewN d).alloc (Obj.cells (madeCells #[.int .u16 0] N) 103)).alloc
      (Obj.cells #[.slice (some ⟨w.heap.size + 1, 0, none⟩) N N, .int .i64 (rows : Int), .int .i64 (cols : Int), .int .i64 more] 98)) A B rows cols N (rows * (cols + 1)) more := by
  have h1 := World.rowIs_made ((w.alloc (Obj.cells #[.slice none 0 0, .int .i64 0, .int .i64 0, .int .i64 0] 98)).drewN d) (.int .u16 0) N 103
  have hs : ((w.alloc (Obj.cells #[.slice none 0 0, .int .i64 0, .int .i64 0, .int .i64 0] 98)).drewN d).heap.size = w.heap.size + 1 := by simp
  rw [hs] at h1
  refine ⟨hA, hB, (h1.alloc _).congr ?_, ?_, ⟨.slice none 0 0, .int .i64 0, .int .i64 0, .int .i64 0, ?_⟩, ?_⟩
  · intro idx _
    have := part_start A B idx
    rw [hA, hB] at this
    simp only [this]
    rfl
  · have := heap_alloc_new (((w.alloc (Obj.cells #[.slice none 0 0, .int .i64 0, .int .i64 0, .int .i64 0] 98)).drewN d).alloc (Obj.cells (madeCells #[.int .u16 0] N) 103)) (Obj.cells #[.slice (some ⟨w.heap.size + 1, 0, none⟩) N N, .int .i64 (rows : Int), .int .i64 (cols : Int), .int .i64 more] 98)
    have e : (((w.alloc (Obj.cells #[.slice none 0 0, .int .i64 0, .int .i64 0, .int .i64 0] 98)).drewN d).alloc (Obj.cells (madeCells #[.int .u16 0] N) 103)).heap.size = w.heap.size + 1 + 1 := by simp
    rw [e] at this
    exact this
  · rw [Below.heap_alloc _ _ _ (by simp; omega), Below.heap_alloc _ _ _ (by rw [hs]; omega)]
    exact heap_alloc_new w _
  · exact ((below_drewN ((Below.refl _ w).alloc (Nat.le_refl _) _) d).alloc (by rw [hs]; omega) _).alloc (by simp; omega) _
theorem info16 : (Try.prog.info? 103).map (fun i => (i.zero, i.size, i.bytes)) = some (some (.int .u16 0), 1, 2) := by kernel_rfl
/-- a table of what can be kept of za and zb -/
def KeepRet (za zb : List Int) (la lb : Nat) (w : World) (e : Ending) (w' : World) : Prop :=
  ∃ rows cols N g : Nat, e = .returned (.agg #[.slice (some ⟨g, 0, none⟩) N N, .int .i64 (rows : Int), .int .i64 (cols : Int), .int .i64 ((la : Int) - (lb : Int))]) ∧ rows ≤ la ∧ cols ≤ lb ∧ za.drop rows = zb.drop cols ∧ N = (rows + 1) * (cols + 1) ∧
    w'.rowIs g 103 N (fun idx => .int .u16 ((tcell (za.take rows) (zb.take cols) (cols + 1) idx : Nat) : Int)) ∧ w.heap.size ≤ g ∧ Below w.heap.size w w'
set_option maxRecDepth 100000 in
set_option maxHeartbeats 1000000 in
theorem keepable_any (a1 : Option Addr) (la ca : Nat) (za : List Int) (a2 : Option Addr) (lb cb : Nat) (zb : List Int) (w : World) (h1 : Rd w w.heap.size a1 la ca (iv za)) (h2 : Rd w w.heap.size a2 lb cb (iv zb)) (ba : la ≤ 4000) (bb : lb ≤ 4000) :
    Calls Try.prog 58 #[.slice a1 la ca, .slice a2 lb cb] w (KeepRet za zb la lb w) := by
  have H1 := Lib.hid h1
  have H2 := Lib.hid h2
  clear h1 h2
  go_enter Try.func58, Try.ntmps58
  go_upto_block 0 with (fail)
  go_cut [5, 6] (fun s5 s6 wx => ∃ rows cols : Nat, s5 = .int .i64 rows ∧ s6 = .int .i64 cols ∧ rows ≤ la ∧ cols ≤ lb ∧ Hid (za.drop rows = zb.drop cols) ∧ ∃ d, wx = (w.alloc (Obj.cells #[.slice none 0 0, .int .i64 0, .int .i64 0, .int .i64 0] 98)).drewN d)
  case first =>
    go_wp2
    go_loopw [5, 6] (fun r c wr => ∃ rows cols d : Nat, r = .int .i64 rows ∧ c = .int .i64 cols ∧ rows ≤ la ∧ cols ≤ lb ∧ Hid (za.drop rows = zb.drop cols) ∧ wr = (w.alloc (Obj.cells #[.slice none 0 0, .int .i64 0, .int .i64 0, .int .i64 0] 98)).drewN d) (fun r _ _ => (intOf r).toNat)
    case atStart => exact ⟨la, lb, 0, rfl, rfl, Nat.le_refl _, Nat.le_refl _, Lib.hid (by rw [List.drop_eq_nil_of_le (by have := H1.out.hlen; simp [iv] at this; omega), List.drop_eq_nil_of_le (by have := H2.out.hlen; simp [iv] at this; omega)]), rfl⟩
    case round =>
      obtain ⟨rows, cols, d, rfl, rfl, hr, hc, H, rfl⟩ := hrel
      by_cases h0 : 0 < rows
      · by_cases h1 : 0 < cols
        · obtain ⟨r, rfl⟩ : ∃ r, rows = r + 1 := ⟨rows - 1, by omega⟩
          obtain ⟨c, rfl⟩ : ∃ c, cols = c + 1 := ⟨cols - 1, by omega⟩
          obtain ⟨x1, o1, rfl, hb1, hc1⟩ := (H1.out.alloc (Nat.le_refl _) (Obj.cells #[.slice none 0 0, .int .i64 0, .int .i64 0, .int .i64 0] 98)).int r (by omega)
          obtain ⟨x2, o2, rfl, hb2, hc2⟩ := (H2.out.alloc (Nat.le_refl _) (Obj.cells #[.slice none 0 0, .int .i64 0, .int .i64 0, .int .i64 0] 98)).int c (by omega)
          have hs := drop_same za zb r c (by have := H1.out.hlen; simp [iv] at this; omega) (by have := H2.out.hlen; simp [iv] at this; omega)
          generalize hv1 : za.getD r 0 = v1 at hc1 hs
          generalize hv2 : zb.getD c 0 = v2 at hc2 hs
          clear hv1 hv2
          by_cases hq : v1 = v2
          · have HN : Hid (za.drop r = zb.drop c) := Lib.hid (hs hq H.out)
            have hq' : (v1 == v2) = true := by simp [hq]
            clear hs H hq
            go_wp2
            go_quiet (fail)
            go_wp2
            go_roundw
            case rel => exact ⟨r, c, _, by go_num, by go_num, by omega, by omega, HN, rfl⟩
            case measure => simp [intOf]
          · have hq' : (v1 == v2) = false := by simp [hq]
            clear hs hq
            go_wp2
            go_quiet (fail)
            go_wp2
            go_meet
            exact ⟨r + 1, c + 1, rfl, rfl, hr, hc, H, _, World.drewN_drewN _ _ _⟩
        · have hd1 : decide (0 < rows) = true := by simp; omega
          have hd2 : decide (0 < cols) = false := by simp; omega
          go_wp2
          go_quiet (fail)
          go_wp2
          go_meet
          exact ⟨rows, cols, rfl, rfl, hr, hc, H, _, World.drewN_drewN _ _ _⟩
      · have hd1 : decide (0 < rows) = false := by simp; omega
        go_wp2
        go_quiet (fail)
        go_wp2
        go_meet
        exact ⟨rows, cols, rfl, rfl, hr, hc, H, _, World.drewN_drewN _ _ _⟩
  case rest =>
    obtain ⟨rows, cols, rfl, rfl, hr, hc, H, d, rfl⟩ := hcut
    obtain ⟨N, HN⟩ : ∃ N, Hid (N = (rows + 1) * (cols + 1)) := ⟨_, Lib.hid rfl⟩
    have hNb : N ≤ 16008001 := by rw [HN.out]; exact Nat.le_trans (Nat.mul_le_mul (show rows + 1 ≤ 4001 by omega) (show cols + 1 ≤ 4001 by omega)) (Nat.le_of_eq rfl)
    have hm : IntKind.i64.wrap (((rows : Int) + 1) * ((cols : Int) + 1)) = (N : Int) := by
      have e : ((rows : Int) + 1) * ((cols : Int) + 1) = (N : Int) := by rw [HN.out]; simp
      rw [e]
      exact IntWalk.i64_in _ (by omega)
    have hmk := fun W => run_make_row' (P := Try.prog) 96 103 (.int .u16 0) 2 Try.underlying96 info16 rfl .i64 .i64 N (by omega) (by omega) W
    have HM := Lib.hid hm
    go_upto_block 2 with (fail)
    have hT : Hid (Tb w _ (za.take rows) (zb.take cols) rows cols N (rows * (cols + 1)) ((la : Int) - (lb : Int))) := Lib.hid (tb_start w rows cols N d (la - lb) (za.take rows) (zb.take cols) (by have := H1.out.hlen; simp [iv] at this; simp; omega) (by have := H2.out.hlen; simp [iv] at this; simp; omega))
    have hsz := hT.out.size
    generalize hW : World.alloc _ _ = W2 at *
    clear hW hm hmk
    go_wp2
    go_loopw [8] (fun s8 wr => ∃ i : Nat, i ≤ rows ∧ s8 = .int .i64 ((i : Int) - 1) ∧ Hid (Tb w wr (za.take rows) (zb.take cols) rows cols N (i * (cols + 1)) ((la : Int) - (lb : Int)))) (fun s8 _ => (intOf s8 + 1).toNat)
    case atStart => exact ⟨rows, Nat.le_refl _, rfl, hT⟩
    case round =>
      obtain ⟨i, hi, rfl, HI⟩ := hrel
      clear hT
      by_cases h0 : 0 < i
      · obtain ⟨r, rfl⟩ : ∃ r, i = r + 1 := ⟨i - 1, by omega⟩
        rw [show (((r + 1 : Nat) : Int) - 1) = (r : Int) from by omega]
        obtain ⟨p, HP⟩ : ∃ p, Hid (p = r * (cols + 1)) := ⟨_, Lib.hid rfl⟩
        obtain ⟨q, HQ⟩ : ∃ q, Hid (q = p + (cols + 1)) := ⟨_, Lib.hid rfl⟩
        obtain ⟨s, HS⟩ : ∃ s, Hid (s = q + (cols + 1)) := ⟨_, Lib.hid rfl⟩
        have hsN : s ≤ N := by
          rw [HS.out, HQ.out, HP.out, HN.out]
          have := Nat.mul_le_mul_right (cols + 1) (show r + 1 + 1 ≤ rows + 1 by omega)
          rw [Nat.add_mul, Nat.add_mul] at this
          omega
        have hpq : p + cols < q := by have := HQ.out; omega
        have hqs : q + cols < s := by have := HS.out; omega
        have hpN : ¬ N = p := by omega
        have hqN : ¬ N = q := by omega
        have hm1 : IntKind.i64.wrap ((r : Int) * ((cols : Int) + 1)) = (p : Int) := by
          have e : (r : Int) * ((cols : Int) + 1) = (p : Int) := by rw [HP.out]; simp
          rw [e]; exact IntWalk.i64_in _ (by omega)
        have hm2 : IntKind.i64.wrap (((r : Int) + 1) * ((cols : Int) + 1)) = (q : Int) := by
          have e : ((r : Int) + 1) * ((cols : Int) + 1) = (q : Int) := by rw [HQ.out, HP.out]; simp [Int.add_mul]
          rw [e]; exact IntWalk.i64_in _ (by omega)
        have hm3 : IntKind.i64.wrap (((r : Int) + 2) * ((cols : Int) + 1)) = (s : Int) := by
          have e : ((r : Int) + 2) * ((cols : Int) + 1) = (s : Int) := by rw [HS.out, HQ.out, HP.out]; simp [Int.add_mul]; omega
          rw [e]; exact IntWalk.i64_in _ (by omega)
        have ht0 : wr.cell? ⟨w.heap.size + 1 + 1, 0, none⟩ = some (.slice (some ⟨w.heap.size + 1, 0, none⟩) N N) := cell_of_row _ _ 0 _ _ _ HI.out.tab
        have HC := Lib.hid HI.out.col
        go_upto_block 4 with (fail)
        clear ht0 hm1 hm2 hm3 HI
        go_wp2
        go_loopw [11] (fun s11 wx => ∃ j : Nat, j ≤ cols ∧ s11 = .int .i64 ((j : Int) - 1) ∧ Hid (Tb w wx (za.take rows) (zb.take cols) rows cols N (p + j) ((la : Int) - (lb : Int)))) (fun s11 _ => (intOf s11 + 1).toNat)
        case atStart => exact ⟨cols, Nat.le_refl _, rfl, Lib.hid (by rw [HP.out]; exact HC.out)⟩
        case round =>
          obtain ⟨j, hj, rfl, HJ⟩ := hrel
          clear HC
          by_cases h1 : 0 < j
          · obtain ⟨c, rfl⟩ : ∃ c, j = c + 1 := ⟨j - 1, by omega⟩
            rw [show (((c + 1 : Nat) : Int) - 1) = (c : Int) from by omega]
            obtain ⟨x1, o1, rfl, hb1, hc1⟩ := (H1.out.below HJ.out.bel).int r (by omega)
            obtain ⟨x2, o2, rfl, hb2, hc2⟩ := (H2.out.below HJ.out.bel).int c (by omega)
            have hA1 : r < (za.take rows).length := by rw [HJ.out.hA]; omega
            have hB1 : c < (zb.take cols).length := by rw [HJ.out.hB]; omega
            have hstep := tcell_step (za.take rows) (zb.take cols) r c hA1 hB1
            rw [HJ.out.hB, ← HP.out, show (r + 1) * (cols + 1) = q from by rw [HQ.out, HP.out, Nat.add_mul]; omega] at hstep
            simp only [List.getElem_take] at hstep
            have hv1 : za.getD r 0 = za[r]'(by have := H1.out.hlen; simp [iv] at this; omega) := by simp [List.getD, show r < za.length from by have := H1.out.hlen; simp [iv] at this; omega]
            have hv2 : zb.getD c 0 = zb[c]'(by have := H2.out.hlen; simp [iv] at this; omega) := by simp [List.getD, show c < zb.length from by have := H2.out.hlen; simp [iv] at this; omega]
            rw [← hv1, ← hv2] at hstep
            generalize za.getD r 0 = v1 at hc1 hstep
            generalize zb.getD c 0 = v2 at hc2 hstep
            have g1 := HJ.out.row.cell (i := q + (c + 1)) (by omega)
            have g2 := HJ.out.row.cell (i := q + c) (by omega)
            have g3 := HJ.out.row.cell (i := p + (c + 1)) (by omega)
            have g4 := HJ.out.row.cell (i := p + c) (by omega)
            have g5 := HJ.out.row.frozen (p + c)
            have l1 := tcell_le (za.take rows) (zb.take cols) (cols + 1) (q + (c + 1))
            have l2 := tcell_le (za.take rows) (zb.take cols) (cols + 1) (q + c)
            have l3 := tcell_le (za.take rows) (zb.take cols) (cols + 1) (p + (c + 1))
            rw [HJ.out.hA] at l1 l2 l3
            simp only [part, HJ.out.hB] at g1 g2 g3 g4
            rw [if_pos (by omega)] at g1 g2 g3
            rw [if_neg (by omega)] at g4
            have HK := Lib.hid hstep
            generalize hx1 : tcell (za.take rows) (zb.take cols) (cols + 1) (q + (c + 1)) = t1 at *
            generalize hx2 : tcell (za.take rows) (zb.take cols) (cols + 1) (q + c) = t2 at *
            generalize hx3 : tcell (za.take rows) (zb.take cols) (cols + 1) (p + (c + 1)) = t3 at *
            clear hx1 hx2 hx3 hstep hv1 hv2
            by_cases hq : v1 = v2
            · have HV := Lib.hid (show tcell (za.take rows) (zb.take cols) (cols + 1) (p + c) = t1 + 1 from by rw [HK.out, if_pos hq])
              have hq' : (v1 == v2) = true := by simp [hq]
              clear hq HK
              go_wp2
              go_quiet (fail)
              go_wp2
              go_roundw
              case rel => exact ⟨c, by omega, rfl, Lib.hid (Tb.set_ (k := p + c) (HJ.out.drewN _) _ (by rw [HV.out]; simp))⟩
              case measure => simp [intOf]
            · have HV := Lib.hid (show tcell (za.take rows) (zb.take cols) (cols + 1) (p + c) = max t2 t3 from by rw [HK.out, if_neg hq])
              have hq' : (v1 == v2) = false := by simp [hq]
              clear hq HK
              go_wp2
              go_quiet (fail)
              go_wp2
              go_region
              go_wp2
              go_roundw
              case rel => exact ⟨c, by omega, rfl, Lib.hid (Tb.set_ (k := p + c) (by exact (HJ.out.drewN _)) _ (by rw [HV.out]; omega))⟩
              case measure => simp [intOf]
          · obtain rfl : j = 0 := by omega
            rw [show (((0 : Nat) : Int) - 1) = -1 from rfl]
            go_wp2
            go_roundw
            case rel => exact ⟨r, by omega, rfl, Lib.hid (by rw [← HP.out]; exact HJ.out)⟩
            case measure => simp [intOf]
      · obtain rfl : i = 0 := by omega
        rw [show (((0 : Nat) : Int) - 1) = -1 from rfl]
        have ht := HI.out.tab
        have ht0 := cell_of_row _ _ 0 _ _ _ ht
        have ht1 := cell_of_row _ _ 1 _ _ _ ht
        have ht2 := cell_of_row _ _ 2 _ _ _ ht
        have ht3 := cell_of_row _ _ 3 _ _ _ ht
        obtain ⟨y0, y1, y2, y3, hres⟩ := HI.out.res
        have hr0 := cell_of_row _ _ 0 _ _ _ hres
        have hr1 := cell_of_row _ _ 1 _ _ _ hres
        have hr2 := cell_of_row _ _ 2 _ _ _ hres
        have hr3 := cell_of_row _ _ 3 _ _ _ hres
        have hf0 := frozen_of_row _ _ 0 _ _ hres
        have hf1 := frozen_of_row _ _ 1 _ _ hres
        have hf2 := frozen_of_row _ _ 2 _ _ hres
        have hf3 := frozen_of_row _ _ 3 _ _ hres
        simp at ht0 ht1 ht2 ht3 hr0 hr1 hr2 hr3
        have hres := Lib.hid hres
        clear ht
        go_wp2
        have hblk := heap_setCell_same _ w.heap.size 3 _ _ (.int .i64 ((la : Int) - (lb : Int))) (heap_setCell_same _ w.heap.size 2 _ _ (.int .i64 (cols : Int)) (heap_setCell_same _ w.heap.size 1 _ _ (.int .i64 (rows : Int)) (heap_setCell_same wr w.heap.size 0 _ _ (.slice (some ⟨w.heap.size + 1, 0, none⟩) N N) hres.out)))
        simp only [List.setIfInBounds_toArray, List.set_cons_zero, List.set_cons_succ] at hblk
        refine bodyPost_ret (results_cell_row (P := Try.prog) (fn := Try.f58) rfl _ _ w.heap.size 98 #[.slice (some ⟨w.heap.size + 1, 0, none⟩) N N, .int .i64 (rows : Int), .int .i64 (cols : Int), .int .i64 ((la : Int) - (lb : Int))] (0, 0) _ rfl hblk Try.underlying98 rfl (by kernel_rfl)) rfl ⟨rows, cols, N, w.heap.size + 1, rfl, hr, hc, H.out, HN.out, ?_, by omega, ?_⟩
        · refine (((World.rowIs.setOther (World.rowIs.setOther (World.rowIs.setOther (World.rowIs.setOther HI.out.row ?_ _) ?_ _) ?_ _) ?_ _)).congr ?_)
          · simp
          · simp
          · simp
          · simp
          · intro idx _
            simp [part, HI.out.hB]
        · exact (((HI.out.bel.setCell (by simp) _).setCell (by simp) _).setCell (by simp) _).setCell (by simp) _
end Go.Proofs.Ytlaneilmffdahaa.Ln
