/- What stands while the document's Of works. -/
import Derived.Test.YtgmcdkkjemjneaaSmRApp
namespace Go.Proofs.Ytgmcdkkjemjneaa.Sm
open Go.RowKit
set_option linter.unusedVariables false

set_option maxRecDepth 100000 in
theorem zero48 (w : World) : (zeroValue 48).run Try.prog w = .ok (.agg (uv (List.replicate 64 0)).toArray) w := by rfl
set_option maxRecDepth 100000 in
theorem zero49 (w : World) : (zeroValue 49).run Try.prog w = .ok (.agg (uv (List.replicate 8 0)).toArray) w := by rfl
theorem uv_len (l : List Int) : (uv l).length = l.length := by simp [uv]
/-- an array that is made and filled at once -/
theorem row_filled (w : World) (z vs : List Value) (t : TypeId) (n : Nat) (hz : z.length = n) (hv : vs.length = n) : ((w.alloc (.cells z.toArray t)).setCells w.heap.size 0 vs).rowIs w.heap.size t n (fun i => vs.getD i undef) := by
  have h := row_new_list w z t
  rw [hz] at h
  refine (row_lay h 0 vs).congr fun j hj => ?_
  rw [layF, hv, if_pos (by omega), Nat.sub_zero]
theorem below_filled (w : World) (z vs : List Value) (t : TypeId) : Below w.heap.size w ((w.alloc (.cells z.toArray t)).setCells w.heap.size 0 vs) :=
  below_setCells _ (Nat.le_refl _) _ _ _ ((Below.refl _ _).alloc (Nat.le_refl _) _)

def sF (S : W8) : Nat → Value := fun i => .int .u32 (S.at i)
/-- what stands while the document's Of works: the result's row, the constants, the state -/
structure Rf (w wr : World) (O KB HB MB : Nat) (F : Nat → Value) : Prop where
  rowO : wr.rowIs O 27 32 (fun _ => .int .u8 0)
  rowK : wr.rowIs KB 48 64 (fun i => .int .u32 (kf i))
  rowH : wr.rowIs HB 49 8 F
  bel : Below O w wr
  hO : O < MB
  hK : KB < MB
  hH : HB < MB
  hOH : O < HB
  hKH : KB ≠ HB
  sz : MB ≤ wr.heap.size
theorem Rf.below {w wr wr' : World} {O KB HB MB : Nat} {F : Nat → Value} (h : Rf w wr O KB HB MB F) (hb : Below MB wr wr') : Rf w wr' O KB HB MB F :=
  ⟨h.rowO.of_block (hb.block O h.hO), h.rowK.of_block (hb.block KB h.hK), h.rowH.of_block (hb.block HB h.hH), h.bel.trans (hb.mono (Nat.le_of_lt h.hO)), h.hO, h.hK, h.hH, h.hOH, h.hKH, Nat.le_trans h.sz hb.size⟩
theorem pad_stop (n k : Nat) (h : k < padN n - 9) : (n + 1 + k) % 64 ≠ 56 := by
  unfold padN at h
  split at h <;> omega
theorem pad_end (n : Nat) : (n + 1 + (padN n - 9)) % 64 = 56 := by
  unfold padN
  split <;> omega

theorem Rf.same {w wr wr' : World} {O KB HB MB : Nat} {F : Nat → Value} (h : Rf w wr O KB HB MB F) (e1 : wr'.heap = wr.heap) (e2 : wr'.os = wr.os) (e3 : wr'.tape = wr.tape) (e4 : wr'.output = wr.output) : Rf w wr' O KB HB MB F :=
  ⟨h.rowO.of_block (by rw [e1]), h.rowK.of_block (by rw [e1]), h.rowH.of_block (by rw [e1]), ⟨e2.trans h.bel.os, e3.trans h.bel.tape, e4.trans h.bel.output, by rw [e1]; exact h.bel.size, fun i hi => by rw [e1]; exact h.bel.block i hi⟩, h.hO, h.hK, h.hH, h.hOH, h.hKH, by rw [e1]; exact h.sz⟩

/-- .. while it works over the blocks -/
structure Bk (w wr : World) (O KB HB MB WB g L : Nat) (P : List Int) (F fW : Nat → Value) : Prop where
  rf : Rf w wr O KB HB MB F
  rowW : wr.rowIs WB 48 64 fW
  byte : ∀ i, i < L → wr.cell? ⟨g, i, none⟩ = some (.int .u8 (P.getD i 0))
  hW : MB ≤ WB
  hg : MB ≤ g
  hgW : g ≠ WB
  hgl : g < wr.heap.size
theorem cell_same {wr wr' : World} (e1 : wr'.heap = wr.heap) (a : Addr) : wr'.cell? a = wr.cell? a := by
  unfold World.cell?; rw [e1]
theorem Bk.same {w wr wr' : World} {O KB HB MB WB g L : Nat} {P : List Int} {F fW : Nat → Value} (h : Bk w wr O KB HB MB WB g L P F fW) (e1 : wr'.heap = wr.heap) (e2 : wr'.os = wr.os) (e3 : wr'.tape = wr.tape) (e4 : wr'.output = wr.output) : Bk w wr' O KB HB MB WB g L P F fW :=
  ⟨h.rf.same e1 e2 e3 e4, h.rowW.of_block (by rw [e1]), fun i hi => by rw [cell_same e1]; exact h.byte i hi, h.hW, h.hg, h.hgW, by rw [e1]; exact h.hgl⟩
theorem Bk.setW {w wr : World} {O KB HB MB WB g L : Nat} {P : List Int} {F fW : Nat → Value} (h : Bk w wr O KB HB MB WB g L P F fW) (t : Nat) (v : Value) : Bk w (wr.setCell ⟨WB, t, none⟩ v) O KB HB MB WB g L P F (fun j => if j = t then v else fW j) :=
  ⟨h.rf.below ((Below.refl MB wr).setCell h.hW v), h.rowW.set t v, fun i hi => by
    rw [World.cell?_setCell_other _ _ _ _ (by simp only [ne_eq, Addr.mk.injEq, not_and]; intro e; exact absurd e.symm h.hgW)]; exact h.byte i hi, h.hW, h.hg, h.hgW, by simpa [World.setCell] using h.hgl⟩
theorem Bk.setV {w wr : World} {O KB HB MB WB g L : Nat} {P : List Int} {F fW : Nat → Value} (h : Bk w wr O KB HB MB WB g L P F fW) {V : Nat} (hV : WB < V) (hgV : g ≠ V) (t : Nat) (v : Value) : Bk w (wr.setCell ⟨V, t, none⟩ v) O KB HB MB WB g L P F fW :=
  ⟨h.rf.below ((Below.refl MB wr).setCell (Nat.le_of_lt (Nat.lt_of_le_of_lt h.hW hV)) v), h.rowW.setOther (Nat.ne_of_lt hV) v, fun i hi => by
    rw [World.cell?_setCell_other _ _ _ _ (by simp only [ne_eq, Addr.mk.injEq, not_and]; intro e; exact absurd e.symm hgV)]; exact h.byte i hi, h.hW, h.hg, h.hgW, by simpa [World.setCell] using h.hgl⟩
theorem Bk.setH {w wr : World} {O KB HB MB WB g L : Nat} {P : List Int} {F fW : Nat → Value} (h : Bk w wr O KB HB MB WB g L P F fW) (t : Nat) (v : Value) : Bk w (wr.setCell ⟨HB, t, none⟩ v) O KB HB MB WB g L P (fun j => if j = t then v else F j) fW :=
  ⟨⟨h.rf.rowO.setOther (Nat.ne_of_lt h.rf.hOH) v, h.rf.rowK.setOther h.rf.hKH v, h.rf.rowH.set t v, h.rf.bel.setCell (Nat.le_of_lt h.rf.hOH) v, h.rf.hO, h.rf.hK, h.rf.hH, h.rf.hOH, h.rf.hKH, by simpa [World.setCell] using h.rf.sz⟩,
   h.rowW.setOther (fun e => by have := h.hW; have := h.rf.hH; have : WB = HB := e; omega) v, fun i hi => by
    rw [World.cell?_setCell_other _ _ _ _ (by simp only [ne_eq, Addr.mk.injEq, not_and]; intro e; have := h.hg; have := h.rf.hH; omega)]; exact h.byte i hi, h.hW, h.hg, h.hgW, by simpa [World.setCell] using h.hgl⟩
theorem Bk.below {w wr wr' : World} {O KB HB MB WB g L : Nat} {P : List Int} {F fW : Nat → Value} (h : Bk w wr O KB HB MB WB g L P F fW) (hb : Below wr.heap.size wr wr') : Bk w wr' O KB HB MB WB g L P F fW :=
  ⟨h.rf.below (hb.mono h.rf.sz), h.rowW.of_block (hb.block WB h.rowW.lt), fun i hi => by
    rw [hb.cell (p := ⟨g, i, none⟩) h.hgl]; exact h.byte i hi, h.hW, h.hg, h.hgW, Nat.lt_of_lt_of_le h.hgl hb.size⟩

/-- .. while it works over the rounds of a block -/
structure Vk (w wr : World) (O KB HB MB WB g L : Nat) (P : List Int) (F fW : Nat → Value) (V : Nat) (T : W8) : Prop where
  bk : Bk w wr O KB HB MB WB g L P F fW
  rowV : wr.rowIs V 49 8 (sF T)
  hV : WB < V
  hgV : g ≠ V
theorem Vk.same {w wr wr' : World} {O KB HB MB WB g L V : Nat} {P : List Int} {F fW : Nat → Value} {T : W8} (h : Vk w wr O KB HB MB WB g L P F fW V T) (e1 : wr'.heap = wr.heap) (e2 : wr'.os = wr.os) (e3 : wr'.tape = wr.tape) (e4 : wr'.output = wr.output) : Vk w wr' O KB HB MB WB g L P F fW V T :=
  ⟨h.bk.same e1 e2 e3 e4, h.rowV.of_block (by rw [e1]), h.hV, h.hgV⟩
/-- eight cells of the rounds' state, laid one by one -/
def set8 (wr : World) (V : Nat) (a b c d e f g h : Int) : World :=
  (((((((wr.setCell ⟨V, 7, none⟩ (.int .u32 h)).setCell ⟨V, 6, none⟩ (.int .u32 g)).setCell ⟨V, 5, none⟩ (.int .u32 f)).setCell ⟨V, 4, none⟩ (.int .u32 e)).setCell ⟨V, 3, none⟩ (.int .u32 d)).setCell ⟨V, 2, none⟩ (.int .u32 c)).setCell ⟨V, 1, none⟩ (.int .u32 b)).setCell ⟨V, 0, none⟩ (.int .u32 a)
theorem Vk.set8 {w wr : World} {O KB HB MB WB g L V : Nat} {P : List Int} {F fW : Nat → Value} {T : W8} (k : Vk w wr O KB HB MB WB g L P F fW V T) (a b c d e f h i : Int) : Vk w (set8 wr V a b c d e f h i) O KB HB MB WB g L P F fW V ⟨a, b, c, d, e, f, h, i⟩ :=
  ⟨(((((((k.bk.setV k.hV k.hgV 7 _).setV k.hV k.hgV 6 _).setV k.hV k.hgV 5 _).setV k.hV k.hgV 4 _).setV k.hV k.hgV 3 _).setV k.hV k.hgV 2 _).setV k.hV k.hgV 1 _).setV k.hV k.hgV 0 _,
   ((((((((k.rowV.set 7 _).set 6 _).set 5 _).set 4 _).set 3 _).set 2 _).set 1 _).set 0 _).congr (fun j hj => by
    rcases (show j = 0 ∨ j = 1 ∨ j = 2 ∨ j = 3 ∨ j = 4 ∨ j = 5 ∨ j = 6 ∨ j = 7 from by omega) with rfl | rfl | rfl | rfl | rfl | rfl | rfl | rfl <;> rfl), k.hV, k.hgV⟩

theorem sched_alt (m : Nat → Int) (t : Nat) (h : 16 ≤ t) : sched m t = (sched m (t - 16) + small (sched m (t - 15)) 7 18 3 + sched m (t - 7) + small (sched m (t - 2)) 17 19 10) % 4294967296 := by
  rw [sched_high m t h]
  unfold ad
  generalize sched m (t - 16) = a
  generalize small (sched m (t - 15)) 7 18 3 = b
  generalize sched m (t - 7) = c
  generalize small (sched m (t - 2)) 17 19 10 = d
  omega
theorem step_alt (s : W8) (k w : Int) :
    step s k w = ⟨(s.h + big s.e 6 11 25 + ch s.e s.f s.g + k + w + big s.a 2 13 22 + maj s.a s.b s.c) % 4294967296, s.a, s.b, s.c, (s.d + (s.h + big s.e 6 11 25 + ch s.e s.f s.g + k + w)) % 4294967296, s.e, s.f, s.g⟩ := by
  unfold step ad
  simp only [W8.mk.injEq, and_true, Int.emod_add_emod, Int.add_emod_emod]
  generalize big s.e 6 11 25 = p
  generalize ch s.e s.f s.g = q
  generalize big s.a 2 13 22 = r
  generalize maj s.a s.b s.c = m
  congr 1
  omega
theorem pad_of (l : List Int) (n : Nat) : l ++ 128 :: List.replicate (padN n - 9) 0 ++ be8 (8 * (n : Int)) = l ++ pad n ∨ ¬ n ≤ 1000000000 := by
  by_cases h : n ≤ 1000000000
  · left
    rw [be8_wb _ (by omega) (by omega), pad, show 8 * (n : Int) = (n : Int) * 8 by omega]
    simp
  · right; exact h
theorem bytes_range (l : List Int) (n : Nat) (hl : l.length = n) (hn : n ≤ 1000000000) (hb : ∀ i, i < n → 0 ≤ l.getD i 0 ∧ l.getD i 0 ≤ 255) : ∀ i, i < n + padN n → 0 ≤ (l ++ pad n).getD i 0 ∧ (l ++ pad n).getD i 0 ≤ 255 := by
  intro i hi
  refine getD_append_range l (pad n) (by rw [hl]; exact hb) (fun j hj => pad_range n (by omega) j (by rw [pad_length] at hj; exact hj)) i ?_
  rw [List.length_append, pad_length, hl]; exact hi
theorem Vk.setH {w wr : World} {O KB HB MB WB g L V : Nat} {P : List Int} {F fW : Nat → Value} {T : W8} (k : Vk w wr O KB HB MB WB g L P F fW V T) (t : Nat) (v : Value) : Vk w (wr.setCell ⟨HB, t, none⟩ v) O KB HB MB WB g L P (fun j => if j = t then v else F j) fW V T :=
  ⟨k.bk.setH t v, k.rowV.setOther (fun e => by have := k.hV; have := k.bk.hW; have := k.bk.rf.hH; have : V = HB := e; omega) v, k.hV, k.hgV⟩
theorem Vk.congr {w wr : World} {O KB HB MB WB g L V : Nat} {P : List Int} {F F' fW : Nat → Value} {T : W8} (k : Vk w wr O KB HB MB WB g L P F fW V T) (h : ∀ j, j < 8 → F j = F' j) : Vk w wr O KB HB MB WB g L P F' fW V T :=
  ⟨⟨⟨k.bk.rf.rowO, k.bk.rf.rowK, k.bk.rf.rowH.congr h, k.bk.rf.bel, k.bk.rf.hO, k.bk.rf.hK, k.bk.rf.hH, k.bk.rf.hOH, k.bk.rf.hKH, k.bk.rf.sz⟩, k.bk.rowW, k.bk.byte, k.bk.hW, k.bk.hg, k.bk.hgW, k.bk.hgl⟩, k.rowV, k.hV, k.hgV⟩
theorem mix_step (S T : W8) (k : Nat) (j : Nat) : (if j = k then Value.int .u32 (ad (S.at k) (T.at k)) else mixF (sF S) S T k j) = mixF (sF S) S T (k + 1) j := by
  unfold mixF
  by_cases e : j = k
  · subst e
    rw [if_pos rfl, if_pos (by omega)]
  · rw [if_neg e]
    by_cases e2 : j < k
    · rw [if_pos e2, if_pos (by omega)]
    · rw [if_neg e2, if_neg (by omega)]
theorem mix_zero (S T : W8) (j : Nat) : sF S j = mixF (sF S) S T 0 j := by rw [mixF, if_neg (by omega)]
theorem mix_full (S T : W8) (j : Nat) (h : j < 8) : mixF (sF S) S T 8 j = sF (mixin S T) j := by rw [mixF_at, stF, if_pos h]; rfl
/-- the rounds' state is laid -/
theorem Vk.start {w wr : World} {O KB HB MB WB g L : Nat} {P : List Int} {F fW : Nat → Value} {S : W8} (k : Bk w wr O KB HB MB WB g L P F fW) (Z : Array Value) (hz : Z.size = 8) (CL : List Value) (hc : CL = cellsOf (sF S) 8) :
    Vk w ((wr.alloc (.cells Z 49)).setCells wr.heap.size 0 CL) O KB HB MB WB g L P F fW wr.heap.size S := by
  subst hc
  refine ⟨k.below (below_setCells _ (Nat.le_refl _) _ _ _ ((Below.refl _ _).alloc (Nat.le_refl _) _)), ?_, k.rowW.lt, Nat.ne_of_lt k.hgl⟩
  have h := row_new wr Z 49
  rw [hz] at h
  refine (row_lay h 0 _).congr fun j hj => ?_
  rw [layF, cellsOf_length, if_pos (by omega), Nat.sub_zero]
  simp [cellsOf, hj]
theorem rblocks_cut (P : List Int) (L a : Nat) (h : 64 ≤ L - a) (S : W8) : blocks kf ((L - a) / 64) S (P.drop a) = blocks kf ((L - (a + 64)) / 64) (block kf S ((P.drop a).take 64)) (P.drop (a + 64)) := by
  have e : (L - a) / 64 = (L - (a + 64)) / 64 + 1 := by omega
  rw [e, blocks, List.drop_drop]
end Go.Proofs.Ytgmcdkkjemjneaa.Sm
