/- Whole blocks are worked into the state. -/
import Derived.Test.YtgmcdkkjemjneaaSmConst
namespace Go.Proofs.Ytgmcdkkjemjneaa.Sm
open Go.RowKit
set_option linter.unusedVariables false

/-- the Hash's cells, with the state S -/
def stF (F : Nat → Value) (S : W8) : Nat → Value := fun j => if j < 8 then .int .u32 (S.at j) else F j

theorem mixF_at (F : Nat → Value) (s T : W8) (j : Nat) : mixF F s T 8 j = stF F (mixin s T) j := by
  unfold mixF stF
  by_cases h : j < 8
  · rw [if_pos h, if_pos h]
    rcases (show j = 0 ∨ j = 1 ∨ j = 2 ∨ j = 3 ∨ j = 4 ∨ j = 5 ∨ j = 6 ∨ j = 7 from by omega) with rfl | rfl | rfl | rfl | rfl | rfl | rfl | rfl <;> rfl
  · rw [if_neg h, if_neg h]
theorem stF_stF (F : Nat → Value) (S T : W8) (j : Nat) : stF (stF F S) T j = stF F T j := by
  unfold stF
  by_cases h : j < 8
  · rw [if_pos h, if_pos h]
  · rw [if_neg h, if_neg h, if_neg h]
theorem stF_mixF (F : Nat → Value) (S s T : W8) (j : Nat) : mixF (stF F S) s T 8 j = stF F (mixin s T) j := by
  rw [mixF_at, stF_stF]

structure Mx (w wr : World) (H tH : Nat) (F : Nat → Value) (S : W8) (W R : Nat) (fW : Nat → Value) : Prop where
  rowH : wr.rowIs H tH 73 (stF F S)
  rowW : wr.rowIs W 48 64 fW
  rowR : wr.rowIs R 48 64 (fun j => .int .u32 (kf j))
  gr : w.grownBy wr (some H)
  hHW : H ≠ W
  hHR : H ≠ R
  hWR : W ≠ R
  hW : w.heap.size ≤ W
  hR : w.heap.size ≤ R

theorem Mx.drewN {w wr : World} {H tH : Nat} {F : Nat → Value} {S : W8} {W R : Nat} {fW : Nat → Value} (h : Mx w wr H tH F S W R fW) (n : Nat) : Mx w (wr.drewN n) H tH F S W R fW :=
  ⟨h.rowH, h.rowW, h.rowR, grown_drewN h.gr n, h.hHW, h.hHR, h.hWR, h.hW, h.hR⟩
theorem Mx.same {w wr wr' : World} {H tH : Nat} {F : Nat → Value} {S : W8} {W R : Nat} {fW : Nat → Value} (h : Mx w wr H tH F S W R fW) (e1 : wr'.heap = wr.heap) (e2 : wr'.os = wr.os) (e3 : wr'.tape = wr.tape) (e4 : wr'.output = wr.output) : Mx w wr' H tH F S W R fW :=
  ⟨h.rowH.of_block (by rw [e1]), h.rowW.of_block (by rw [e1]), h.rowR.of_block (by rw [e1]), ⟨e2.trans h.gr.os, e3.trans h.gr.tape, e4.trans h.gr.output, by rw [e1]; exact h.gr.size, fun i hi hne => by rw [e1]; exact h.gr.block i hi hne⟩, h.hHW, h.hHR, h.hWR, h.hW, h.hR⟩
theorem Mx.setW {w wr : World} {H tH : Nat} {F : Nat → Value} {S : W8} {W R : Nat} {fW : Nat → Value} (h : Mx w wr H tH F S W R fW) (t : Nat) (v : Value) : Mx w (wr.setCell ⟨W, t, none⟩ v) H tH F S W R (fun j => if j = t then v else fW j) :=
  ⟨h.rowH.setOther h.hHW v, h.rowW.set t v, h.rowR.setOther (fun e => h.hWR e.symm) v,
    ⟨h.gr.os, h.gr.tape, h.gr.output, by simpa [World.setCell] using h.gr.size, fun i hi hne => (Below.heap_setCell wr ⟨W, t, none⟩ v i (by have := h.hW; show i ≠ W; omega)).trans (h.gr.block i hi hne)⟩, h.hHW, h.hHR, h.hWR, h.hW, h.hR⟩
theorem grown_trans {a b c : World} {H : Nat} (h : a.grownBy b (some H)) (k : b.grownBy c (some H)) : a.grownBy c (some H) :=
  ⟨k.os.trans h.os, k.tape.trans h.tape, k.output.trans h.output, Nat.le_trans h.size k.size, fun i hi hne => (k.block i (Nat.lt_of_lt_of_le hi h.size) hne).trans (h.block i hi hne)⟩
theorem Mx.mixed {w wr w' : World} {H tH : Nat} {F : Nat → Value} {S T : W8} {W R : Nat} {fW : Nat → Value} (h : Mx w wr H tH F S W R fW) (hr : w'.rowIs H tH 73 (mixF (stF F S) S T 8)) (hg : wr.grownBy w' (some H)) : Mx w w' H tH F (mixin S T) W R fW :=
  ⟨hr.congr (fun j _ => stF_mixF F S S T j), h.rowW.of_block (hg.block W h.rowW.lt (fun e => h.hHW (Option.some.inj e).symm)), h.rowR.of_block (hg.block R h.rowR.lt (fun e => h.hHR (Option.some.inj e).symm)), grown_trans h.gr hg, h.hHW, h.hHR, h.hWR, h.hW, h.hR⟩

/-- the words are laid up to t -/
def Wd (m : Nat → Int) (fW : Nat → Value) (t : Nat) : Prop := ∀ j, j < t → fW j = .int .u32 (sched m j)
theorem Wd.more {m : Nat → Int} {fW : Nat → Value} {t : Nat} (h : Wd m fW t) : Wd m (fun j => if j = t then .int .u32 (sched m t) else fW j) (t + 1) := by
  intro j hj
  show (if j = t then Value.int .u32 (sched m t) else fW j) = _
  by_cases e : j = t
  · subst e; rw [if_pos rfl]
  · rw [if_neg e]; exact h j (by omega)

/-- the bytes are there in whatever world the state has turned -/
def Byt (w : World) (H : Nat) (g o n : Nat) (l : List Int) : Prop :=
  ∀ w' : World, w.grownBy w' (some H) → (∀ j, 8 ≤ j → j < 73 → w'.cell? ⟨H, j, none⟩ = w.cell? ⟨H, j, none⟩) → ∀ i, i < n → w'.cell? ⟨g, o + i, none⟩ = some (.int .u8 (l.getD i 0))

theorem Mx.byte {w wr : World} {H tH : Nat} {F : Nat → Value} {S : W8} {W R : Nat} {fW : Nat → Value} (h : Mx w wr H tH F S W R fW) (hrow : w.rowIs H tH 73 F) {g o n : Nat} {l : List Int} (hb : Byt w H g o n l) (i : Nat) (hi : i < n) : wr.cell? ⟨g, o + i, none⟩ = some (.int .u8 (l.getD i 0)) :=
  hb wr h.gr (fun j h8 h73 => by rw [h.rowH.cell h73, hrow.cell h73, stF, if_neg (by omega)]) i hi

theorem Mx.byte2 {w wr : World} {H tH : Nat} {F : Nat → Value} {S : W8} {W R : Nat} {fW : Nat → Value} (h : Mx w wr H tH F S W R fW) (hrow : w.rowIs H tH 73 F) {g o n : Nat} {l : List Int} (hb : Byt w H g o n l) (i e : Nat) (he : e = o + i) (hi : i < n) : wr.cell? ⟨g, e, none⟩ = some (.int .u8 (l.getD i 0)) := by
  subst he; exact h.byte hrow hb i hi
theorem getD_block (l : List Int) (k i : Nat) (hi : i < 64) : ((l.drop k).take 64).getD i 0 = l.getD (k + i) 0 := by
  simp [List.getD, hi]
theorem wordsOf_block (l : List Int) (k t : Nat) (ht : t < 16) : wordsOf ((l.drop k).take 64) t = word4 (l.getD (k + 4 * t) 0) (l.getD (k + 4 * t + 1) 0) (l.getD (k + 4 * t + 2) 0) (l.getD (k + 4 * t + 3) 0) := by
  rw [wordsOf, getD_block _ _ _ (by omega), getD_block _ _ _ (by omega), getD_block _ _ _ (by omega), getD_block _ _ _ (by omega)]
  rfl

theorem blocks_cut (s : W8) (l : List Int) (n q : Nat) (hq : 64 ≤ n - 64 * q) (S : W8) : blocks kf ((n - 64 * q) / 64) S (l.drop (64 * q)) = blocks kf ((n - 64 * (q + 1)) / 64) (block kf S ((l.drop (64 * q)).take 64)) (l.drop (64 * (q + 1))) := by
  have e : (n - 64 * q) / 64 = (n - 64 * (q + 1)) / 64 + 1 := by omega
  rw [e, blocks, List.drop_drop]
  congr 2

theorem Mx.start {w w1 wX : World} {H tH : Nat} {F : Nat → Value} {s : W8} (hrow : w.rowIs H tH 73 F) (hF : ∀ j, j < 8 → F j = .int .u32 (s.at j)) (hb1 : Below w.heap.size w w1) {Z0 : Array Value} (hz0 : Z0.size = 64)
    (hX : (w1.alloc (.cells Z0 48)).setCells w1.heap.size 0 (uv kc) = wX) {Z : Array Value} (hz : Z.size = 64) :
    Mx w (wX.alloc (.cells Z 48)) H tH F s wX.heap.size w1.heap.size (fun i => Z.getD i undef) := by
  have hbX : Below w1.heap.size w1 wX := by
    rw [← hX]
    exact below_setCells _ (Nat.le_refl _) _ _ _ ((Below.refl _ _).alloc (Nat.le_refl _) _)
  have hR : wX.heap[w1.heap.size]? = some (.cells (uv kc).toArray 48 (0, 0)) := by
    rw [← hX]
    exact row_stored (hz0 ▸ row_new w1 Z0 _) (uv kc) (by rw [uv, List.length_map]; rfl)
  have hRlt : w1.heap.size < wX.heap.size := by
    rcases Nat.lt_or_ge w1.heap.size wX.heap.size with h | h
    · exact h
    · rw [Array.getElem?_eq_none h] at hR; simp at hR
  have hH := hrow.lt
  have hs1 := hb1.size
  have hwX : Below w.heap.size w wX := hb1.trans (hbX.mono hs1)
  have hw : Below w.heap.size w (wX.alloc (.cells Z 48)) := hwX.alloc hwX.size _
  refine ⟨?_, ?_, ?_, ⟨hw.os, hw.tape, hw.output, hw.size, fun i hi _ => hw.block i hi⟩, by omega, by omega, by omega, by omega, hs1⟩
  · refine World.rowIs.congr (f := F) (hrow.of_block (hw.block H hH)) (fun j hj => ?_)
    unfold stF
    by_cases h : j < 8
    · rw [if_pos h, hF j h]
    · rw [if_neg h]
  · have := row_new wX Z 48
    rwa [hz] at this
  · refine ⟨(uv kc).toArray, ?_, by rw [List.size_toArray, uv, List.length_map]; rfl, fun i hi => ?_⟩
    · rw [Below.heap_alloc _ _ _ hRlt]; exact hR
    · have hl : kc.length = 64 := rfl
      simp [uv, kf, List.getD, hl, hi]

end Go.Proofs.Ytgmcdkkjemjneaa.Sm
