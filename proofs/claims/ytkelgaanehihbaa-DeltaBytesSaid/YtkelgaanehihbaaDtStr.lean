/- string(bytes), and the chapter's example. -/
import Derived.Test.YtkelgaanehihbaaDtRApply
import Derived.Test.YtkelgaanehihbaaDtRMake
import Derived.Lib.SlBytesConst
import Derived.Lib.BufferRead
import Derived.Laws.BytesString
import Derived.Laws.IdiomStrings
namespace Go.Proofs.Ytkelgaanehihbaa.Dt
open Go.RowKit
set_option linter.unusedVariables false

/-- bytes as text -/
def sb (l : List Int) : ByteArray := l.foldl (fun r n => r.push (UInt8.ofNat n.toNat)) ByteArray.empty

theorem conv_cells (w : World) (a : Addr) (l : List Int) (cap n : Nat) (hn : l.length = n) (h : ∀ j u, (bv l)[j]? = some u → w.cell? (a.add j) = some u) :
    (convert 22 9 (.slice (some a) n cap)).run Try.prog w = .ok (.string (sb l)) w := by
  rw [run_convert_bytes_string w _ _ 5 (some a) n cap Try.underlying22 Try.underlying5 Try.underlying9]
  have hl := run_loadCells_list (P := Try.prog) w a (bv l) h
  have e : (bv l).length = n := by simp [bv, hn]
  rw [e] at hl
  exact run_bytesToString w a n cap l hl

theorem conv_sl {w : World} {A : Option Addr} {n C : Nat} {l : List Int} (h : Sl w A n C l) : (convert 22 9 (.slice A n C)).run Try.prog w = .ok (.string (sb l)) w := by
  cases A with
  | none =>
    have hc := h.hnone rfl
    have hn : n = 0 := by have := h.hcap; omega
    subst hn
    obtain rfl : l = [] := List.eq_nil_of_length_eq_zero h.hlen
    exact Lib.run_convert_nil_bytes w _ _ 5 C Try.underlying22 Try.underlying5 Try.underlying9
  | some a =>
    refine conv_cells w a l C n h.hlen ?_
    intro j u hj
    obtain ⟨hj1, hj2⟩ := List.getElem?_eq_some_iff.1 hj
    rw [bv, List.length_map, h.hlen] at hj1
    obtain ⟨b, off, he, hc⟩ := h.hcell j hj1
    simp only [Option.some.injEq] at he
    subst he
    rw [show Addr.add ⟨b, off, none⟩ j = (⟨b, off + j, none⟩ : Addr) from by simp [Addr.add], hc, ← hj2]
    have : j < l.length := by rw [h.hlen]; exact hj1
    simp [bv, this]

/-- a row of the call's own, as bytes that came in -/
theorem own_sl {w : World} {B : Nat} {A : Option Addr} {n m C : Nat} {l : List Int} (h : w.ownsRow B 5 1 (.slice A n C) m (bv l)) (hb : ∀ i, i < l.length → 0 ≤ l.getD i 0 ∧ l.getD i 0 ≤ 255) (hr : m ≤ 140737488355328) :
    Sl w A n C l ∧ n = m := by
  have h1 := h.1
  rcases h.2 with ⟨hv, h0⟩ | ⟨g, cap, cur, hv, hg, hh, hc1, hc2, _⟩
  · simp only [Value.slice.injEq] at hv
    obtain ⟨rfl, rfl, rfl⟩ := hv
    have : l = [] := by simpa [bv, h0] using h1
    subst this
    exact ⟨⟨rfl, Nat.le_refl _, by omega, fun _ => rfl, fun i hi => absurd hi (by omega), fun i hi => absurd hi (by omega), by omega⟩, h0.symm⟩
  · simp only [Value.slice.injEq] at hv
    obtain ⟨rfl, rfl, rfl⟩ := hv
    have hl : l.length = n := by simpa [bv] using h1
    refine ⟨⟨hl, hc1, by unfold maxLen at hc2; omega, (fun hn => by cases hn), ?_, fun i hi => hb i (by omega), hr⟩, rfl⟩
    intro i hi
    refine ⟨g, 0, rfl, ?_⟩
    rw [Nat.zero_add, h.cellAt i (by omega)]
    have : i < l.length := by omega
    simp [bv, this]

theorem conv_own {w : World} {B : Nat} {A : Option Addr} {n m C : Nat} {l : List Int} (h : w.ownsRow B 5 1 (.slice A n C) m (bv l)) : (convert 22 9 (.slice A n C)).run Try.prog w = .ok (.string (sb l)) w := by
  have h1 := h.1
  rcases h.2 with ⟨hv, h0⟩ | ⟨g, cap, cur, hv, hg, hh, hc1, hc2, _⟩
  · simp only [Value.slice.injEq] at hv
    obtain ⟨rfl, rfl, rfl⟩ := hv
    have : l = [] := by simpa [bv, h0] using h1
    subst this
    exact Lib.run_convert_nil_bytes w _ _ 5 0 Try.underlying22 Try.underlying5 Try.underlying9
  · simp only [Value.slice.injEq] at hv
    obtain ⟨rfl, rfl, rfl⟩ := hv
    have hl : l.length = n := by simpa [bv] using h1
    refine conv_cells w _ l C n hl ?_
    intro j u hj
    obtain ⟨hj1, hj2⟩ := List.getElem?_eq_some_iff.1 hj
    rw [bv, List.length_map] at hj1
    rw [show Addr.add ⟨g, 0, none⟩ j = (⟨g, j, none⟩ : Addr) from by simp [Addr.add]; omega, h.cellAt j (by omega), ← hj]

theorem sl_mark (w : World) (l : List Int) (e : TypeId) (fr : Nat × Nat) (n : Nat) (hn : l.length = n) (hr : n ≤ 140737488355328) (hb : ∀ i, i < l.length → 0 ≤ l.getD i 0 ∧ l.getD i 0 ≤ 255) :
    Sl (w.alloc (.cells (bv l).toArray e fr)) (some ⟨w.heap.size, 0, none⟩) n n l := by
  refine ⟨hn, Nat.le_refl _, by omega, (fun h => by cases h), ?_, fun i hi => hb i (by omega), hr⟩
  intro i hi
  refine ⟨_, _, rfl, ?_⟩
  rw [Nat.zero_add, World.cell?_alloc_mark]
  have : i < l.length := by omega
  simp [bv, this]

theorem rmake_any (B : Nat) (a1 : Option Addr) (l1 c1 : Nat) (z1 : List Int) (a2 : Option Addr) (l2 c2 : Nat) (z2 : List Int) (w : World) (h1 : Sl w a1 l1 c1 z1) (h2 : Sl w a2 l2 c2 z2) (hB : B ≤ w.heap.size)
    (hlt : ∀ b off, a2 = some ⟨b, off, none⟩ → 0 < l2 → b < B) (hr : l2 ≤ 140737488000000) :
    Calls Try.prog 11 #[.slice a1 l1 c1, .slice a2 l2 c2] w (OwnRet B (mk z1 z2).length (bv (mk z1 z2)) w) := by
  have p1 := cp_le_left z1 z2
  have p2 := cp_le_right z1 z2
  have s1 := cp_le_left (z1.drop (cp z1 z2)).reverse (z2.drop (cp z1 z2)).reverse
  have s2 := cp_le_right (z1.drop (cp z1 z2)).reverse (z2.drop (cp z1 z2)).reverse
  rw [List.length_reverse, List.length_drop, h1.hlen] at s1
  rw [List.length_reverse, List.length_drop, h2.hlen] at s2
  rw [h1.hlen] at p1
  rw [h2.hlen] at p2
  have e : mk z1 z2 = mkW l1 z2 (cp z1 z2) (cp (z1.drop (cp z1 z2)).reverse (z2.drop (cp z1 z2)).reverse) := by unfold mk; rw [h1.hlen]
  rw [e]
  exact rmake_core B a1 l1 c1 z1 a2 l2 c2 z2 w h1 h2 hB hlt hr _ _ rfl rfl p1 p2 s1 s2

theorem nb_byte (x : Int) : ∀ y ∈ nb x, 0 ≤ y ∧ y ≤ 255 := by
  intro y hy
  unfold nb at hy
  simp at hy
  rcases hy with rfl | rfl | rfl | rfl <;> omega

/-- what Make answers is bytes -/
theorem mk_byte (z1 z2 : List Int) (h : ∀ i, i < z2.length → 0 ≤ z2.getD i 0 ∧ z2.getD i 0 ≤ 255) : ∀ y ∈ mk z1 z2, 0 ≤ y ∧ y ≤ 255 := by
  have h2 : ∀ y ∈ z2, 0 ≤ y ∧ y ≤ 255 := by
    intro y hy
    obtain ⟨i, hi, rfl⟩ := List.getElem_of_mem hy
    have := h i hi
    simpa [List.getD, hi] using this
  intro y hy
  unfold mk mkW at hy
  simp only [List.mem_append] at hy
  rcases hy with (((hy | hy) | hy) | hy) | hy
  · exact nb_byte _ _ hy
  · exact nb_byte _ _ hy
  · split at hy
    · rcases List.mem_append.1 hy with hy | hy
      · rcases List.mem_cons.1 hy with rfl | hy
        · omega
        · exact nb_byte _ _ hy
      · exact nb_byte _ _ hy
    · simp at hy
  · split at hy
    · rcases List.mem_append.1 hy with hy | hy
      · rcases List.mem_cons.1 hy with rfl | hy
        · omega
        · exact nb_byte _ _ hy
      · exact h2 y (List.mem_of_mem_drop (List.mem_of_mem_take hy))
    · simp at hy
  · split at hy
    · rcases List.mem_append.1 hy with hy | hy
      · rcases List.mem_cons.1 hy with rfl | hy
        · omega
        · exact nb_byte _ _ hy
      · exact nb_byte _ _ hy
    · simp at hy

theorem getD_byte {l : List Int} (h : ∀ y ∈ l, 0 ≤ y ∧ y ≤ 255) : ∀ i, i < l.length → 0 ≤ l.getD i 0 ∧ l.getD i 0 ≤ 255 := by
  intro i hi
  have := h _ (List.getElem_mem hi)
  simpa [List.getD, hi] using this

/-- the block of an owned row -/
theorem own_block {w : World} {B : Nat} {b off n C m : Nat} {xs : List Value} (h : w.ownsRow B 5 1 (.slice (some ⟨b, off, none⟩) n C) m xs) : b < w.heap.size := by
  rcases h.2 with ⟨hv, _⟩ | ⟨g, cap, cur, hv, hg, hh, _⟩
  · simp at hv
  · simp only [Value.slice.injEq, Option.some.injEq, Addr.mk.injEq, and_true] at hv
    rw [hv.1.1]
    exact (Array.getElem?_eq_some_iff.1 hh).1
end Go.Proofs.Ytkelgaanehihbaa.Dt
