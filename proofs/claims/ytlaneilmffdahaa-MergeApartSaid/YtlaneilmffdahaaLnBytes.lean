/- Rows of bytes that are read, their text, and the place of a line feed. -/
import Derived.Test.YtlaneilmffdahaaLnIndex
import Derived.Test.YtlaneilmffdahaaLnOpen
import Derived.Lib.SlBytesConst
import Derived.Lib.BufferRead
import Derived.Laws.BytesString
import Derived.Laws.IdiomStrings
namespace Go.Proofs.Ytlaneilmffdahaa.Ln
open Go.RowKit
set_option linter.unusedVariables false
def bv (l : List Int) : List Value := l.map (Value.int .u8)
/-- bytes as text -/
def sb (l : List Int) : ByteArray := l.foldl (fun r n => r.push (UInt8.ofNat n.toNat)) ByteArray.empty
theorem bv_get (l : List Int) (i : Nat) (h : i < l.length) : (bv l)[i]? = some (.int .u8 (l.getD i 0)) := by simp [bv, h]
theorem conv_cells (w : World) (a : Addr) (l : List Int) (cap n : Nat) (hn : l.length = n) (h : ∀ j u, (bv l)[j]? = some u → w.cell? (a.add j) = some u) :
    (convert 32 9 (.slice (some a) n cap)).run Try.prog w = .ok (.string (sb l)) w := by
  rw [run_convert_bytes_string w _ _ 5 (some a) n cap Try.underlying32 Try.underlying5 Try.underlying9]
  have hl := run_loadCells_list (P := Try.prog) w a (bv l) h
  have e : (bv l).length = n := by simp [bv, hn]
  rw [e] at hl
  exact run_bytesToString w a n cap l hl
theorem Rd.byte {w : World} {B : Nat} {a : Option Addr} {n cap : Nat} {l : List Int} (h : Rd w B a n cap (bv l)) (i : Nat) (hi : i < n) : ∃ b off, a = some ⟨b, off, none⟩ ∧ b < B ∧ w.cell? ⟨b, off + i, none⟩ = some (.int .u8 (l.getD i 0)) := by
  obtain ⟨b, off, v, ha, hb, hx, hc⟩ := h.hcell i hi
  have hl : i < l.length := by have := h.hlen; simp [bv] at this; omega
  rw [bv_get l i hl] at hx
  simp only [Option.some.injEq] at hx
  exact ⟨b, off, ha, hb, by rw [hc, hx]⟩
theorem conv_rd {w : World} {B : Nat} {A : Option Addr} {n C : Nat} {l : List Int} (h : Rd w B A n C (bv l)) : (convert 32 9 (.slice A n C)).run Try.prog w = .ok (.string (sb l)) w := by
  have hl : l.length = n := by have := h.hlen; simpa [bv] using this
  cases A with
  | none =>
    have hc := h.hnone rfl
    have hn : n = 0 := by have := h.hcap; omega
    subst hn
    obtain rfl : l = [] := List.eq_nil_of_length_eq_zero hl
    exact Lib.run_convert_nil_bytes w _ _ 5 C Try.underlying32 Try.underlying5 Try.underlying9
  | some a =>
    refine conv_cells w a l C n hl ?_
    intro j u hj
    obtain ⟨hj1, hj2⟩ := List.getElem?_eq_some_iff.1 hj
    rw [bv, List.length_map, hl] at hj1
    obtain ⟨b, off, he, _, hc⟩ := h.byte j hj1
    simp only [Option.some.injEq] at he
    subst he
    rw [show Addr.add ⟨b, off, none⟩ j = (⟨b, off + j, none⟩ : Addr) from by simp [Addr.add], hc, ← hj, bv_get l j (by omega)]
/-- the place of the first line feed, with one added; 0 if there is none -/
theorem index_rd {w : World} {B : Nat} {A : Option Addr} {n C : Nat} {l : List Int} (h : Rd w B A n C (bv l)) (hn : 0 < n) (cv : Int) :
    Calls Try.prog 51 #[.slice A n C, .int .u8 cv] w fun e w' => e = .returned (.int .i64 (Lib.indexByte (Lib.bytesOf l) cv.toNat.toUInt8)) ∧ w' = w := by
  have hl : l.length = n := by have := h.hlen; simpa [bv] using this
  obtain ⟨b, off, rfl, _, _⟩ := h.byte 0 hn
  refine index_any _ n C l cv w hl ?_
  intro i hi
  obtain ⟨b', off', he, _, hc⟩ := h.byte i hi
  simp only [Option.some.injEq, Addr.mk.injEq, and_true] at he
  obtain ⟨rfl, rfl⟩ := he
  rw [show Addr.add ⟨b, off, none⟩ i = (⟨b, off + i, none⟩ : Addr) from by simp [Addr.add], hc]
end Go.Proofs.Ytlaneilmffdahaa.Ln
