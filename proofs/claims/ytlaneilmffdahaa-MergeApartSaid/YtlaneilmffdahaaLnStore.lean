/-
A cell of one's own row is stored. By an AI agent; no person has read it.
-/
import Derived.Test.YtlaneilmffdahaaLnLeast
namespace Go.Proofs.Ytlaneilmffdahaa.Ln
open Go Go.Proofs.Ytlaneilmffdahaa
theorem own_store {w : World} {B : Nat} {t : TypeId} {A : Option Addr} {n C : Nat} {xs : List Value} (h : w.ownsRow B t 1 (.slice A n C) n xs) (i : Nat) (hi : i < n) :
    ∃ g, A = some ⟨g, 0, none⟩ ∧ B ≤ g ∧ (∃ v, w.cell? ⟨g, i, none⟩ = some v) ∧ w.frozen? ⟨g, i, none⟩ = false ∧ ∀ u, ∃ ys, (w.setCell ⟨g, i, none⟩ u).ownsRow B t 1 (.slice A n C) n ys := by
  have hl := h.1
  have h0 := h
  rcases h.2 with ⟨hv, hn⟩ | ⟨g, cap, cur, hv, hb, hg, hnc, hcm, hcs, htake⟩
  · omega
  · simp only [Value.slice.injEq, true_and] at hv
    obtain ⟨rfl, rfl⟩ := hv
    refine ⟨g, rfl, hb, ⟨xs[i]'(by omega), ?_⟩, h0.frozenAt i, fun u => ⟨_, (h0.stored i u).1⟩⟩
    rw [h0.cellAt i (by omega)]
    exact List.getElem?_eq_getElem _
end Go.Proofs.Ytlaneilmffdahaa.Ln
