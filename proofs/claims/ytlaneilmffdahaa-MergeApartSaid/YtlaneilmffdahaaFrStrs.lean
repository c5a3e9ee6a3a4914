/- What a walk is told of a slice of strings that came in, out of the form's own reading and its reach. -/
import Derived.Test.YtlaneilmffdahaaChecked
import Derived.WalkKit
import Derived.ProofKit
import Derived.SliceStrings
import Derived.SizedLaws
namespace Go.Proofs.Ytlaneilmffdahaa.Fr
open Go.ChangeShapes Go.WideShapes Go.ChangeAt Go.RowKit
set_option linter.unusedVariables false

/-- nil; or 'len' strings in cells that lie side by side, none longer than the reach. -/
def IsStrs (w : World) (a : Option Addr) (len cap : Nat) (ss : List ByteArray) : Prop :=
  (a = none ∧ len = 0 ∧ cap = 0 ∧ ss = []) ∨
  ∃ x : Addr, a = some x ∧ len ≤ cap ∧ cap * 16 ≤ 140737488351232 ∧ ss.length = len ∧ (∀ i, i < len → w.cell? (x.add i) = some (.string (ss.getD i ByteArray.empty))) ∧ (∀ s ∈ ss, s.size ≤ 140737488351232)

theorem weightsAll_strs {H : Type} (P : Program) (e : TypeId) : ∀ (ss : List ByteArray), DataW.weightsAll P e (strs (H := H) ss) = ss.map (·.size)
  | [] => rfl
  | s :: ss => by
      have ih := weightsAll_strs (H := H) P e ss
      simp only [strs, List.map_cons, DataW.weightsAll, DataW.weights] at *
      rw [ih]
      simp

theorem isStrs_of {H : Type} {enc : TypeId × Value → H} {P : Program} {W : World} {t e : TypeId} {a : Option Addr} {len cap : Nat} {d : DataW H} {p : List MemPlace}
    (hu : P.underlying t = some (.slice e)) (he : P.underlying e = some .string) (hc : P.cellsOf e = 1) (hb : P.bytesOf e = 16)
    {ts : List TypeId} {ds : List (DataW H)} (hsz : (DataW.weightsEach P ts ds).all (· ≤ reachBytes) = true) {j : Nat} (ht : ts[j]? = some t) (hd : ds[j]? = some d)
    (h : DataW.Trod enc P W 0 (fun _ => true) true t (.slice a len cap) d p) :
    ∃ ss, IsStrs W a len cap ss := by
  obtain ⟨fuel, hf⟩ := h
  rcases open_strings hu he hc hf with ⟨hcs, _⟩ | ⟨x, l, c, ss, hcs, _, hl, hm, hz, hx, hcell, hwz⟩
  · simp [Value.cells] at hcs
    obtain ⟨rfl, rfl, rfl⟩ := hcs
    exact ⟨[], .inl ⟨rfl, rfl, rfl, rfl⟩⟩
  · simp [Value.cells] at hcs
    obtain ⟨rfl, rfl, rfl⟩ := hcs
    simp only [Prod.mk.injEq] at hx
    have hlen : ss.length = cap := by simpa using hz
    have h1 := sized_slice hsz ht (hx.1 ▸ hd) hu
    rw [hb] at h1
    simp only [strs, List.length_map, List.length_take, List.length_drop, reachBytes] at h1
    have h2 : ∀ s ∈ ss.take len, s.size ≤ 140737488351232 := by
      intro s hs
      have := List.all_eq_true.1 hsz s.size (DataW.weights_mem_each ht (hx.1 ▸ hd) _ (by
        simp only [DataW.weights, hu, weightsAll_strs, List.mem_cons, List.mem_append, List.mem_map]
        exact Or.inr (Or.inl ⟨s, hs, rfl⟩)))
      exact of_decide_eq_true this
    refine ⟨ss.take len, .inr ⟨x, rfl, hl, by omega, by simp; omega, ?_, h2⟩⟩
    intro i hi
    rw [hcell i (by omega)]
    congr 2
    simp [List.getD, hi]
end Go.Proofs.Ytlaneilmffdahaa.Fr
