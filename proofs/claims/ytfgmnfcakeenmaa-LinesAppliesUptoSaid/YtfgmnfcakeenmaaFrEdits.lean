/- What a walk is told of a slice of structs of two ints that came in. -/
import Derived.Test.YtfgmnfcakeenmaaChecked
import Derived.WalkKit
import Derived.ProofKit
import Derived.SizedLaws
import Derived.Deep.SlicePairs
namespace Go.Proofs.Ytfgmnfcakeenmaa.Fr
open Go.ChangeShapes Go.WideShapes Go.ChangeAt Go.RowKit
set_option linter.unusedVariables false

/-- nil; or 'len' pairs of numbers in cells that lie side by side. -/
def IsPairs (w : World) (a : Option Addr) (len cap : Nat) (es : List (Int × Int)) : Prop :=
  (a = none ∧ len = 0 ∧ cap = 0 ∧ es = []) ∨
  ∃ x : Addr, a = some x ∧ len ≤ cap ∧ cap * 16 ≤ 140737488351232 ∧ es.length = len ∧ (∀ i, i < len → w.cell? (x.add (i * 2)) = some (.int .i64 (es.getD i (0, 0)).1) ∧ w.cell? (x.add (i * 2 + 1)) = some (.int .i64 (es.getD i (0, 0)).2)) ∧
    (∀ p ∈ es, (Lit.int .i64 p.1).wf = true ∧ (Lit.int .i64 p.2).wf = true)

theorem isPairs_of {H : Type} {enc : TypeId × Value → H} {P : Program} {W : World} {t e : TypeId} {f0 f1 : Field} {a : Option Addr} {len cap : Nat} {d : DataW H} {p : List MemPlace}
    (hu : P.underlying t = some (.slice e)) (he : P.underlying e = some (.struct #[f0, f1])) (ce : P.cellsOf e = 2) (o0 : f0.offset = 0) (o1 : f1.offset = 1) (c0 : P.cellsOf f0.type = 1) (c1 : P.cellsOf f1.type = 1)
    (u0 : P.underlying f0.type = some (.int .i64)) (u1 : P.underlying f1.type = some (.int .i64)) (hb : P.bytesOf e = 16)
    {ts : List TypeId} {ds : List (DataW H)} (hsz : (DataW.weightsEach P ts ds).all (· ≤ reachBytes) = true) {j : Nat} (ht : ts[j]? = some t) (hd : ds[j]? = some d)
    (h : DataW.Trod enc P W 0 (fun _ => true) true t (.slice a len cap) d p) :
    ∃ es, IsPairs W a len cap es := by
  obtain ⟨fuel, hf⟩ := h
  rcases Go.Deep.open_slice_pairs hu he ce o0 o1 c0 c1 hf with ⟨hcs, _⟩ | ⟨x, l, c, m, n, V0, V1, D0, D1, P0, P1, hcs, _, hl, hm, hmm, hx, hcell⟩
  · simp [Value.cells] at hcs
    obtain ⟨rfl, rfl, rfl⟩ := hcs
    exact ⟨[], .inl ⟨rfl, rfl, rfl, rfl⟩⟩
  · simp [Value.cells] at hcs
    obtain ⟨rfl, rfl, rfl⟩ := hcs
    simp only [if_true] at hmm
    subst hmm
    simp only [Prod.mk.injEq] at hx
    have h1 := sized_slice hsz ht (hx.1 ▸ hd) hu
    rw [hb] at h1
    simp only [List.length_map, List.length_range, reachBytes] at h1
    have each : ∀ i, i < len → ∃ y z : Int, V0 i = .int .i64 y ∧ V1 i = .int .i64 z ∧ (Lit.int .i64 y).wf = true ∧ (Lit.int .i64 z).wf = true := by
      intro i hi
      obtain ⟨_, _, t0, t1⟩ := hcell i (by omega)
      obtain ⟨y, hy, _, wy⟩ := DataW.trod_int u0 t0
      obtain ⟨z, hz, _, wz⟩ := DataW.trod_int u1 t1
      exact ⟨y, z, by simpa using hy, by simpa using hz, wy, wz⟩
    have hes : ∃ es : List (Int × Int), es.length = len ∧ ∀ i (hi : i < es.length), V0 i = .int .i64 (es[i]'hi).1 ∧ V1 i = .int .i64 (es[i]'hi).2 ∧ (Lit.int .i64 (es[i]'hi).1).wf = true ∧ (Lit.int .i64 (es[i]'hi).2).wf = true := by
      have g : ∀ k, k ≤ len → ∃ es : List (Int × Int), es.length = k ∧ ∀ i (hi : i < es.length), V0 i = .int .i64 (es[i]'hi).1 ∧ V1 i = .int .i64 (es[i]'hi).2 ∧ (Lit.int .i64 (es[i]'hi).1).wf = true ∧ (Lit.int .i64 (es[i]'hi).2).wf = true := by
        intro k
        induction k with
        | zero => intro _; exact ⟨[], rfl, fun i hi => absurd hi (by simp)⟩
        | succ k ih =>
          intro hk
          obtain ⟨es, hl2, hall⟩ := ih (by omega)
          obtain ⟨y, z, hy, hz, wy, wz⟩ := each k (by omega)
          refine ⟨es ++ [(y, z)], by simp [hl2], fun i hi => ?_⟩
          by_cases e : i < es.length
          · rw [List.getElem_append_left e]; exact hall i e
          · have e2 : i = es.length := by simp at hi; omega
            subst e2
            rw [List.getElem_concat_length rfl]
            rw [hl2]
            exact ⟨hy, hz, wy, wz⟩
      exact g len (Nat.le_refl _)
    obtain ⟨es, hl2, hall⟩ := hes
    refine ⟨es, .inr ⟨x, rfl, hl, ?_, hl2, ?_, ?_⟩⟩
    · omega
    · intro i hi
      obtain ⟨g0, g1, _, _⟩ := hcell i (by omega)
      obtain ⟨v0, v1, _, _⟩ := hall i (by omega)
      rw [g0, g1, v0, v1]
      simp [List.getD, show i < es.length by omega]
    · intro p hp
      obtain ⟨i, hi, rfl⟩ := List.getElem_of_mem hp
      obtain ⟨_, _, y, z⟩ := hall i hi
      exact ⟨y, z⟩
end Go.Proofs.Ytfgmnfcakeenmaa.Fr
