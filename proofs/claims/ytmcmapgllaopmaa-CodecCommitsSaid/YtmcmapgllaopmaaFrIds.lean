/- What a walk is told of an Id (an array of 32 bytes) that came in by value. -/
import Derived.Test.YtmcmapgllaopmaaChecked
import Derived.WalkKit
import Derived.ProofKit
import Derived.SizedLaws
import Derived.OpenShut
namespace Go.Proofs.Ytmcmapgllaopmaa.Fr
open Go.ChangeShapes Go.WideShapes Go.ChangeAt Go.RowKit
set_option linter.unusedVariables false

def IsId (a : List Int) : Prop := a.length = 32 ∧ ∀ x ∈ a, 0 ≤ x ∧ x ≤ 255

theorem isId_of {H : Type} {enc : TypeId × Value → H} {P : Program} {W : World} {r : Reach} {b0 : Nat} {t e : TypeId} {v : Value} {d : DataW H} {p : List MemPlace}
    (ht : P.underlying t = some (.array 32 e)) (he : P.underlying e = some (.int .u8)) (ce : P.cellsOf e = 1) (ct : P.cellsOf t = 32)
    (hv : Value.okWide P W r b0 t v) (h : DataW.Trod enc P W 0 (fun _ => true) true t v d p) :
    ∃ a, v = .agg (a.map (Value.int .u8)).toArray ∧ IsId a := by
  unfold Value.okWide at hv
  simp only [ht] at hv
  obtain ⟨cs, rfl, hsz, -⟩ := hv
  obtain ⟨fuel, hf⟩ := h
  obtain ⟨xs, m, -, -, -, hlen, hel⟩ := DataW.trod_array ht hf
  obtain ⟨l⟩ := cs
  rw [ct] at hsz
  have hsl : l.length = 32 := by simpa using hsz
  have key : ∀ c ∈ l, ∃ n : Int, c = .int .u8 n ∧ 0 ≤ n ∧ n ≤ 255 := by
    intro c hc
    obtain ⟨i, hi, rfl⟩ := List.getElem_of_mem hc
    have h1 := hel i (by omega)
    rw [ce, List.getElem?_eq_getElem (by omega)] at h1
    have h2 : (((Value.agg ⟨l⟩).cells.toList).drop (i * 1)).take 1 = [l[i]] := by
      show (l.drop (i * 1)).take 1 = _
      rw [Nat.mul_one, List.drop_eq_getElem_cons hi]
      rfl
    rw [h2] at h1
    obtain ⟨n, hn, _, wn⟩ := DataW.trod_int he h1
    have e1 : IntKind.u8.min = 0 := rfl
    have e2 : IntKind.u8.max = 255 := rfl
    simp only [Lit.wf, Bool.and_eq_true, decide_eq_true_eq] at wn
    exact ⟨n, by simpa using hn, by omega, by omega⟩
  refine ⟨l.map fun c => match c with | .int _ n => n | _ => 0, ?_, by simpa using hsl, ?_⟩
  · congr 2
    rw [List.map_map]
    have : l.map (fun c => c) = l := by simp
    conv => lhs; rw [← this]
    refine List.map_congr_left fun c hc => ?_
    obtain ⟨n, rfl, -⟩ := key c hc
    rfl
  · intro x hx
    obtain ⟨c, hc, rfl⟩ := List.mem_map.1 hx
    obtain ⟨n, rfl, h1, h2⟩ := key c hc
    exact ⟨h1, h2⟩
end Go.Proofs.Ytmcmapgllaopmaa.Fr
