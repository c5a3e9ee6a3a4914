/- Bytes that came in, as the walks want them. -/
import Derived.Test.YtkelgaanehihbaaDtKnown
import Derived.Test.YtkelgaanehihbaaDtWithin
import Derived.Test.YtkelgaanehihbaaFrInts
namespace Go.Proofs.Ytkelgaanehihbaa.Dt
open Go.RowKit
set_option linter.unusedVariables false

theorem sl_of_ints {w : World} {a : Option Addr} {len cap : Nat} {zs : List Int} (h : Fr.IsInts .u8 1 w a len cap zs) :
    Sl w a len cap zs ∧ ∀ b off, a = some ⟨b, off, none⟩ → 0 < len → b < w.heap.size := by
  rcases h with ⟨rfl, rfl, rfl, rfl⟩ | ⟨x, rfl, hl, hm, hz, hc, hw⟩
  · exact ⟨⟨rfl, Nat.le_refl _, by omega, fun _ => rfl, fun i hi => absurd hi (by omega), fun i hi => absurd hi (by omega), by omega⟩, fun b off he => by cases he⟩
  · refine ⟨⟨hz, hl, by omega, (fun hn => by cases hn), ?_, ?_, by omega⟩, ?_⟩
    · intro i hi
      have h := hc i hi
      obtain ⟨b, off, spot⟩ := x
      have hspot : spot = none := by simpa [Addr.add] using World.cell?_spot (hc 0 (by omega))
      subst hspot
      refine ⟨b, off, rfl, ?_⟩
      rw [← h]
      congr 1
      simp [Addr.add]
    · intro i hi
      have hm : zs.getD i 0 ∈ zs := by rw [List.getD_eq_getElem?_getD, List.getElem?_eq_getElem (by omega)]; exact List.getElem_mem _
      have h1 := hw _ hm
      have e1 : IntKind.u8.min = 0 := rfl
      have e2 : IntKind.u8.max = 255 := rfl
      simp only [Lit.wf, Bool.and_eq_true, decide_eq_true_eq] at h1
      omega
    · intro b off he hp
      have h := hc 0 hp
      have := block_lt_of_cell h
      simp only [Option.some.injEq] at he
      subst he
      simpa [Addr.add] using this

/-- a slice of ints that came in: one of them -/
theorem int_cell {w : World} {a : Option Addr} {len cap : Nat} {zs : List Int} (h : Fr.IsInts .i64 8 w a len cap zs) :
    len ≤ cap ∧ cap ≤ 17592186044416 ∧ ∀ i, i < len → ∃ b off, a = some ⟨b, off, none⟩ ∧ w.cell? ⟨b, off + i, none⟩ = some (.int .i64 (zs.getD i 0)) ∧ b < w.heap.size ∧ -9223372036854775808 ≤ zs.getD i 0 ∧ zs.getD i 0 ≤ 9223372036854775807 := by
  rcases h with ⟨rfl, rfl, rfl, rfl⟩ | ⟨x, rfl, hl, hm, hz, hc, hw⟩
  · exact ⟨Nat.le_refl _, by omega, fun i hi => absurd hi (by omega)⟩
  · refine ⟨hl, by omega, fun i hi => ?_⟩
    have h := hc i hi
    obtain ⟨b, off, spot⟩ := x
    have hspot : spot = none := by simpa [Addr.add] using World.cell?_spot (hc 0 (by omega))
    subst hspot
    have hlt : b < w.heap.size := by simpa [Addr.add] using block_lt_of_cell (hc 0 (by omega))
    have hm : zs.getD i 0 ∈ zs := by rw [List.getD_eq_getElem?_getD, List.getElem?_eq_getElem (by omega)]; exact List.getElem_mem _
    refine ⟨b, off, rfl, ?_, hlt, Wi.wf_bounds (hw _ hm)⟩
    rw [← h]
    congr 1
    simp [Addr.add]

theorem own_take {w : World} {B g n C : Nat} {xs : List Value} (h : w.ownsRow B 5 1 (.slice (some ⟨g, 0, none⟩) n C) n xs) (m : Nat) (hm : m ≤ n) : w.ownsRow B 5 1 (.slice (some ⟨g, 0, none⟩) m C) m (xs.take m) := by
  have h1 := h.1
  rcases h.2 with ⟨hv, _⟩ | ⟨g', cap, cur, hv, hg, hh, hc1, hc2, hc3, ht⟩
  · simp at hv
  · simp only [Value.slice.injEq, Option.some.injEq, Addr.mk.injEq, and_true, true_and] at hv
    obtain ⟨rfl, rfl⟩ := hv
    refine ⟨by rw [List.length_take]; omega, .inr ⟨g, C, cur, rfl, hg, hh, by omega, hc2, hc3, ?_⟩⟩
    rw [← ht, List.take_take]
    congr 1
    omega

theorem own_later {w w' : World} {B e : Nat} {v : Value} {n : Nat} {xs : List Value} (h : w.ownsRow B e 1 v n xs) (hb : Below w.heap.size w w') : w'.ownsRow B e 1 v n xs :=
  h.kept (row := none) ⟨hb.os, hb.tape, hb.output, hb.size, fun k hk _ => hb.block k hk⟩ (by cases v.ownBlock <;> simp)

theorem own_lt {w : World} {B n C m : Nat} {A : Option Addr} {xs : List Value} (h : w.ownsRow B 5 1 (.slice A n C) m xs) : ∀ b off, A = some ⟨b, off, none⟩ → b < w.heap.size := by
  intro b off he
  subst he
  exact own_block h
end Go.Proofs.Ytkelgaanehihbaa.Dt
