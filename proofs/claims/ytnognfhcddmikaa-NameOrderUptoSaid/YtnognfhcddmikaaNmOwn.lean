/- The document's Fits beside nothing; rows that the call itself made. -/
import Derived.Test.YtnognfhcddmikaaNmKnown
import Derived.OwnWalk
import Derived.Test.YtnognfhcddmikaaFrStrs
namespace Go.Proofs.Ytnognfhcddmikaa.Nm
open Go.RowKit
set_option linter.unusedVariables false

theorem own_empty (w : World) (B : Nat) (e : TypeId) (h : B ≤ w.heap.size) : (w.alloc (.cells #[] e)).ownsRow B e 1 (.slice (some ⟨w.heap.size, 0, none⟩) 0 0) 0 [] := by
  refine ⟨rfl, Or.inr ⟨w.heap.size, 0, #[], rfl, h, ?_, Nat.le_refl _, by unfold maxLen; omega, rfl, rfl⟩⟩
  show (w.heap.push _)[w.heap.size]? = _
  simp

theorem fits_nil (s : List UInt8) : fits s [] = eno (nm s) := by
  unfold fits
  cases h : nm s <;> simp [eno]

set_option maxHeartbeats 1000000 in
theorem rfits_none (s : ByteArray) (a : Option Addr) (cap : Nat) (w : World) (hs : s.size ≤ maxLen) :
    Calls Try.prog 11 #[.string s, .slice a 0 cap] w fun e w' => e = .returned (.int .i64 (fits s.data.toList [])) ∧ w = w' := by
  have CK := Lib.hid (ref_any s w hs)
  rw [fits_nil]
  generalize eno (nm s.data.toList) = e0 at CK ⊢
  clear hs
  go_enter Try.func11, Try.ntmps11
  go_wp2_with (go_at_call 9; refine CK.out.mono ?_; rintro e w' ⟨rfl, rfl⟩)
  clear CK
  go_loop [5, 6] (fun e i => e = .int .i64 e0 ∧ i = .int .i64 0) (fun _ _ => 0)
  case atStart => exact ⟨rfl, rfl⟩
  case round =>
    obtain ⟨rfl, rfl⟩ := hrel
    go_wp2
    go_loop [5, 7] (fun e i => e = .int .i64 e0 ∧ i = .int .i64 0) (fun _ _ => 0)
    case atStart => exact ⟨rfl, rfl⟩
    case round =>
      obtain ⟨rfl, rfl⟩ := hrel
      go_wp2
      go_ret
      exact ⟨rfl, rfl⟩

/-- the strings that came in, in any world that kept them -/
theorem cells_kept {w w1 : World} {b off : Nat} {len : Nat} {ss : List ByteArray} (hb : Below w.heap.size w w1) (hz : ss.length = len)
    (hc : ∀ i, i < len → w.cell? (Addr.add ⟨b, off, none⟩ i) = some (.string (ss.getD i ByteArray.empty))) : Cells w1 b off len ss := by
  refine ⟨hz, fun i hi => ?_⟩
  have h : w.cell? ⟨b, off + i, none⟩ = some (.string (ss.getD i ByteArray.empty)) := by
    have := hc i hi
    rwa [show Addr.add ⟨b, off, none⟩ i = (⟨b, off + i, none⟩ : Addr) from by simp [Addr.add]] at this
  have hlt := block_lt_of_cell h
  rw [← h]
  exact hb.cell (p := ⟨b, off + i, none⟩) hlt

/-- an owned row of strings, as cells -/
theorem own_cells {w : World} {B e : Nat} {v : Value} {n : Nat} {ss : List ByteArray} (h : w.ownsRow B e 1 v n (ss.map Value.string)) (hn : v ≠ .slice none 0 0) (hs : ss.length = n) :
    ∃ g cap, v = .slice (some ⟨g, 0, none⟩) n cap ∧ Cells w g 0 n ss := by
  have h' := h
  rcases h.2 with ⟨h1, _⟩ | ⟨g, cap, cur, rfl, _⟩
  · exact absurd h1 hn
  · refine ⟨g, cap, rfl, hs, fun i hi => ?_⟩
    have := h'.cellAt i (by omega)
    rw [Nat.zero_add, this]
    simp [hs, hi]
end Go.Proofs.Ytnognfhcddmikaa.Nm
