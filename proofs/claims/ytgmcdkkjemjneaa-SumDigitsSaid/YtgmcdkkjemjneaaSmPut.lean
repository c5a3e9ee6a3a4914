/- putWord, and the end of the bytes. -/
import Derived.Test.YtgmcdkkjemjneaaSmTake
namespace Go.Proofs.Ytgmcdkkjemjneaa.Sm
open Go.RowKit
set_option linter.unusedVariables false

/-- a word's bytes -/
def wb (x : Int) : List Int := [x / 16777216, x / 65536 % 256, x / 256 % 256, x % 256]
theorem wb_length (x : Int) : (wb x).length = 4 := rfl
theorem wb_range (x : Int) (h0 : 0 ≤ x) (h1 : x < 4294967296) : ∀ y ∈ wb x, 0 ≤ y ∧ y ≤ 255 := by
  intro y hy
  simp only [wb, List.mem_cons, List.not_mem_nil, or_false] at hy
  omega

set_option maxRecDepth 100000 in
set_option maxHeartbeats 1000000 in
theorem put_any (g t o n c k : Nat) (F : Nat → Value) (x : Int) (w : World) (h0 : 0 ≤ x) (h1 : x < 4294967296) (hn : 4 ≤ n) (hrow : w.rowIs g t k F) (hk : o + 4 ≤ k) :
    Calls Try.prog 25 #[.slice (some ⟨g, o, none⟩) n c, .int .u32 x] w fun e w' => e = .returned (.tuple #[]) ∧ w' = w.setCells g o (bv (wb x)) := by
  have c0 : w.cell? ⟨g, o, none⟩ = some (F o) := hrow.cell (by omega)
  have c1 : w.cell? ⟨g, o + 1, none⟩ = some (F (o + 1)) := hrow.cell (by omega)
  have c2 : w.cell? ⟨g, o + 2, none⟩ = some (F (o + 2)) := hrow.cell (by omega)
  have c3 : w.cell? ⟨g, o + 3, none⟩ = some (F (o + 3)) := hrow.cell (by omega)
  have f0 : ∀ j, w.frozen? ⟨g, j, none⟩ = false := fun j => hrow.frozen j
  clear hrow
  go_enter Try.func25, Try.ntmps25
  go_wp2
  go_end0
  exact ⟨rfl, rfl⟩
end Go.Proofs.Ytgmcdkkjemjneaa.Sm
