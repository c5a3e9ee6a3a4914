/- Rows of bytes. -/
import Derived.Test.YtmcmapgllaopmaaChecked
import Derived.WalkKit
import Derived.WalkSpells
import Derived.WalkLawsBesides
import Derived.Outline
import Derived.LoopTactic
import Derived.Lib.Hide
import Derived.Deep.Light
import Derived.Deep.QuietTactic
import Derived.BigQuiet
import Derived.OwnWalk
import Derived.Below
import Derived.Deep.LoopGhost
namespace Go.Proofs.Ytmcmapgllaopmaa.Cd
open Go.RowKit
set_option linter.unusedVariables false

theorem ret_int {k : IntKind} {a b : Int} (h : a = b) : Ending.returned (.int k a) = .returned (.int k b) := by rw [h]
theorem ret_bool {a b : Bool} (h : a = b) : Ending.returned (.bool a) = .returned (.bool b) := by rw [h]

/-- the call hands back a row of its own that holds xs; nothing below B turned -/
def OwnRet (B n : Nat) (xs : List Value) (w : World) (e : Ending) (w' : World) : Prop :=
  ∃ v', e = .returned v' ∧ w'.ownsRow B 5 1 v' n xs ∧ Below B w w'

def bv (l : List Int) : List Value := l.map (Value.int .u8)
theorem bv_one (l : List Int) : ∀ u ∈ bv l, u.oneCell' = true := by
  intro u hu
  obtain ⟨x, _, rfl⟩ := List.mem_map.1 hu
  rfl

theorem below_grown {B : Nat} {w w' : World} {v : Value} {n : Nat} {xs : List Value} (hB : B ≤ w.heap.size) (hown : w.ownsRow B 5 1 v n xs) (hg : w.grownBy w' v.ownBlock) : Below B w w' :=
  (Below.refl B w).grown hg hB (fun k hk => by
    rcases hown.2 with ⟨h, _⟩ | ⟨g', cap', cur, h, hge, _⟩
    · rw [h] at hk; simp [Value.ownBlock] at hk
    · rw [h] at hk; simp [Value.ownBlock] at hk; omega)

theorem new_cells (l : List Int) (w : World) (e : TypeId) : ∀ j u, (bv l)[j]? = some u → (w.alloc (.cells (bv l).toArray e)).cell? (Addr.add ⟨w.heap.size, 0, none⟩ j) = some u := by
  intro j u hj
  rw [show Addr.add ⟨w.heap.size, 0, none⟩ j = (⟨w.heap.size, j, none⟩ : Addr) from by simp [Addr.add]; omega, World.cell?_alloc_new]
  simpa using hj
theorem own_eq {w : World} {B e : Nat} {v : Value} {n m : Nat} {xs ys : List Value} (h : w.ownsRow B e 1 v n xs) (hx : xs = ys) (hn : n = m) : w.ownsRow B e 1 v m ys := by
  rw [← hx, ← hn]; exact h
end Go.Proofs.Ytmcmapgllaopmaa.Cd
