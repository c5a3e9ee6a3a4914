/- delta.Apply, walked: what it answers, of any bytes. -/
import Derived.Test.YtkelgaanehihbaaDtStep
import Derived.Deep.LoopGhost
namespace Go.Proofs.Ytkelgaanehihbaa.Dt
open Go.RowKit
set_option linter.unusedVariables false

def run (base : List Int) (want : Int) : Nat → List Int → List Int → List Int × Int
  | 0, _, _ => ([], 99)
  | f + 1, zs, out =>
    if zs.length = 0 then (if (out.length : Int) < want then ([], 16) else (out, 0))
    else match step base zs with
      | .error e => ([], e)
      | .ok (p, rest) => if want - (out.length : Int) < (p.length : Int) then ([], 16) else run base want f rest (out ++ p)

/-- what Apply answers -/
def ap (base d : List Int) : List Int × Int :=
  if d.length < 8 then ([], 14) else if num d ≠ (base.length : Int) then ([], 1) else run base (num (d.drop 4)) (d.length + 1) (d.drop 8) []

theorem step_rest {base zs p rest : List Int} (h : step base zs = .ok (p, rest)) (hz : 0 < zs.length) : rest.length < zs.length := by
  unfold step at h
  split at h
  · split at h
    · cases h
    · split at h
      · cases h
      · split at h
        · cases h
        · cases h; simp; omega
  · split at h
    · split at h
      · cases h
      · split at h
        · cases h
        · split at h
          · cases h
          · cases h; simp; omega
    · cases h

theorem run_fuel (base : List Int) (want : Int) : ∀ (f g : Nat) (zs out : List Int), zs.length < f → zs.length < g → run base want f zs out = run base want g zs out
  | 0, _, zs, _, h, _ => absurd h (by omega)
  | _, 0, zs, _, _, h => absurd h (by omega)
  | f + 1, g + 1, zs, out, hf, hg => by
      unfold run
      by_cases hz : zs.length = 0
      · rw [if_pos hz, if_pos hz]
      · rw [if_neg hz, if_neg hz]
        cases hs : step base zs with
        | error e => rfl
        | ok pr =>
          obtain ⟨p, rest⟩ := pr
          have := step_rest hs (by omega)
          simp only []
          rw [run_fuel base want f g rest (out ++ p) (by omega) (by omega)]

theorem run_stop (base : List Int) (want : Int) (zs out : List Int) (h : zs.length = 0) : run base want (zs.length + 1) zs out = if (out.length : Int) < want then ([], 16) else (out, 0) := by
  unfold run; rw [if_pos h]
theorem run_err (base : List Int) (want : Int) (zs out : List Int) (h : ¬ zs.length = 0) {e : Int} (hs : step base zs = .error e) : run base want (zs.length + 1) zs out = ([], e) := by
  unfold run; rw [if_neg h, hs]
theorem run_big (base : List Int) (want : Int) (zs out : List Int) (h : ¬ zs.length = 0) {p rest : List Int} (hs : step base zs = .ok (p, rest)) (hb : want - (out.length : Int) < (p.length : Int)) : run base want (zs.length + 1) zs out = ([], 16) := by
  unfold run; rw [if_neg h, hs]; simp only []; rw [if_pos hb]
theorem run_on (base : List Int) (want : Int) (zs out : List Int) (h : ¬ zs.length = 0) {p rest : List Int} (hs : step base zs = .ok (p, rest)) (hb : ¬ want - (out.length : Int) < (p.length : Int)) : run base want (zs.length + 1) zs out = run base want (rest.length + 1) rest (out ++ p) := by
  have hr := step_rest hs (by omega)
  rw [show run base want (zs.length + 1) zs out = run base want zs.length rest (out ++ p) from by conv => lhs; unfold run; rw [if_neg h, hs]; simp only []; rw [if_neg hb]]
  exact run_fuel _ _ _ _ _ _ hr (by omega)

def ApRet (B : Nat) (r : List Int × Int) (w : World) (e : Ending) (w' : World) : Prop :=
  ∃ v, e = .returned (.tuple #[v, .int .i64 r.2]) ∧ w'.ownsRow B 5 1 v r.1.length (bv r.1) ∧ Below B w w'

theorem ApRet.nil {B : Nat} {er : Int} {w w' : World} (h : Below B w w') : ApRet B ([], er) w (.returned (.tuple #[.slice none 0 0, .int .i64 er])) w' :=
  ⟨_, rfl, World.ownsRow_nil _ _ _ _, h⟩

theorem StE.grown {w w' : World} {R : Nat} {zs : List Int} {c : Bool} (h : StE w R zs c) {row : Option Nat} (hg : w.grownBy w' row) (hr : ∀ k, row = some k → R < k) : StE w' R zs c := by
  obtain ⟨a, len, cap, h⟩ := h
  have hR : w'.heap[R]? = w.heap[R]? := hg.block R h.lt (by intro e; have := hr R e.symm; omega)
  refine ⟨a, len, cap, ?_, ?_, ?_, ?_, ?_, h.ne⟩
  · rw [World.cell?_of_block (w := w) hR]; exact h.c0
  · rw [World.cell?_of_block (w := w) hR]; exact h.c1
  · rw [World.frozen?_of_block (w := w) hR]; exact h.f0
  · rw [World.frozen?_of_block (w := w) hR]; exact h.f1
  · refine ⟨h.sl.hlen, h.sl.hcap, h.sl.hreach, h.sl.hnone, ?_, h.sl.hbyte, h.sl.hbig⟩
    intro i hi
    obtain ⟨b, off, ha, hc⟩ := h.sl.hcell i hi
    refine ⟨b, off, ha, hg.cell hc ?_⟩
    have := h.ne b off ha (by omega)
    intro e
    have := hr b e.symm
    omega

theorem below_of_grown {B R : Nat} {w w' : World} (h : w.grownBy w' (some R)) (hB : B ≤ w.heap.size) (hR : B ≤ R) : Below B w w' :=
  (Below.refl B w).grown h hB (fun k hk => by cases hk; exact hR)
end Go.Proofs.Ytkelgaanehihbaa.Dt
