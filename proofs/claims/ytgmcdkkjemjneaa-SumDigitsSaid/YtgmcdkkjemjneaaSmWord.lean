/- small, word and putWord. -/
import Derived.Test.YtgmcdkkjemjneaaSmBit
import Derived.RegionTactic
import Derived.BigRegion
import Derived.Deep.RegionLaw
import Derived.Deep.RegionWith
import Derived.Deep.RegionHeld3
namespace Go.Proofs.Ytgmcdkkjemjneaa.Sm
open Go.RowKit
set_option linter.unusedVariables false

set_option maxRecDepth 100000 in
theorem small_any (x : Int) (a b c : Nat) (w : World) (h0 : 0 ≤ x) (h1 : x < 4294967296) (ha : 1 ≤ a ∧ a ≤ 31) (hb : 1 ≤ b ∧ b ≤ 31) (hc : 1 ≤ c ∧ c ≤ 31) :
    Calls Try.prog 34 #[.int .u32 x, .int .i64 a, .int .i64 b, .int .i64 c] w fun e w' => e = .returned (.int .u32 (small x a b c)) ∧ ∃ d, w' = w.drewN d := by
  have na : IntKind.i64.wrap (-(a : Int)) = -(a : Int) := by simp [IntKind.wrap, IntKind.signed, IntKind.bits]; omega
  have nb : IntKind.i64.wrap (-(b : Int)) = -(b : Int) := by simp [IntKind.wrap, IntKind.signed, IntKind.bits]; omega
  have hc2 := hc.2
  have HA := Lib.hid (fun w => rot_any x a w h0 h1 ha.1 ha.2)
  have HC := Lib.hid (fun w => rot_any x b w h0 h1 hb.1 hb.2)
  clear ha hb hc
  go_enter Try.func34, Try.ntmps34
  go_wp2_with fail
  go_region_held3 (fun wS => ∃ d, wS = w.drewN d) (first | exact ⟨1, rfl⟩ | assumption) (first
    | (go_at_call 36; with_reducible refine (HA.out _).mono ?_; rintro e w1 ⟨rfl, rfl⟩)
    | (go_at_call 36; with_reducible refine (HC.out _).mono ?_; rintro e w1 ⟨rfl, rfl⟩))
  all_goals go_wp2
  all_goals go_ret
  all_goals exact ⟨rfl, 1, rfl⟩

/-- four bytes as a word -/
def word4 (p q r s : Int) : Int := bits .or .u32 (bits .or .u32 (bits .or .u32 (p * 16777216) (q * 65536)) (r * 256)) s

set_option maxRecDepth 100000 in
theorem word_any (g o n c : Nat) (p q r s : Int) (w : World) (hn : 4 ≤ n) (hp : w.cell? ⟨g, o, none⟩ = some (.int .u8 p)) (hq : w.cell? ⟨g, o + 1, none⟩ = some (.int .u8 q)) (hr : w.cell? ⟨g, o + 2, none⟩ = some (.int .u8 r)) (hs : w.cell? ⟨g, o + 3, none⟩ = some (.int .u8 s))
    (p0 : 0 ≤ p ∧ p ≤ 255) (q0 : 0 ≤ q ∧ q ≤ 255) (r0 : 0 ≤ r ∧ r ≤ 255) (s0 : 0 ≤ s ∧ s ≤ 255) :
    Calls Try.prog 33 #[.slice (some ⟨g, o, none⟩) n c] w fun e w' => e = .returned (.int .u32 (word4 p q r s)) ∧ ∃ d, w' = w.drewN d := by
  obtain ⟨p0, p1⟩ := p0
  obtain ⟨q0, q1⟩ := q0
  obtain ⟨r0, r1⟩ := r0
  obtain ⟨s0, s1⟩ := s0
  go_enter Try.func33, Try.ntmps33
  go_wp2_with fail
  go_quiet (fail)
  go_wp2
  go_ret
  exact ⟨rfl, _, rfl⟩
end Go.Proofs.Ytgmcdkkjemjneaa.Sm
