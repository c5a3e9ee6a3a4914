/- The small functions of SHA-256. -/
import Derived.Test.YtgmcdkkjemjneaaSmKit
import Derived.Deep.QuietTactic
import Derived.BigQuiet
namespace Go.Proofs.Ytgmcdkkjemjneaa.Sm
open Go.RowKit
set_option linter.unusedVariables false

/-- a word turned right -/
def rot (x : Int) (n : Nat) : Int := bits .or .u32 (x / 2 ^ n) (x * 2 ^ (32 - n) % 4294967296)
def xr (x y : Int) : Int := bits .xor .u32 x y
def big (x : Int) (a b c : Nat) : Int := xr (xr (rot x a) (rot x b)) (rot x c)
def small (x : Int) (a b c : Nat) : Int := xr (xr (rot x a) (rot x b)) (x / 2 ^ c)

theorem below_drewN {B : Nat} {a w : World} (h : Below B a w) (n : Nat) : Below B a (w.drewN n) := ⟨h.os, h.tape, h.output, h.size, h.block⟩

set_option maxRecDepth 100000 in
theorem turn_any (x : Int) (n : Nat) (w : World) (h0 : 0 ≤ x) (h1 : x < 4294967296) (hn : 1 ≤ n) (hn2 : n ≤ 31) :
    Calls Try.prog 22 #[.int .u32 x, .int .i64 n] w fun e w' => e = .returned (.int .u32 (rot x n)) ∧ ∃ d, w' = w.drewN d := by
  go_enter Try.func22, Try.ntmps22
  go_wp2
  go_quiet (fail)
  go_wp2
  go_ret
  exact ⟨rfl, _, rfl⟩

theorem or_comm (x y : Int) : bits .or .u32 x y = bits .or .u32 y x := by
  simp only [bits, BitVec.or_comm]
theorem wrap_range (z : Int) : 0 ≤ IntKind.u32.wrap z ∧ IntKind.u32.wrap z < 4294967296 := by
  have e : IntKind.u32.wrap z = z % 4294967296 := by simp [IntKind.wrap, IntKind.signed, IntKind.bits]
  rw [e]
  omega
theorem bits_range (op : BinOp) (x y : Int) : 0 ≤ bits op .u32 x y ∧ bits op .u32 x y < 4294967296 := wrap_range _
theorem rot_range (x : Int) (n : Nat) : 0 ≤ rot x n ∧ rot x n < 4294967296 := bits_range _ _ _
theorem xr_range (x y : Int) : 0 ≤ xr x y ∧ xr x y < 4294967296 := bits_range _ _ _

theorem and31 (n : Nat) (hn : 1 ≤ n) (hn2 : n ≤ 31) : bits BinOp.and IntKind.u64 (IntKind.u64.wrap (-(n : Int))) 31 = ((32 - n : Nat) : Int) := by
  have h : ∀ n : Fin 32, 1 ≤ n.val → bits BinOp.and IntKind.u64 (IntKind.u64.wrap (-(n.val : Int))) 31 = ((32 - n.val : Nat) : Int) := by decide
  exact h ⟨n, by omega⟩ hn

set_option maxRecDepth 100000 in
theorem rot_any (x : Int) (n : Nat) (w : World) (h0 : 0 ≤ x) (h1 : x < 4294967296) (hn : 1 ≤ n) (hn2 : n ≤ 31) :
    Calls Try.prog 36 #[.int .u32 x, .int .i64 (-(n : Int))] w fun e w' => e = .returned (.int .u32 (rot x n)) ∧ w' = w := by
  have h31 := and31 n hn hn2
  have hm1 : 32 - n ≤ 31 := by omega
  have hm2 : (32 : Int) - ((32 - n : Nat) : Int) = (n : Int) := by omega
  have hr : rot x n = bits .or .u32 (x * 2 ^ (32 - n) % 4294967296) (x / 2 ^ n) := by rw [rot, or_comm]
  rw [hr]
  clear hr
  go_enter Try.func36, Try.ntmps36
  go_wp2
  go_ret
  exact ⟨rfl, rfl⟩

set_option maxRecDepth 100000 in
theorem big_any (x : Int) (a b c : Nat) (w : World) (h0 : 0 ≤ x) (h1 : x < 4294967296) (ha : 1 ≤ a ∧ a ≤ 31) (hb : 1 ≤ b ∧ b ≤ 31) (hc : 1 ≤ c ∧ c ≤ 31) :
    Calls Try.prog 37 #[.int .u32 x, .int .i64 a, .int .i64 b, .int .i64 c] w fun e w' => e = .returned (.int .u32 (big x a b c)) ∧ w' = w := by
  have na : IntKind.i64.wrap (-(a : Int)) = -(a : Int) := by simp [IntKind.wrap, IntKind.signed, IntKind.bits]; omega
  have nb : IntKind.i64.wrap (-(b : Int)) = -(b : Int) := by simp [IntKind.wrap, IntKind.signed, IntKind.bits]; omega
  have nc : IntKind.i64.wrap (-(c : Int)) = -(c : Int) := by simp [IntKind.wrap, IntKind.signed, IntKind.bits]; omega
  go_enter Try.func37, Try.ntmps37
  go_wp2_with fail
  refine (rot_any x a w h0 h1 ha.1 ha.2).mono ?_
  rintro e w1 ⟨rfl, rfl⟩
  go_wp2_with fail
  refine (rot_any x b _ h0 h1 hb.1 hb.2).mono ?_
  rintro e w2 ⟨rfl, rfl⟩
  go_wp2_with fail
  refine (rot_any x c _ h0 h1 hc.1 hc.2).mono ?_
  rintro e w3 ⟨rfl, rfl⟩
  go_wp2
  go_ret
  exact ⟨rfl, rfl⟩

end Go.Proofs.Ytgmcdkkjemjneaa.Sm
