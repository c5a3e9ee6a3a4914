/- The document's Num at eight bytes. -/
import Derived.Test.YtgmcdkkjemjneaaSmKnown
namespace Go.Proofs.Ytgmcdkkjemjneaa.Sm
open Go.RowKit
set_option linter.unusedVariables false

theorem info5 : (Try.prog.info? 5).map (fun i => (i.zero, i.size, i.bytes)) = some (some (.int .u8 0), 1, 1) := by kernel_rfl

/-- a number's eight bytes -/
def be8 (x : Int) : List Int := [x / 72057594037927936, x / 281474976710656 % 256, x / 1099511627776 % 256, x / 4294967296 % 256, x / 16777216 % 256, x / 65536 % 256, x / 256 % 256, x % 256]
theorem div_div (x : Int) (c : Nat) : x / 4294967296 / (c : Int) = x / ((4294967296 * c : Nat) : Int) := by
  rw [show (((4294967296 * c : Nat) : Int)) = 4294967296 * (c : Int) from by simp]
  first
    | exact Int.ediv_ediv_eq_ediv_mul _ (by decide)
    | exact (Int.ediv_ediv_of_nonneg (by decide))
    | exact Int.ediv_ediv (by decide)
    | simp [Int.ediv_ediv]
theorem be8_wb (x : Int) (h0 : 0 ≤ x) (h1 : x < 18446744073709551616) : be8 x = wb (x / 4294967296) ++ wb (x % 4294967296) := by
  simp only [be8, wb, List.cons_append, List.nil_append, List.cons.injEq, and_true]
  have e1 : x / 4294967296 / 16777216 = x / 72057594037927936 := div_div x 16777216
  have e2 : x / 4294967296 / 65536 = x / 281474976710656 := div_div x 65536
  have e3 : x / 4294967296 / 256 = x / 1099511627776 := div_div x 256
  rw [e1, e2, e3]
  refine ⟨rfl, rfl, rfl, trivial, ?_, ?_, ?_, ?_⟩ <;> omega

set_option maxHeartbeats 1000000 in
theorem rnum_any (B : Nat) (v : Value) (n : Nat) (xs : List Value) (x : Int) (w : World) (hB : B ≤ w.heap.size) (hown : w.ownsRow B 5 1 v n xs) (hn : n ≤ 140737488300000) (h0 : 0 ≤ x) (h1 : x < 18446744073709551616) :
    Calls Try.prog 21 #[v, .int .i64 8, .int .u64 x] w (OwnRet B (n + 8) (xs ++ bv (be8 x)) w) := by
  obtain ⟨i0, hi, hz0, hz1, hz2⟩ := info_parts info5
  have HO := Lib.hid hown
  clear hown
  have HB := Lib.hid (Below.refl B w)
  go_enter Try.func21, Try.ntmps21
  go_wp2
  go_loopw [0, 7] (fun b i wr => ∃ (m q : Nat), m + q = 8 ∧ i = .int .i64 ((m : Int) - 1) ∧ Hid (wr.ownsRow B 5 1 b (n + q) (xs ++ bv ((be8 x).take q))) ∧ Hid (Below B w wr)) (fun _ i _ => (intOf i + 1).toNat)
  case atStart => exact ⟨8, 0, by omega, rfl, Lib.hid (by simpa [bv] using HO.out), HB⟩
  case round =>
    clear HB HO
    obtain ⟨m, q, hmq, rfl, HO, HB⟩ := hrel
    have hsz := HB.out.size
    rcases (show (m = 0 ∧ q = 8) ∨ (m = 1 ∧ q = 7) ∨ (m = 2 ∧ q = 6) ∨ (m = 3 ∧ q = 5) ∨ (m = 4 ∧ q = 4) ∨ (m = 5 ∧ q = 3) ∨ (m = 6 ∧ q = 2) ∨ (m = 7 ∧ q = 1) ∨ (m = 8 ∧ q = 0) from by omega) with ⟨rfl, rfl⟩ | ⟨rfl, rfl⟩ | ⟨rfl, rfl⟩ | ⟨rfl, rfl⟩ | ⟨rfl, rfl⟩ | ⟨rfl, rfl⟩ | ⟨rfl, rfl⟩ | ⟨rfl, rfl⟩ | ⟨rfl, rfl⟩
    · go_wp2
      go_ret
      exact ⟨_, rfl, HO.out, HB.out⟩
    · go_wp2_with (at_builtin; refine wpList_append_own _ rfl _ _ 24 rfl B 5 i0 (.int .u8 0) 1 1 Try.underlying24 hi hz0 hz1 hz2 rfl (by decide) _ _ _ rfl (HO.out.alloc _) ⟨wr.heap.size, 0, none⟩ 1 1 (bv [x % 256]) rfl rfl ?c1 (bv_one _) ?c3 ?c4 ?c5 ?_)
      case c1 => first | exact new_cells [x % 256] wr _ | (intro j u hj; simpa [bv] using hj)
      case c3 => unfold maxLen; omega
      case c4 => omega
      case c5 => first | omega | (simp; omega)
      intro v1 w1 ho hg hn2
      have HO1 : Hid (w1.ownsRow B 5 1 v1 (n + 8) (xs ++ bv ((be8 x).take 8))) := Lib.hid (own_eq ho (by simp [bv, be8]) (by omega))
      have HB1 := Lib.hid (HB.out.trans (((Below.refl B wr).alloc (by omega) _).trans (below_grown (by first | omega | (simp; omega)) (HO.out.alloc _) hg)))
      clear ho hg hn2 HO HB
      go_wp2
      go_roundw
      case rel => exact ⟨0, 8, by omega, rfl, HO1, HB1⟩
      case measure => simp [intOf]
    · go_wp2_with (at_builtin; refine wpList_append_own _ rfl _ _ 24 rfl B 5 i0 (.int .u8 0) 1 1 Try.underlying24 hi hz0 hz1 hz2 rfl (by decide) _ _ _ rfl (HO.out.alloc _) ⟨wr.heap.size, 0, none⟩ 1 1 (bv [x / 256 % 256]) rfl rfl ?c1 (bv_one _) ?c3 ?c4 ?c5 ?_)
      case c1 => first | exact new_cells [x / 256 % 256] wr _ | (intro j u hj; simpa [bv] using hj)
      case c3 => unfold maxLen; omega
      case c4 => omega
      case c5 => first | omega | (simp; omega)
      intro v1 w1 ho hg hn2
      have HO1 : Hid (w1.ownsRow B 5 1 v1 (n + 7) (xs ++ bv ((be8 x).take 7))) := Lib.hid (own_eq ho (by simp [bv, be8]) (by omega))
      have HB1 := Lib.hid (HB.out.trans (((Below.refl B wr).alloc (by omega) _).trans (below_grown (by first | omega | (simp; omega)) (HO.out.alloc _) hg)))
      clear ho hg hn2 HO HB
      go_wp2
      go_roundw
      case rel => exact ⟨1, 7, by omega, rfl, HO1, HB1⟩
      case measure => simp [intOf]
    · go_wp2_with (at_builtin; refine wpList_append_own _ rfl _ _ 24 rfl B 5 i0 (.int .u8 0) 1 1 Try.underlying24 hi hz0 hz1 hz2 rfl (by decide) _ _ _ rfl (HO.out.alloc _) ⟨wr.heap.size, 0, none⟩ 1 1 (bv [x / 65536 % 256]) rfl rfl ?c1 (bv_one _) ?c3 ?c4 ?c5 ?_)
      case c1 => first | exact new_cells [x / 65536 % 256] wr _ | (intro j u hj; simpa [bv] using hj)
      case c3 => unfold maxLen; omega
      case c4 => omega
      case c5 => first | omega | (simp; omega)
      intro v1 w1 ho hg hn2
      have HO1 : Hid (w1.ownsRow B 5 1 v1 (n + 6) (xs ++ bv ((be8 x).take 6))) := Lib.hid (own_eq ho (by simp [bv, be8]) (by omega))
      have HB1 := Lib.hid (HB.out.trans (((Below.refl B wr).alloc (by omega) _).trans (below_grown (by first | omega | (simp; omega)) (HO.out.alloc _) hg)))
      clear ho hg hn2 HO HB
      go_wp2
      go_roundw
      case rel => exact ⟨2, 6, by omega, rfl, HO1, HB1⟩
      case measure => simp [intOf]
    · go_wp2_with (at_builtin; refine wpList_append_own _ rfl _ _ 24 rfl B 5 i0 (.int .u8 0) 1 1 Try.underlying24 hi hz0 hz1 hz2 rfl (by decide) _ _ _ rfl (HO.out.alloc _) ⟨wr.heap.size, 0, none⟩ 1 1 (bv [x / 16777216 % 256]) rfl rfl ?c1 (bv_one _) ?c3 ?c4 ?c5 ?_)
      case c1 => first | exact new_cells [x / 16777216 % 256] wr _ | (intro j u hj; simpa [bv] using hj)
      case c3 => unfold maxLen; omega
      case c4 => omega
      case c5 => first | omega | (simp; omega)
      intro v1 w1 ho hg hn2
      have HO1 : Hid (w1.ownsRow B 5 1 v1 (n + 5) (xs ++ bv ((be8 x).take 5))) := Lib.hid (own_eq ho (by simp [bv, be8]) (by omega))
      have HB1 := Lib.hid (HB.out.trans (((Below.refl B wr).alloc (by omega) _).trans (below_grown (by first | omega | (simp; omega)) (HO.out.alloc _) hg)))
      clear ho hg hn2 HO HB
      go_wp2
      go_roundw
      case rel => exact ⟨3, 5, by omega, rfl, HO1, HB1⟩
      case measure => simp [intOf]
    · go_wp2_with (at_builtin; refine wpList_append_own _ rfl _ _ 24 rfl B 5 i0 (.int .u8 0) 1 1 Try.underlying24 hi hz0 hz1 hz2 rfl (by decide) _ _ _ rfl (HO.out.alloc _) ⟨wr.heap.size, 0, none⟩ 1 1 (bv [x / 4294967296 % 256]) rfl rfl ?c1 (bv_one _) ?c3 ?c4 ?c5 ?_)
      case c1 => first | exact new_cells [x / 4294967296 % 256] wr _ | (intro j u hj; simpa [bv] using hj)
      case c3 => unfold maxLen; omega
      case c4 => omega
      case c5 => first | omega | (simp; omega)
      intro v1 w1 ho hg hn2
      have HO1 : Hid (w1.ownsRow B 5 1 v1 (n + 4) (xs ++ bv ((be8 x).take 4))) := Lib.hid (own_eq ho (by simp [bv, be8]) (by omega))
      have HB1 := Lib.hid (HB.out.trans (((Below.refl B wr).alloc (by omega) _).trans (below_grown (by first | omega | (simp; omega)) (HO.out.alloc _) hg)))
      clear ho hg hn2 HO HB
      go_wp2
      go_roundw
      case rel => exact ⟨4, 4, by omega, rfl, HO1, HB1⟩
      case measure => simp [intOf]
    · go_wp2_with (at_builtin; refine wpList_append_own _ rfl _ _ 24 rfl B 5 i0 (.int .u8 0) 1 1 Try.underlying24 hi hz0 hz1 hz2 rfl (by decide) _ _ _ rfl (HO.out.alloc _) ⟨wr.heap.size, 0, none⟩ 1 1 (bv [x / 1099511627776 % 256]) rfl rfl ?c1 (bv_one _) ?c3 ?c4 ?c5 ?_)
      case c1 => first | exact new_cells [x / 1099511627776 % 256] wr _ | (intro j u hj; simpa [bv] using hj)
      case c3 => unfold maxLen; omega
      case c4 => omega
      case c5 => first | omega | (simp; omega)
      intro v1 w1 ho hg hn2
      have HO1 : Hid (w1.ownsRow B 5 1 v1 (n + 3) (xs ++ bv ((be8 x).take 3))) := Lib.hid (own_eq ho (by simp [bv, be8]) (by omega))
      have HB1 := Lib.hid (HB.out.trans (((Below.refl B wr).alloc (by omega) _).trans (below_grown (by first | omega | (simp; omega)) (HO.out.alloc _) hg)))
      clear ho hg hn2 HO HB
      go_wp2
      go_roundw
      case rel => exact ⟨5, 3, by omega, rfl, HO1, HB1⟩
      case measure => simp [intOf]
    · go_wp2_with (at_builtin; refine wpList_append_own _ rfl _ _ 24 rfl B 5 i0 (.int .u8 0) 1 1 Try.underlying24 hi hz0 hz1 hz2 rfl (by decide) _ _ _ rfl (HO.out.alloc _) ⟨wr.heap.size, 0, none⟩ 1 1 (bv [x / 281474976710656 % 256]) rfl rfl ?c1 (bv_one _) ?c3 ?c4 ?c5 ?_)
      case c1 => first | exact new_cells [x / 281474976710656 % 256] wr _ | (intro j u hj; simpa [bv] using hj)
      case c3 => unfold maxLen; omega
      case c4 => omega
      case c5 => first | omega | (simp; omega)
      intro v1 w1 ho hg hn2
      have HO1 : Hid (w1.ownsRow B 5 1 v1 (n + 2) (xs ++ bv ((be8 x).take 2))) := Lib.hid (own_eq ho (by simp [bv, be8]) (by omega))
      have HB1 := Lib.hid (HB.out.trans (((Below.refl B wr).alloc (by omega) _).trans (below_grown (by first | omega | (simp; omega)) (HO.out.alloc _) hg)))
      clear ho hg hn2 HO HB
      go_wp2
      go_roundw
      case rel => exact ⟨6, 2, by omega, rfl, HO1, HB1⟩
      case measure => simp [intOf]
    · go_wp2_with (at_builtin; refine wpList_append_own _ rfl _ _ 24 rfl B 5 i0 (.int .u8 0) 1 1 Try.underlying24 hi hz0 hz1 hz2 rfl (by decide) _ _ _ rfl (HO.out.alloc _) ⟨wr.heap.size, 0, none⟩ 1 1 (bv [x / 72057594037927936]) rfl rfl ?c1 (bv_one _) ?c3 ?c4 ?c5 ?_)
      case c1 => first | exact new_cells [x / 72057594037927936] wr _ | (intro j u hj; simpa [bv] using hj)
      case c3 => unfold maxLen; omega
      case c4 => omega
      case c5 => first | omega | (simp; omega)
      intro v1 w1 ho hg hn2
      have HO1 : Hid (w1.ownsRow B 5 1 v1 (n + 1) (xs ++ bv ((be8 x).take 1))) := Lib.hid (own_eq ho (by simp [bv, be8]) (by omega))
      have HB1 := Lib.hid (HB.out.trans (((Below.refl B wr).alloc (by omega) _).trans (below_grown (by first | omega | (simp; omega)) (HO.out.alloc _) hg)))
      clear ho hg hn2 HO HB
      go_wp2
      go_roundw
      case rel => exact ⟨7, 1, by omega, rfl, HO1, HB1⟩
      case measure => simp [intOf]
end Go.Proofs.Ytgmcdkkjemjneaa.Sm
