/- codec.number: a number's bytes behind a row of the call's own. -/
import Derived.Test.YtmcmapgllaopmaaCdKit
namespace Go.Proofs.Ytmcmapgllaopmaa.Cd
open Go.RowKit
set_option linter.unusedVariables false

theorem info5 : (Try.prog.info? 5).map (fun i => (i.zero, i.size, i.bytes)) = some (some (.int .u8 0), 1, 1) := by kernel_rfl

/-- a number's k bytes, the highest first -/
def be : Nat → Int → List Int
  | 0, _ => []
  | k + 1, x => x / 2 ^ (8 * k) % 256 :: be k x

theorem be_length : ∀ k x, (be k x).length = k
  | 0, _ => rfl
  | k + 1, x => by simp [be, be_length k x]

set_option maxHeartbeats 1000000 in
theorem number_any (B : Nat) (v : Value) (n : Nat) (xs : List Value) (x : Int) (k : Nat) (w : World) (hB : B ≤ w.heap.size) (hown : w.ownsRow B 5 1 v n xs) (hn : n ≤ 140737488300000) (h0 : 0 ≤ x) (h1 : x < 18446744073709551616) (hk : k ≤ 7) :
    Calls Try.prog 51 #[v, .int .u64 x, .int .i64 k] w (OwnRet B (n + k) (xs ++ bv (be k x)) w) := by
  obtain ⟨i0, hi, hz0, hz1, hz2⟩ := info_parts info5
  have HO := Lib.hid hown
  clear hown
  have HB := Lib.hid (Below.refl B w)
  go_enter Try.func51, Try.ntmps51
  go_wp2
  go_loopw [0, 2] (fun b i wr => ∃ (m q : Nat) (ys : List Int), m + q = k ∧ i = .int .i64 ((m : Int) - 1) ∧ Hid (ys ++ be m x = be k x) ∧ Hid (wr.ownsRow B 5 1 b (n + q) (xs ++ bv ys)) ∧ Hid (Below B w wr)) (fun _ i _ => (intOf i + 1).toNat)
  case atStart => exact ⟨k, 0, [], by omega, rfl, Lib.hid rfl, Lib.hid (by simpa [bv] using HO.out), HB⟩
  case round =>
    clear HB HO
    obtain ⟨m, q, ys, hmq, rfl, HY, HO, HB⟩ := hrel
    have hsz := HB.out.size
    have hm8 : m ≤ 7 := by omega
    rcases (show m = 0 ∨ m = 1 ∨ m = 2 ∨ m = 3 ∨ m = 4 ∨ m = 5 ∨ m = 6 ∨ m = 7 from by omega) with rfl | rfl | rfl | rfl | rfl | rfl | rfl | rfl
    · go_wp2
      go_ret
      have hq : q = k := by omega
      subst hq
      refine ⟨_, rfl, own_eq HO.out ?_ rfl, HB.out⟩
      rw [← HY.out]; simp [be]
    · go_wp2_with (at_builtin; refine wpList_append_own _ rfl _ _ 23 rfl B 5 i0 (.int .u8 0) 1 1 Try.underlying23 hi hz0 hz1 hz2 rfl (by decide) _ _ _ rfl (HO.out.alloc _) ⟨wr.heap.size, 0, none⟩ 1 1 (bv [x % 256]) rfl rfl ?c1 (bv_one _) ?c3 ?c4 ?c5 ?_)
      case c1 => exact new_cells [x % 256] wr _
      case c3 => unfold maxLen; omega
      case c4 => omega
      case c5 => simp; omega
      intro v1 w1 ho hg hn2
      have HO1 : Hid (w1.ownsRow B 5 1 v1 (n + (q + 1)) (xs ++ bv (ys ++ [x % 256]))) := Lib.hid (own_eq ho (by simp [bv]) (by omega))
      have HB1 := Lib.hid (HB.out.trans (((Below.refl B wr).alloc (by omega) _).trans (below_grown (by simp; omega) (HO.out.alloc _) hg)))
      have HY1 : Hid ((ys ++ [x % 256]) ++ be 0 x = be k x) := Lib.hid (by rw [← HY.out]; simp [be])
      clear ho hg hn2 HO HB HY
      go_wp2
      go_roundw
      case rel => exact ⟨0, q + 1, _, by omega, rfl, HY1, HO1, HB1⟩
      case measure => simp [intOf]
    · go_wp2_with (at_builtin; refine wpList_append_own _ rfl _ _ 23 rfl B 5 i0 (.int .u8 0) 1 1 Try.underlying23 hi hz0 hz1 hz2 rfl (by decide) _ _ _ rfl (HO.out.alloc _) ⟨wr.heap.size, 0, none⟩ 1 1 (bv [x / 256 % 256]) rfl rfl ?c1 (bv_one _) ?c3 ?c4 ?c5 ?_)
      case c1 => exact new_cells [x / 256 % 256] wr _
      case c3 => unfold maxLen; omega
      case c4 => omega
      case c5 => simp; omega
      intro v1 w1 ho hg hn2
      have HO1 : Hid (w1.ownsRow B 5 1 v1 (n + (q + 1)) (xs ++ bv (ys ++ [x / 256 % 256]))) := Lib.hid (own_eq ho (by simp [bv]) (by omega))
      have HB1 := Lib.hid (HB.out.trans (((Below.refl B wr).alloc (by omega) _).trans (below_grown (by simp; omega) (HO.out.alloc _) hg)))
      have HY1 : Hid ((ys ++ [x / 256 % 256]) ++ be 1 x = be k x) := Lib.hid (by rw [← HY.out]; simp [be])
      clear ho hg hn2 HO HB HY
      go_wp2
      go_roundw
      case rel => exact ⟨1, q + 1, _, by omega, rfl, HY1, HO1, HB1⟩
      case measure => simp [intOf]
    · go_wp2_with (at_builtin; refine wpList_append_own _ rfl _ _ 23 rfl B 5 i0 (.int .u8 0) 1 1 Try.underlying23 hi hz0 hz1 hz2 rfl (by decide) _ _ _ rfl (HO.out.alloc _) ⟨wr.heap.size, 0, none⟩ 1 1 (bv [x / 65536 % 256]) rfl rfl ?c1 (bv_one _) ?c3 ?c4 ?c5 ?_)
      case c1 => exact new_cells [x / 65536 % 256] wr _
      case c3 => unfold maxLen; omega
      case c4 => omega
      case c5 => simp; omega
      intro v1 w1 ho hg hn2
      have HO1 : Hid (w1.ownsRow B 5 1 v1 (n + (q + 1)) (xs ++ bv (ys ++ [x / 65536 % 256]))) := Lib.hid (own_eq ho (by simp [bv]) (by omega))
      have HB1 := Lib.hid (HB.out.trans (((Below.refl B wr).alloc (by omega) _).trans (below_grown (by simp; omega) (HO.out.alloc _) hg)))
      have HY1 : Hid ((ys ++ [x / 65536 % 256]) ++ be 2 x = be k x) := Lib.hid (by rw [← HY.out]; simp [be])
      clear ho hg hn2 HO HB HY
      go_wp2
      go_roundw
      case rel => exact ⟨2, q + 1, _, by omega, rfl, HY1, HO1, HB1⟩
      case measure => simp [intOf]
    · go_wp2_with (at_builtin; refine wpList_append_own _ rfl _ _ 23 rfl B 5 i0 (.int .u8 0) 1 1 Try.underlying23 hi hz0 hz1 hz2 rfl (by decide) _ _ _ rfl (HO.out.alloc _) ⟨wr.heap.size, 0, none⟩ 1 1 (bv [x / 16777216 % 256]) rfl rfl ?c1 (bv_one _) ?c3 ?c4 ?c5 ?_)
      case c1 => exact new_cells [x / 16777216 % 256] wr _
      case c3 => unfold maxLen; omega
      case c4 => omega
      case c5 => simp; omega
      intro v1 w1 ho hg hn2
      have HO1 : Hid (w1.ownsRow B 5 1 v1 (n + (q + 1)) (xs ++ bv (ys ++ [x / 16777216 % 256]))) := Lib.hid (own_eq ho (by simp [bv]) (by omega))
      have HB1 := Lib.hid (HB.out.trans (((Below.refl B wr).alloc (by omega) _).trans (below_grown (by simp; omega) (HO.out.alloc _) hg)))
      have HY1 : Hid ((ys ++ [x / 16777216 % 256]) ++ be 3 x = be k x) := Lib.hid (by rw [← HY.out]; simp [be])
      clear ho hg hn2 HO HB HY
      go_wp2
      go_roundw
      case rel => exact ⟨3, q + 1, _, by omega, rfl, HY1, HO1, HB1⟩
      case measure => simp [intOf]
    · go_wp2_with (at_builtin; refine wpList_append_own _ rfl _ _ 23 rfl B 5 i0 (.int .u8 0) 1 1 Try.underlying23 hi hz0 hz1 hz2 rfl (by decide) _ _ _ rfl (HO.out.alloc _) ⟨wr.heap.size, 0, none⟩ 1 1 (bv [x / 4294967296 % 256]) rfl rfl ?c1 (bv_one _) ?c3 ?c4 ?c5 ?_)
      case c1 => exact new_cells [x / 4294967296 % 256] wr _
      case c3 => unfold maxLen; omega
      case c4 => omega
      case c5 => simp; omega
      intro v1 w1 ho hg hn2
      have HO1 : Hid (w1.ownsRow B 5 1 v1 (n + (q + 1)) (xs ++ bv (ys ++ [x / 4294967296 % 256]))) := Lib.hid (own_eq ho (by simp [bv]) (by omega))
      have HB1 := Lib.hid (HB.out.trans (((Below.refl B wr).alloc (by omega) _).trans (below_grown (by simp; omega) (HO.out.alloc _) hg)))
      have HY1 : Hid ((ys ++ [x / 4294967296 % 256]) ++ be 4 x = be k x) := Lib.hid (by rw [← HY.out]; simp [be])
      clear ho hg hn2 HO HB HY
      go_wp2
      go_roundw
      case rel => exact ⟨4, q + 1, _, by omega, rfl, HY1, HO1, HB1⟩
      case measure => simp [intOf]
    · go_wp2_with (at_builtin; refine wpList_append_own _ rfl _ _ 23 rfl B 5 i0 (.int .u8 0) 1 1 Try.underlying23 hi hz0 hz1 hz2 rfl (by decide) _ _ _ rfl (HO.out.alloc _) ⟨wr.heap.size, 0, none⟩ 1 1 (bv [x / 1099511627776 % 256]) rfl rfl ?c1 (bv_one _) ?c3 ?c4 ?c5 ?_)
      case c1 => exact new_cells [x / 1099511627776 % 256] wr _
      case c3 => unfold maxLen; omega
      case c4 => omega
      case c5 => simp; omega
      intro v1 w1 ho hg hn2
      have HO1 : Hid (w1.ownsRow B 5 1 v1 (n + (q + 1)) (xs ++ bv (ys ++ [x / 1099511627776 % 256]))) := Lib.hid (own_eq ho (by simp [bv]) (by omega))
      have HB1 := Lib.hid (HB.out.trans (((Below.refl B wr).alloc (by omega) _).trans (below_grown (by simp; omega) (HO.out.alloc _) hg)))
      have HY1 : Hid ((ys ++ [x / 1099511627776 % 256]) ++ be 5 x = be k x) := Lib.hid (by rw [← HY.out]; simp [be])
      clear ho hg hn2 HO HB HY
      go_wp2
      go_roundw
      case rel => exact ⟨5, q + 1, _, by omega, rfl, HY1, HO1, HB1⟩
      case measure => simp [intOf]
    · go_wp2_with (at_builtin; refine wpList_append_own _ rfl _ _ 23 rfl B 5 i0 (.int .u8 0) 1 1 Try.underlying23 hi hz0 hz1 hz2 rfl (by decide) _ _ _ rfl (HO.out.alloc _) ⟨wr.heap.size, 0, none⟩ 1 1 (bv [x / 281474976710656 % 256]) rfl rfl ?c1 (bv_one _) ?c3 ?c4 ?c5 ?_)
      case c1 => exact new_cells [x / 281474976710656 % 256] wr _
      case c3 => unfold maxLen; omega
      case c4 => omega
      case c5 => simp; omega
      intro v1 w1 ho hg hn2
      have HO1 : Hid (w1.ownsRow B 5 1 v1 (n + (q + 1)) (xs ++ bv (ys ++ [x / 281474976710656 % 256]))) := Lib.hid (own_eq ho (by simp [bv]) (by omega))
      have HB1 := Lib.hid (HB.out.trans (((Below.refl B wr).alloc (by omega) _).trans (below_grown (by simp; omega) (HO.out.alloc _) hg)))
      have HY1 : Hid ((ys ++ [x / 281474976710656 % 256]) ++ be 6 x = be k x) := Lib.hid (by rw [← HY.out]; simp [be])
      clear ho hg hn2 HO HB HY
      go_wp2
      go_roundw
      case rel => exact ⟨6, q + 1, _, by omega, rfl, HY1, HO1, HB1⟩
      case measure => simp [intOf]
end Go.Proofs.Ytmcmapgllaopmaa.Cd
