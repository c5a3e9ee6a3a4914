/- The document's Num. -/
import Derived.Test.YtmcmapgllaopmaaCdRPc
namespace Go.Proofs.Ytmcmapgllaopmaa.Cd
open Go.RowKit
set_option linter.unusedVariables false

set_option maxHeartbeats 1000000 in
theorem rnum_k (B : Nat) (v : Value) (n : Nat) (xs : List Value) (x : Int) (k : Nat) (w : World) (hB : B ≤ w.heap.size) (hown : w.ownsRow B 5 1 v n xs) (hn : n ≤ 140737488300000) (h0 : 0 ≤ x) (h1 : x < 18446744073709551616) (hk : k ≤ 8) :
    Calls Try.prog 53 #[v, .int .i64 k, .int .u64 x] w (OwnRetK B (n + k) (xs ++ bv (be k x)) w) := by
  obtain ⟨i0, hi, hz0, hz1, hz2⟩ := info_parts info5
  have HO := Lib.hid hown
  clear hown
  have HB := Lib.hid (Below.refl B w)
  have HK := Lib.hid (KeptT.refl w)
  go_enter Try.func53, Try.ntmps53
  go_wp2
  go_loopw [0, 7] (fun b i wr => ∃ (m q : Nat) (ys : List Int), m + q = k ∧ i = .int .i64 ((m : Int) - 1) ∧ Hid (ys ++ be m x = be k x) ∧ Hid (wr.ownsRow B 5 1 b (n + q) (xs ++ bv ys)) ∧ Hid (Below B w wr) ∧ Hid (KeptT w wr)) (fun _ i _ => (intOf i + 1).toNat)
  case atStart => exact ⟨k, 0, [], by omega, rfl, Lib.hid rfl, Lib.hid (by simpa [bv] using HO.out), HB, HK⟩
  case round =>
    clear HB HO HK
    obtain ⟨m, q, ys, hmq, rfl, HY, HO, HB, HK⟩ := hrel
    have hsz := HB.out.size
    have hkw : w.heap.size ≤ wr.heap.size := HB.out.size
    have hm8 : m ≤ 8 := by omega
    have h56 : x / 72057594037927936 % 256 = x / 72057594037927936 := by omega
    rcases (show m = 0 ∨ m = 1 ∨ m = 2 ∨ m = 3 ∨ m = 4 ∨ m = 5 ∨ m = 6 ∨ m = 7 ∨ m = 8 from by omega) with rfl | rfl | rfl | rfl | rfl | rfl | rfl | rfl | rfl
    · go_wp2
      go_ret
      have hq : q = k := by omega
      subst hq
      refine ⟨_, rfl, own_eq HO.out ?_ rfl, HB.out, HK.out⟩
      rw [← HY.out]; simp [be]
    · go_wp2_with (at_builtin; refine wpList_append_own _ rfl _ _ 23 rfl B 5 i0 (.int .u8 0) 1 1 Try.underlying23 hi hz0 hz1 hz2 rfl (by decide) _ _ _ rfl (HO.out.alloc _) ⟨wr.heap.size, 0, none⟩ 1 1 (bv [x % 256]) rfl rfl ?c1 (bv_one _) ?c3 ?c4 ?c5 ?_)
      case c1 => exact new_cells [x % 256] wr _
      case c3 => unfold maxLen; omega
      case c4 => omega
      case c5 => simp; omega
      intro v1 w1 ho hg hn2
      have HO1 : Hid (w1.ownsRow B 5 1 v1 (n + (q + 1)) (xs ++ bv (ys ++ [x % 256]))) := Lib.hid (own_eq ho (by simp [bv]) (by omega))
      have HB1 := Lib.hid (HB.out.trans (((Below.refl B wr).alloc (by omega) _).trans (below_grown (by simp; omega) (HO.out.alloc _) hg)))
      have HK1 := Lib.hid (KeptT.trans hkw HK.out (KeptT.trans (al_le wr _) (KeptT.alloc wr _) (KeptT.own (HO.out.alloc _) hg)))
      have HY1 : Hid ((ys ++ [x % 256]) ++ be 0 x = be k x) := Lib.hid (by rw [← HY.out]; simp [be])
      clear ho hg hn2 HO HB HY HK
      go_wp2
      go_roundw
      case rel => exact ⟨0, q + 1, _, by omega, rfl, HY1, HO1, HB1, HK1⟩
      case measure => simp [intOf]
    · go_wp2_with (at_builtin; refine wpList_append_own _ rfl _ _ 23 rfl B 5 i0 (.int .u8 0) 1 1 Try.underlying23 hi hz0 hz1 hz2 rfl (by decide) _ _ _ rfl (HO.out.alloc _) ⟨wr.heap.size, 0, none⟩ 1 1 (bv [x / 256 % 256]) rfl rfl ?c1 (bv_one _) ?c3 ?c4 ?c5 ?_)
      case c1 => exact new_cells [x / 256 % 256] wr _
      case c3 => unfold maxLen; omega
      case c4 => omega
      case c5 => simp; omega
      intro v1 w1 ho hg hn2
      have HO1 : Hid (w1.ownsRow B 5 1 v1 (n + (q + 1)) (xs ++ bv (ys ++ [x / 256 % 256]))) := Lib.hid (own_eq ho (by simp [bv]) (by omega))
      have HB1 := Lib.hid (HB.out.trans (((Below.refl B wr).alloc (by omega) _).trans (below_grown (by simp; omega) (HO.out.alloc _) hg)))
      have HK1 := Lib.hid (KeptT.trans hkw HK.out (KeptT.trans (al_le wr _) (KeptT.alloc wr _) (KeptT.own (HO.out.alloc _) hg)))
      have HY1 : Hid ((ys ++ [x / 256 % 256]) ++ be 1 x = be k x) := Lib.hid (by rw [← HY.out]; simp [be])
      clear ho hg hn2 HO HB HY HK
      go_wp2
      go_roundw
      case rel => exact ⟨1, q + 1, _, by omega, rfl, HY1, HO1, HB1, HK1⟩
      case measure => simp [intOf]
    · go_wp2_with (at_builtin; refine wpList_append_own _ rfl _ _ 23 rfl B 5 i0 (.int .u8 0) 1 1 Try.underlying23 hi hz0 hz1 hz2 rfl (by decide) _ _ _ rfl (HO.out.alloc _) ⟨wr.heap.size, 0, none⟩ 1 1 (bv [x / 65536 % 256]) rfl rfl ?c1 (bv_one _) ?c3 ?c4 ?c5 ?_)
      case c1 => exact new_cells [x / 65536 % 256] wr _
      case c3 => unfold maxLen; omega
      case c4 => omega
      case c5 => simp; omega
      intro v1 w1 ho hg hn2
      have HO1 : Hid (w1.ownsRow B 5 1 v1 (n + (q + 1)) (xs ++ bv (ys ++ [x / 65536 % 256]))) := Lib.hid (own_eq ho (by simp [bv]) (by omega))
      have HB1 := Lib.hid (HB.out.trans (((Below.refl B wr).alloc (by omega) _).trans (below_grown (by simp; omega) (HO.out.alloc _) hg)))
      have HK1 := Lib.hid (KeptT.trans hkw HK.out (KeptT.trans (al_le wr _) (KeptT.alloc wr _) (KeptT.own (HO.out.alloc _) hg)))
      have HY1 : Hid ((ys ++ [x / 65536 % 256]) ++ be 2 x = be k x) := Lib.hid (by rw [← HY.out]; simp [be])
      clear ho hg hn2 HO HB HY HK
      go_wp2
      go_roundw
      case rel => exact ⟨2, q + 1, _, by omega, rfl, HY1, HO1, HB1, HK1⟩
      case measure => simp [intOf]
    · go_wp2_with (at_builtin; refine wpList_append_own _ rfl _ _ 23 rfl B 5 i0 (.int .u8 0) 1 1 Try.underlying23 hi hz0 hz1 hz2 rfl (by decide) _ _ _ rfl (HO.out.alloc _) ⟨wr.heap.size, 0, none⟩ 1 1 (bv [x / 16777216 % 256]) rfl rfl ?c1 (bv_one _) ?c3 ?c4 ?c5 ?_)
      case c1 => exact new_cells [x / 16777216 % 256] wr _
      case c3 => unfold maxLen; omega
      case c4 => omega
      case c5 => simp; omega
      intro v1 w1 ho hg hn2
      have HO1 : Hid (w1.ownsRow B 5 1 v1 (n + (q + 1)) (xs ++ bv (ys ++ [x / 16777216 % 256]))) := Lib.hid (own_eq ho (by simp [bv]) (by omega))
      have HB1 := Lib.hid (HB.out.trans (((Below.refl B wr).alloc (by omega) _).trans (below_grown (by simp; omega) (HO.out.alloc _) hg)))
      have HK1 := Lib.hid (KeptT.trans hkw HK.out (KeptT.trans (al_le wr _) (KeptT.alloc wr _) (KeptT.own (HO.out.alloc _) hg)))
      have HY1 : Hid ((ys ++ [x / 16777216 % 256]) ++ be 3 x = be k x) := Lib.hid (by rw [← HY.out]; simp [be])
      clear ho hg hn2 HO HB HY HK
      go_wp2
      go_roundw
      case rel => exact ⟨3, q + 1, _, by omega, rfl, HY1, HO1, HB1, HK1⟩
      case measure => simp [intOf]
    · go_wp2_with (at_builtin; refine wpList_append_own _ rfl _ _ 23 rfl B 5 i0 (.int .u8 0) 1 1 Try.underlying23 hi hz0 hz1 hz2 rfl (by decide) _ _ _ rfl (HO.out.alloc _) ⟨wr.heap.size, 0, none⟩ 1 1 (bv [x / 4294967296 % 256]) rfl rfl ?c1 (bv_one _) ?c3 ?c4 ?c5 ?_)
      case c1 => exact new_cells [x / 4294967296 % 256] wr _
      case c3 => unfold maxLen; omega
      case c4 => omega
      case c5 => simp; omega
      intro v1 w1 ho hg hn2
      have HO1 : Hid (w1.ownsRow B 5 1 v1 (n + (q + 1)) (xs ++ bv (ys ++ [x / 4294967296 % 256]))) := Lib.hid (own_eq ho (by simp [bv]) (by omega))
      have HB1 := Lib.hid (HB.out.trans (((Below.refl B wr).alloc (by omega) _).trans (below_grown (by simp; omega) (HO.out.alloc _) hg)))
      have HK1 := Lib.hid (KeptT.trans hkw HK.out (KeptT.trans (al_le wr _) (KeptT.alloc wr _) (KeptT.own (HO.out.alloc _) hg)))
      have HY1 : Hid ((ys ++ [x / 4294967296 % 256]) ++ be 4 x = be k x) := Lib.hid (by rw [← HY.out]; simp [be])
      clear ho hg hn2 HO HB HY HK
      go_wp2
      go_roundw
      case rel => exact ⟨4, q + 1, _, by omega, rfl, HY1, HO1, HB1, HK1⟩
      case measure => simp [intOf]
    · go_wp2_with (at_builtin; refine wpList_append_own _ rfl _ _ 23 rfl B 5 i0 (.int .u8 0) 1 1 Try.underlying23 hi hz0 hz1 hz2 rfl (by decide) _ _ _ rfl (HO.out.alloc _) ⟨wr.heap.size, 0, none⟩ 1 1 (bv [x / 1099511627776 % 256]) rfl rfl ?c1 (bv_one _) ?c3 ?c4 ?c5 ?_)
      case c1 => exact new_cells [x / 1099511627776 % 256] wr _
      case c3 => unfold maxLen; omega
      case c4 => omega
      case c5 => simp; omega
      intro v1 w1 ho hg hn2
      have HO1 : Hid (w1.ownsRow B 5 1 v1 (n + (q + 1)) (xs ++ bv (ys ++ [x / 1099511627776 % 256]))) := Lib.hid (own_eq ho (by simp [bv]) (by omega))
      have HB1 := Lib.hid (HB.out.trans (((Below.refl B wr).alloc (by omega) _).trans (below_grown (by simp; omega) (HO.out.alloc _) hg)))
      have HK1 := Lib.hid (KeptT.trans hkw HK.out (KeptT.trans (al_le wr _) (KeptT.alloc wr _) (KeptT.own (HO.out.alloc _) hg)))
      have HY1 : Hid ((ys ++ [x / 1099511627776 % 256]) ++ be 5 x = be k x) := Lib.hid (by rw [← HY.out]; simp [be])
      clear ho hg hn2 HO HB HY HK
      go_wp2
      go_roundw
      case rel => exact ⟨5, q + 1, _, by omega, rfl, HY1, HO1, HB1, HK1⟩
      case measure => simp [intOf]
    · go_wp2_with (at_builtin; refine wpList_append_own _ rfl _ _ 23 rfl B 5 i0 (.int .u8 0) 1 1 Try.underlying23 hi hz0 hz1 hz2 rfl (by decide) _ _ _ rfl (HO.out.alloc _) ⟨wr.heap.size, 0, none⟩ 1 1 (bv [x / 281474976710656 % 256]) rfl rfl ?c1 (bv_one _) ?c3 ?c4 ?c5 ?_)
      case c1 => exact new_cells [x / 281474976710656 % 256] wr _
      case c3 => unfold maxLen; omega
      case c4 => omega
      case c5 => simp; omega
      intro v1 w1 ho hg hn2
      have HO1 : Hid (w1.ownsRow B 5 1 v1 (n + (q + 1)) (xs ++ bv (ys ++ [x / 281474976710656 % 256]))) := Lib.hid (own_eq ho (by simp [bv]) (by omega))
      have HB1 := Lib.hid (HB.out.trans (((Below.refl B wr).alloc (by omega) _).trans (below_grown (by simp; omega) (HO.out.alloc _) hg)))
      have HK1 := Lib.hid (KeptT.trans hkw HK.out (KeptT.trans (al_le wr _) (KeptT.alloc wr _) (KeptT.own (HO.out.alloc _) hg)))
      have HY1 : Hid ((ys ++ [x / 281474976710656 % 256]) ++ be 6 x = be k x) := Lib.hid (by rw [← HY.out]; simp [be])
      clear ho hg hn2 HO HB HY HK
      go_wp2
      go_roundw
      case rel => exact ⟨6, q + 1, _, by omega, rfl, HY1, HO1, HB1, HK1⟩
      case measure => simp [intOf]
    · go_wp2_with (at_builtin; refine wpList_append_own _ rfl _ _ 23 rfl B 5 i0 (.int .u8 0) 1 1 Try.underlying23 hi hz0 hz1 hz2 rfl (by decide) _ _ _ rfl (HO.out.alloc _) ⟨wr.heap.size, 0, none⟩ 1 1 (bv [x / 72057594037927936]) rfl rfl ?c1 (bv_one _) ?c3 ?c4 ?c5 ?_)
      case c1 => exact new_cells [x / 72057594037927936] wr _
      case c3 => unfold maxLen; omega
      case c4 => omega
      case c5 => simp; omega
      intro v1 w1 ho hg hn2
      have HO1 : Hid (w1.ownsRow B 5 1 v1 (n + (q + 1)) (xs ++ bv (ys ++ [x / 72057594037927936]))) := Lib.hid (own_eq ho (by simp [bv]) (by omega))
      have HB1 := Lib.hid (HB.out.trans (((Below.refl B wr).alloc (by omega) _).trans (below_grown (by simp; omega) (HO.out.alloc _) hg)))
      have HK1 := Lib.hid (KeptT.trans hkw HK.out (KeptT.trans (al_le wr _) (KeptT.alloc wr _) (KeptT.own (HO.out.alloc _) hg)))
      have HY1 : Hid ((ys ++ [x / 72057594037927936]) ++ be 7 x = be k x) := Lib.hid (by rw [← HY.out]; simp [be, h56])
      clear ho hg hn2 HO HB HY HK
      go_wp2
      go_roundw
      case rel => exact ⟨7, q + 1, _, by omega, rfl, HY1, HO1, HB1, HK1⟩
      case measure => simp [intOf]
end Go.Proofs.Ytmcmapgllaopmaa.Cd
