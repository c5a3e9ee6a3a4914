/- The document's Num at four bytes. -/
import Derived.Test.YtkelgaanehihbaaDtMake
namespace Go.Proofs.Ytkelgaanehihbaa.Dt
open Go.RowKit
set_option linter.unusedVariables false

def byteAt (x : Int) (k : Nat) : Int := match k with
  | 0 => x / 16777216 % 256
  | 1 => x / 65536 % 256
  | 2 => x / 256 % 256
  | _ => x % 256

theorem nb_take (x : Int) (k : Nat) (h : k < 4) : (nb x).take (k + 1) = (nb x).take k ++ [byteAt x k] := by
  match k, h with
  | 0, _ => rfl
  | 1, _ => rfl
  | 2, _ => rfl
  | 3, _ => rfl

theorem own_eq {w : World} {B e : Nat} {v : Value} {n m : Nat} {xs ys : List Value} (h : w.ownsRow B e 1 v n xs) (hx : xs = ys) (hn : n = m) : w.ownsRow B e 1 v m ys := by
  rw [← hx, ← hn]; exact h

set_option maxHeartbeats 1000000 in
theorem rnum_any (B : Nat) (v : Value) (n : Nat) (xs : List Value) (x : Int) (w : World) (hB : B ≤ w.heap.size) (hown : w.ownsRow B 5 1 v n xs) (hn : n ≤ 140737488300000) (h0 : 0 ≤ x) (h1 : x ≤ 140737488355328) :
    Calls Try.prog 20 #[v, .int .i64 4, .int .u64 x] w (OwnRet B (n + 4) (xs ++ bv (nb x)) w) := by
  obtain ⟨i0, hi, hz0, hz1, hz2⟩ := info_parts info5
  have HO := Lib.hid hown
  clear hown
  have HB := Lib.hid (Below.refl B w)
  go_enter Try.func20, Try.ntmps20
  go_wp2
  go_loopw [0, 7] (fun b i wr => ∃ k : Nat, k ≤ 4 ∧ i = .int .i64 (3 - (k : Int)) ∧ Hid (wr.ownsRow B 5 1 b (n + k) (xs ++ bv ((nb x).take k))) ∧ Hid (Below B w wr) ∧ Hid (0 < k → b ≠ .slice none 0 0)) (fun _ i _ => (intOf i + 1).toNat)
  case atStart => exact ⟨0, by omega, rfl, Lib.hid (by simpa [bv] using HO.out), HB, Lib.hid (fun h => absurd h (by omega))⟩
  case round =>
    clear HB HO
    obtain ⟨k, hk, rfl, HO, HB, HN⟩ := hrel
    have hsz := HB.out.size
    have hsz2 : B ≤ wr.heap.size := by omega
    rcases (show k = 0 ∨ k = 1 ∨ k = 2 ∨ k = 3 ∨ k = 4 from by omega) with rfl | rfl | rfl | rfl | rfl
    · go_wp2_with (at_builtin; refine wpList_append_own _ rfl _ _ 22 rfl B 5 i0 (.int .u8 0) 1 1 Try.underlying22 hi hz0 hz1 hz2 rfl (by decide) _ _ _ rfl (HO.out.alloc _) ⟨wr.heap.size, 0, none⟩ 1 1 (bv [byteAt x 0]) rfl rfl ?c1 (bv_one _) ?c3 ?c4 ?c5 ?_)
      case c1 => exact new_cells [byteAt x 0] wr _
      case c3 => unfold maxLen; omega
      case c4 => omega
      case c5 => simp; omega
      intro v1 w1 ho hg hn2
      have HO1 : Hid (w1.ownsRow B 5 1 v1 (n + 1) (xs ++ bv ((nb x).take 1))) := Lib.hid (own_eq ho (by simp [bv, nb, byteAt]) (by omega))
      have HB1 := Lib.hid (HB.out.trans (((Below.refl B wr).alloc hsz2 _).trans (below_grown (by simp; omega) (HO.out.alloc _) hg)))
      have HN1 : Hid (0 < 1 → v1 ≠ .slice none 0 0) := Lib.hid (fun _ => by first | exact hn2 | exact fun h => absurd (hn2.1 h).2 (by decide))
      clear ho hg hn2 HO HB HN
      go_wp2
      go_roundw
      case rel => exact ⟨1, by omega, rfl, HO1, HB1, HN1⟩
      case measure => simp [intOf]
    · go_wp2_with (at_builtin; refine wpList_append_own _ rfl _ _ 22 rfl B 5 i0 (.int .u8 0) 1 1 Try.underlying22 hi hz0 hz1 hz2 rfl (by decide) _ _ _ rfl (HO.out.alloc _) ⟨wr.heap.size, 0, none⟩ 1 1 (bv [byteAt x 1]) rfl rfl ?c1 (bv_one _) ?c3 ?c4 ?c5 ?_)
      case c1 => exact new_cells [byteAt x 1] wr _
      case c3 => unfold maxLen; omega
      case c4 => omega
      case c5 => simp; omega
      intro v1 w1 ho hg hn2
      have HO1 : Hid (w1.ownsRow B 5 1 v1 (n + 2) (xs ++ bv ((nb x).take 2))) := Lib.hid (own_eq ho (by simp [bv, nb, byteAt]) (by omega))
      have HB1 := Lib.hid (HB.out.trans (((Below.refl B wr).alloc hsz2 _).trans (below_grown (by simp; omega) (HO.out.alloc _) hg)))
      have HN1 : Hid (0 < 2 → v1 ≠ .slice none 0 0) := Lib.hid (fun _ => by first | exact hn2 | exact fun h => absurd (hn2.1 h).2 (by decide))
      clear ho hg hn2 HO HB HN
      go_wp2
      go_roundw
      case rel => exact ⟨2, by omega, rfl, HO1, HB1, HN1⟩
      case measure => simp [intOf]
    · go_wp2_with (at_builtin; refine wpList_append_own _ rfl _ _ 22 rfl B 5 i0 (.int .u8 0) 1 1 Try.underlying22 hi hz0 hz1 hz2 rfl (by decide) _ _ _ rfl (HO.out.alloc _) ⟨wr.heap.size, 0, none⟩ 1 1 (bv [byteAt x 2]) rfl rfl ?c1 (bv_one _) ?c3 ?c4 ?c5 ?_)
      case c1 => exact new_cells [byteAt x 2] wr _
      case c3 => unfold maxLen; omega
      case c4 => omega
      case c5 => simp; omega
      intro v1 w1 ho hg hn2
      have HO1 : Hid (w1.ownsRow B 5 1 v1 (n + 3) (xs ++ bv ((nb x).take 3))) := Lib.hid (own_eq ho (by simp [bv, nb, byteAt]) (by omega))
      have HB1 := Lib.hid (HB.out.trans (((Below.refl B wr).alloc hsz2 _).trans (below_grown (by simp; omega) (HO.out.alloc _) hg)))
      have HN1 : Hid (0 < 3 → v1 ≠ .slice none 0 0) := Lib.hid (fun _ => by first | exact hn2 | exact fun h => absurd (hn2.1 h).2 (by decide))
      clear ho hg hn2 HO HB HN
      go_wp2
      go_roundw
      case rel => exact ⟨3, by omega, rfl, HO1, HB1, HN1⟩
      case measure => simp [intOf]
    · go_wp2_with (at_builtin; refine wpList_append_own _ rfl _ _ 22 rfl B 5 i0 (.int .u8 0) 1 1 Try.underlying22 hi hz0 hz1 hz2 rfl (by decide) _ _ _ rfl (HO.out.alloc _) ⟨wr.heap.size, 0, none⟩ 1 1 (bv [byteAt x 3]) rfl rfl ?c1 (bv_one _) ?c3 ?c4 ?c5 ?_)
      case c1 => exact new_cells [byteAt x 3] wr _
      case c3 => unfold maxLen; omega
      case c4 => omega
      case c5 => simp; omega
      intro v1 w1 ho hg hn2
      have HO1 : Hid (w1.ownsRow B 5 1 v1 (n + 4) (xs ++ bv ((nb x).take 4))) := Lib.hid (own_eq ho (by simp [bv, nb, byteAt]) (by omega))
      have HB1 := Lib.hid (HB.out.trans (((Below.refl B wr).alloc hsz2 _).trans (below_grown (by simp; omega) (HO.out.alloc _) hg)))
      have HN1 : Hid (0 < 4 → v1 ≠ .slice none 0 0) := Lib.hid (fun _ => by first | exact hn2 | exact fun h => absurd (hn2.1 h).2 (by decide))
      clear ho hg hn2 HO HB HN
      go_wp2
      go_roundw
      case rel => exact ⟨4, by omega, rfl, HO1, HB1, HN1⟩
      case measure => simp [intOf]
    · go_wp2
      go_ret
      exact ⟨_, rfl, HO.out, HN.out (by omega), HB.out⟩
end Go.Proofs.Ytkelgaanehihbaa.Dt
