/- Texts of one's own, merged: CdKeep, CdApk, CdTx0, CdTxR, CdTxP, CdTxW, CdTxX. -/
import Derived.Test.YtmcmapgllaopmaaMa

section
namespace Go.Proofs.Ytmcmapgllaopmaa.Cd
open Go.RowKit
set_option linter.unusedVariables false
/-- blocks that are no rows of bytes are as they were -/
def KeptT (w w' : World) : Prop := ∀ k, k < w.heap.size → (∀ c fr, w.heap[k]? ≠ some (.cells c 5 fr)) → w'.heap[k]? = w.heap[k]?
theorem KeptT.refl (w : World) : KeptT w w := fun _ _ _ => rfl
theorem KeptT.trans {a b c : World} (hs : a.heap.size ≤ b.heap.size) (h : KeptT a b) (k : KeptT b c) : KeptT a c := fun i hi hne => by
  have h1 := h i hi hne
  rw [← h1]
  exact k i (Nat.lt_of_lt_of_le hi hs) (fun cs fr => by rw [h1]; exact hne cs fr)
theorem KeptT.of_below {w w' : World} (hb : Below w.heap.size w w') : KeptT w w' := fun i hi _ => hb.block i hi
theorem KeptT.alloc (w : World) (o : Obj) : KeptT w (w.alloc o) := KeptT.of_below ((Below.refl w.heap.size w).alloc (Nat.le_refl _) o)
theorem KeptT.own {w w' : World} {B : Nat} {v : Value} {n : Nat} {xs : List Value} (h : w.ownsRow B 5 1 v n xs) (hg : w.grownBy w' v.ownBlock) : KeptT w w' := fun i hi hne => by
  refine hg.block i hi (fun e => ?_)
  rcases h.2 with ⟨hv, _⟩ | ⟨g, cap, cur, hv, hb, hh, _⟩
  · rw [hv] at e; simp [Value.ownBlock] at e
  · rw [hv] at e
    simp only [Value.ownBlock, Option.some.injEq] at e
    subst e
    exact hne _ _ hh
/-- a row of another type -/
theorem KeptT.row {w w' : World} {X n : Nat} {t : TypeId} {f : Nat → Value} (h : KeptT w w') (hr : w.rowIs X t n f) (ht : t ≠ 5) : w'.rowIs X t n f :=
  hr.of_block (h X hr.lt (fun c fr e => by
    obtain ⟨c2, hb, _⟩ := hr
    rw [hb] at e
    simp only [Option.some.injEq, Obj.cells.injEq] at e
    exact ht e.2.1))
/-- the call hands back a row of its own that holds xs; nothing below B turned, nothing but rows of bytes -/
def OwnRetK (B n : Nat) (xs : List Value) (w : World) (e : Ending) (w' : World) : Prop :=
  ∃ v', e = .returned v' ∧ w'.ownsRow B 5 1 v' n xs ∧ Below B w w' ∧ KeptT w w'
set_option maxHeartbeats 1000000 in
theorem number_k (B : Nat) (v : Value) (n : Nat) (xs : List Value) (x : Int) (k : Nat) (w : World) (hB : B ≤ w.heap.size) (hown : w.ownsRow B 5 1 v n xs) (hn : n ≤ 140737488300000) (h0 : 0 ≤ x) (h1 : x < 18446744073709551616) (hk : k ≤ 8) :
    Calls Try.prog 51 #[v, .int .u64 x, .int .i64 k] w (OwnRetK B (n + k) (xs ++ bv (be k x)) w) := by
  obtain ⟨i0, hi, hz0, hz1, hz2⟩ := info_parts info5
  have HO := Lib.hid hown
  clear hown
  have HB := Lib.hid (Below.refl B w)
  have HK := Lib.hid (KeptT.refl w)
  go_enter Try.func51, Try.ntmps51
  go_wp2
  go_loopw [0, 2] (fun b i wr => ∃ (m q : Nat) (ys : List Int), m + q = k ∧ i = .int .i64 ((m : Int) - 1) ∧ Hid (ys ++ be m x = be k x) ∧ Hid (wr.ownsRow B 5 1 b (n + q) (xs ++ bv ys)) ∧ Hid (Below B w wr) ∧ Hid (KeptT w wr)) (fun _ i _ => (intOf i + 1).toNat)
  case atStart => exact ⟨k, 0, [], by omega, rfl, Lib.hid rfl, Lib.hid (by simpa [bv] using HO.out), HB, HK⟩
  case round =>
    clear HB HO HK
    obtain ⟨m, q, ys, hmq, rfl, HY, HO, HB, HK⟩ := hrel
    have hsz := HB.out.size
    have hkw : w.heap.size ≤ wr.heap.size := HB.out.size
    have hm8 : m ≤ 8 := by omega
    have h56 : x / 72057594037927936 % 256 = x / 72057594037927936 := by omega
    rcases (show m = 0 ∨ m = 1 ∨ m = 2 ∨ m = 3 ∨ m = 4 ∨ m = 5 ∨ m = 6 ∨ m = 7 ∨ m = 8 from by omega) with rfl | rfl | rfl | rfl | rfl | rfl | rfl | rfl | rfl
    · go_wp2
      go_ret
      have hq : q = k := by omega
      subst hq
      refine ⟨_, rfl, own_eq HO.out ?_ rfl, HB.out, HK.out⟩
      rw [← HY.out]; simp [be]
    · go_wp2_with (at_builtin; refine wpList_append_own _ rfl _ _ 23 rfl B 5 i0 (.int .u8 0) 1 1 Try.underlying23 hi hz0 hz1 hz2 rfl (by decide) _ _ _ rfl (HO.out.alloc _) ⟨wr.heap.size, 0, none⟩ 1 1 (bv [x % 256]) rfl rfl ?c1 (bv_one _) ?c3 ?c4 ?c5 ?_)
      case c1 => exact new_cells [x % 256] wr _
      case c3 => unfold maxLen; omega
      case c4 => omega
      case c5 => simp; omega
      intro v1 w1 ho hg hn2
      have HO1 : Hid (w1.ownsRow B 5 1 v1 (n + (q + 1)) (xs ++ bv (ys ++ [x % 256]))) := Lib.hid (own_eq ho (by simp [bv]) (by omega))
      have HB1 := Lib.hid (HB.out.trans (((Below.refl B wr).alloc (by omega) _).trans (below_grown (by simp; omega) (HO.out.alloc _) hg)))
      have HK1 := Lib.hid (KeptT.trans hkw HK.out (KeptT.trans (al_le wr _) (KeptT.alloc wr _) (KeptT.own (HO.out.alloc _) hg)))
      have HY1 : Hid ((ys ++ [x % 256]) ++ be 0 x = be k x) := Lib.hid (by rw [← HY.out]; simp [be])
      clear ho hg hn2 HO HB HY HK
      go_wp2
      go_roundw
      case rel => exact ⟨0, q + 1, _, by omega, rfl, HY1, HO1, HB1, HK1⟩
      case measure => simp [intOf]
    · go_wp2_with (at_builtin; refine wpList_append_own _ rfl _ _ 23 rfl B 5 i0 (.int .u8 0) 1 1 Try.underlying23 hi hz0 hz1 hz2 rfl (by decide) _ _ _ rfl (HO.out.alloc _) ⟨wr.heap.size, 0, none⟩ 1 1 (bv [x / 256 % 256]) rfl rfl ?c1 (bv_one _) ?c3 ?c4 ?c5 ?_)
      case c1 => exact new_cells [x / 256 % 256] wr _
      case c3 => unfold maxLen; omega
      case c4 => omega
      case c5 => simp; omega
      intro v1 w1 ho hg hn2
      have HO1 : Hid (w1.ownsRow B 5 1 v1 (n + (q + 1)) (xs ++ bv (ys ++ [x / 256 % 256]))) := Lib.hid (own_eq ho (by simp [bv]) (by omega))
      have HB1 := Lib.hid (HB.out.trans (((Below.refl B wr).alloc (by omega) _).trans (below_grown (by simp; omega) (HO.out.alloc _) hg)))
      have HK1 := Lib.hid (KeptT.trans hkw HK.out (KeptT.trans (al_le wr _) (KeptT.alloc wr _) (KeptT.own (HO.out.alloc _) hg)))
      have HY1 : Hid ((ys ++ [x / 256 % 256]) ++ be 1 x = be k x) := Lib.hid (by rw [← HY.out]; simp [be])
      clear ho hg hn2 HO HB HY HK
      go_wp2
      go_roundw
      case rel => exact ⟨1, q + 1, _, by omega, rfl, HY1, HO1, HB1, HK1⟩
      case measure => simp [intOf]
    · go_wp2_with (at_builtin; refine wpList_append_own _ rfl _ _ 23 rfl B 5 i0 (.int .u8 0) 1 1 Try.underlying23 hi hz0 hz1 hz2 rfl (by decide) _ _ _ rfl (HO.out.alloc _) ⟨wr.heap.size, 0, none⟩ 1 1 (bv [x / 65536 % 256]) rfl rfl ?c1 (bv_one _) ?c3 ?c4 ?c5 ?_)
      case c1 => exact new_cells [x / 65536 % 256] wr _
      case c3 => unfold maxLen; omega
      case c4 => omega
      case c5 => simp; omega
      intro v1 w1 ho hg hn2
      have HO1 : Hid (w1.ownsRow B 5 1 v1 (n + (q + 1)) (xs ++ bv (ys ++ [x / 65536 % 256]))) := Lib.hid (own_eq ho (by simp [bv]) (by omega))
      have HB1 := Lib.hid (HB.out.trans (((Below.refl B wr).alloc (by omega) _).trans (below_grown (by simp; omega) (HO.out.alloc _) hg)))
      have HK1 := Lib.hid (KeptT.trans hkw HK.out (KeptT.trans (al_le wr _) (KeptT.alloc wr _) (KeptT.own (HO.out.alloc _) hg)))
      have HY1 : Hid ((ys ++ [x / 65536 % 256]) ++ be 2 x = be k x) := Lib.hid (by rw [← HY.out]; simp [be])
      clear ho hg hn2 HO HB HY HK
      go_wp2
      go_roundw
      case rel => exact ⟨2, q + 1, _, by omega, rfl, HY1, HO1, HB1, HK1⟩
      case measure => simp [intOf]
    · go_wp2_with (at_builtin; refine wpList_append_own _ rfl _ _ 23 rfl B 5 i0 (.int .u8 0) 1 1 Try.underlying23 hi hz0 hz1 hz2 rfl (by decide) _ _ _ rfl (HO.out.alloc _) ⟨wr.heap.size, 0, none⟩ 1 1 (bv [x / 16777216 % 256]) rfl rfl ?c1 (bv_one _) ?c3 ?c4 ?c5 ?_)
      case c1 => exact new_cells [x / 16777216 % 256] wr _
      case c3 => unfold maxLen; omega
      case c4 => omega
      case c5 => simp; omega
      intro v1 w1 ho hg hn2
      have HO1 : Hid (w1.ownsRow B 5 1 v1 (n + (q + 1)) (xs ++ bv (ys ++ [x / 16777216 % 256]))) := Lib.hid (own_eq ho (by simp [bv]) (by omega))
      have HB1 := Lib.hid (HB.out.trans (((Below.refl B wr).alloc (by omega) _).trans (below_grown (by simp; omega) (HO.out.alloc _) hg)))
      have HK1 := Lib.hid (KeptT.trans hkw HK.out (KeptT.trans (al_le wr _) (KeptT.alloc wr _) (KeptT.own (HO.out.alloc _) hg)))
      have HY1 : Hid ((ys ++ [x / 16777216 % 256]) ++ be 3 x = be k x) := Lib.hid (by rw [← HY.out]; simp [be])
      clear ho hg hn2 HO HB HY HK
      go_wp2
      go_roundw
      case rel => exact ⟨3, q + 1, _, by omega, rfl, HY1, HO1, HB1, HK1⟩
      case measure => simp [intOf]
    · go_wp2_with (at_builtin; refine wpList_append_own _ rfl _ _ 23 rfl B 5 i0 (.int .u8 0) 1 1 Try.underlying23 hi hz0 hz1 hz2 rfl (by decide) _ _ _ rfl (HO.out.alloc _) ⟨wr.heap.size, 0, none⟩ 1 1 (bv [x / 4294967296 % 256]) rfl rfl ?c1 (bv_one _) ?c3 ?c4 ?c5 ?_)
      case c1 => exact new_cells [x / 4294967296 % 256] wr _
      case c3 => unfold maxLen; omega
      case c4 => omega
      case c5 => simp; omega
      intro v1 w1 ho hg hn2
      have HO1 : Hid (w1.ownsRow B 5 1 v1 (n + (q + 1)) (xs ++ bv (ys ++ [x / 4294967296 % 256]))) := Lib.hid (own_eq ho (by simp [bv]) (by omega))
      have HB1 := Lib.hid (HB.out.trans (((Below.refl B wr).alloc (by omega) _).trans (below_grown (by simp; omega) (HO.out.alloc _) hg)))
      have HK1 := Lib.hid (KeptT.trans hkw HK.out (KeptT.trans (al_le wr _) (KeptT.alloc wr _) (KeptT.own (HO.out.alloc _) hg)))
      have HY1 : Hid ((ys ++ [x / 4294967296 % 256]) ++ be 4 x = be k x) := Lib.hid (by rw [← HY.out]; simp [be])
      clear ho hg hn2 HO HB HY HK
      go_wp2
      go_roundw
      case rel => exact ⟨4, q + 1, _, by omega, rfl, HY1, HO1, HB1, HK1⟩
      case measure => simp [intOf]
    · go_wp2_with (at_builtin; refine wpList_append_own _ rfl _ _ 23 rfl B 5 i0 (.int .u8 0) 1 1 Try.underlying23 hi hz0 hz1 hz2 rfl (by decide) _ _ _ rfl (HO.out.alloc _) ⟨wr.heap.size, 0, none⟩ 1 1 (bv [x / 1099511627776 % 256]) rfl rfl ?c1 (bv_one _) ?c3 ?c4 ?c5 ?_)
      case c1 => exact new_cells [x / 1099511627776 % 256] wr _
      case c3 => unfold maxLen; omega
      case c4 => omega
      case c5 => simp; omega
      intro v1 w1 ho hg hn2
      have HO1 : Hid (w1.ownsRow B 5 1 v1 (n + (q + 1)) (xs ++ bv (ys ++ [x / 1099511627776 % 256]))) := Lib.hid (own_eq ho (by simp [bv]) (by omega))
      have HB1 := Lib.hid (HB.out.trans (((Below.refl B wr).alloc (by omega) _).trans (below_grown (by simp; omega) (HO.out.alloc _) hg)))
      have HK1 := Lib.hid (KeptT.trans hkw HK.out (KeptT.trans (al_le wr _) (KeptT.alloc wr _) (KeptT.own (HO.out.alloc _) hg)))
      have HY1 : Hid ((ys ++ [x / 1099511627776 % 256]) ++ be 5 x = be k x) := Lib.hid (by rw [← HY.out]; simp [be])
      clear ho hg hn2 HO HB HY HK
      go_wp2
      go_roundw
      case rel => exact ⟨5, q + 1, _, by omega, rfl, HY1, HO1, HB1, HK1⟩
      case measure => simp [intOf]
    · go_wp2_with (at_builtin; refine wpList_append_own _ rfl _ _ 23 rfl B 5 i0 (.int .u8 0) 1 1 Try.underlying23 hi hz0 hz1 hz2 rfl (by decide) _ _ _ rfl (HO.out.alloc _) ⟨wr.heap.size, 0, none⟩ 1 1 (bv [x / 281474976710656 % 256]) rfl rfl ?c1 (bv_one _) ?c3 ?c4 ?c5 ?_)
      case c1 => exact new_cells [x / 281474976710656 % 256] wr _
      case c3 => unfold maxLen; omega
      case c4 => omega
      case c5 => simp; omega
      intro v1 w1 ho hg hn2
      have HO1 : Hid (w1.ownsRow B 5 1 v1 (n + (q + 1)) (xs ++ bv (ys ++ [x / 281474976710656 % 256]))) := Lib.hid (own_eq ho (by simp [bv]) (by omega))
      have HB1 := Lib.hid (HB.out.trans (((Below.refl B wr).alloc (by omega) _).trans (below_grown (by simp; omega) (HO.out.alloc _) hg)))
      have HK1 := Lib.hid (KeptT.trans hkw HK.out (KeptT.trans (al_le wr _) (KeptT.alloc wr _) (KeptT.own (HO.out.alloc _) hg)))
      have HY1 : Hid ((ys ++ [x / 281474976710656 % 256]) ++ be 6 x = be k x) := Lib.hid (by rw [← HY.out]; simp [be])
      clear ho hg hn2 HO HB HY HK
      go_wp2
      go_roundw
      case rel => exact ⟨6, q + 1, _, by omega, rfl, HY1, HO1, HB1, HK1⟩
      case measure => simp [intOf]
    · go_wp2_with (at_builtin; refine wpList_append_own _ rfl _ _ 23 rfl B 5 i0 (.int .u8 0) 1 1 Try.underlying23 hi hz0 hz1 hz2 rfl (by decide) _ _ _ rfl (HO.out.alloc _) ⟨wr.heap.size, 0, none⟩ 1 1 (bv [x / 72057594037927936]) rfl rfl ?c1 (bv_one _) ?c3 ?c4 ?c5 ?_)
      case c1 => exact new_cells [x / 72057594037927936] wr _
      case c3 => unfold maxLen; omega
      case c4 => omega
      case c5 => simp; omega
      intro v1 w1 ho hg hn2
      have HO1 : Hid (w1.ownsRow B 5 1 v1 (n + (q + 1)) (xs ++ bv (ys ++ [x / 72057594037927936]))) := Lib.hid (own_eq ho (by simp [bv]) (by omega))
      have HB1 := Lib.hid (HB.out.trans (((Below.refl B wr).alloc (by omega) _).trans (below_grown (by simp; omega) (HO.out.alloc _) hg)))
      have HK1 := Lib.hid (KeptT.trans hkw HK.out (KeptT.trans (al_le wr _) (KeptT.alloc wr _) (KeptT.own (HO.out.alloc _) hg)))
      have HY1 : Hid ((ys ++ [x / 72057594037927936]) ++ be 7 x = be k x) := Lib.hid (by rw [← HY.out]; simp [be, h56])
      clear ho hg hn2 HO HB HY HK
      go_wp2
      go_roundw
      case rel => exact ⟨7, q + 1, _, by omega, rfl, HY1, HO1, HB1, HK1⟩
      case measure => simp [intOf]
set_option maxHeartbeats 1000000 in
theorem text_k (B : Nat) (v : Value) (n : Nat) (xs : List Value) (s : ByteArray) (k : Nat) (w : World) (hB : B ≤ w.heap.size) (hown : w.ownsRow B 5 1 v n xs) (hn : n ≤ 140730000000000) (hs : s.size ≤ 1000000000) (hk : k ≤ 7) :
    Calls Try.prog 41 #[v, .string s, .int .i64 k] w (OwnRetK B (n + k + s.size) (xs ++ (bv (be k s.size) ++ Lib.strCells s)) w) := by
  obtain ⟨i0, hi, hz0, hz1, hz2⟩ := info_parts info5
  have hmx : (140737488355328 : Nat) ≤ maxLen := by unfold maxLen; omega
  have HO := Lib.hid hown
  clear hown
  go_enter Try.func41, Try.ntmps41
  go_wp2_with fail
  refine (number_k B v n xs s.size k w hB HO.out (by omega) (by omega) (by omega) (by omega)).mono ?_
  rintro e w1 ⟨v1, rfl, ho1, hb1, hk1⟩
  have HB1 := Lib.hid hb1
  have HO1 := Lib.hid ho1
  have HK1 := Lib.hid hk1
  have hsz := hb1.size
  have hsw : w.heap.size ≤ w1.heap.size := hb1.size
  clear ho1 hb1 hk1
  go_wp2_with (at_builtin; refine Lib.wpList_append_own_string _ rfl _ _ _ _ rfl B 5 i0 Try.underlying23 Try.underlying9 hi hz0 hz1 hz2 _ _ _ rfl HO1.out s rfl (by omega) (by omega) (by omega) ?_)
  intro v' w' ho hg hv
  have HB' := Lib.hid (HB1.out.trans (below_grown (by omega) HO1.out hg))
  have HK' := Lib.hid (KeptT.trans hsw HK1.out (KeptT.own HO1.out hg))
  have HO' := Lib.hid ho
  clear ho hg hv
  go_wp2
  go_ret
  exact ⟨_, by first | rfl | skip, HO'.out, HB'.out, HK'.out⟩
end Go.Proofs.Ytmcmapgllaopmaa.Cd
end

section
namespace Go.Proofs.Ytmcmapgllaopmaa.Cd
open Go.RowKit
set_option linter.unusedVariables false
theorem run_append_k (w : World) (t : TypeId) (B : Nat) (v : Value) (n : Nat) (d : List Int) (hown : w.ownsRow B 5 1 v n (bv d))
    (A : Option Addr) (m c : Nat) (l : List Int) (hsl : RdB w A m c l) (hbytes : (n + m) * 1 ≤ 140737488355328) (hbase : B ≤ w.heap.size) :
    ∃ A' C' w', (Builtin.append_ #[23, 23] t #[v, .slice A m c]).run Try.prog w = .ok (.slice A' (n + m) C') w' ∧ w'.ownsRow B 5 1 (.slice A' (n + m) C') (n + m) (bv (d ++ l)) ∧ Below B w w' ∧ KeptT w w' := by
  obtain ⟨i0, hi, hz0, hz1, hz2⟩ := info_parts info5
  cases A with
  | none =>
    have hc := hsl.none rfl
    have hm : m = 0 := by have := hsl.cap; omega
    subst hm hc
    obtain rfl : l = [] := List.eq_nil_of_length_eq_zero hsl.len
    obtain ⟨A', C', rfl⟩ := own_slice' hown
    refine ⟨A', C', w, run_append_owned_none (P := Try.prog) w B 23 t 5 i0 1 Try.underlying23 hi _ _ _ hown, ?_, Below.refl B w, KeptT.refl w⟩
    rw [List.append_nil]
    exact hown
  | some y =>
    obtain ⟨-, hcc⟩ := hsl.cell y rfl
    have hll := hsl.len
    have hnw : ∀ j u, (bv l)[j]? = some u → w.cell? (y.add j) = some u := by
      intro j u hj
      have hj1 := (List.getElem?_eq_some_iff.1 hj).1
      rw [bv, List.length_map, hll] at hj1
      rw [hcc j hj1, ← hj]
      simp [bv, hll, hj1]
    obtain ⟨v', w', hr, h2, h3, h4⟩ := run_append_own (P := Try.prog) w B 23 t 5 i0 (.int .u8 0) 1 1 Try.underlying23 hi hz0 hz1 hz2 rfl (by decide) v n (bv d) hown y m c (bv l) (by rw [bv, List.length_map, hll]; omega) hnw (bv_one l) (by unfold maxLen; omega) hbytes hbase
    obtain ⟨A', C', rfl⟩ := own_slice' h2
    exact ⟨A', C', w', hr, by rw [show bv (d ++ l) = bv d ++ bv l from by simp [bv]]; exact h2, below_grown hbase hown h3, KeptT.own hown h3⟩
theorem step_append_k (w : World) {ops : Array Oper} {o : Oper} {a : Act} {K : Act → World → Prop} {Q : Exit → Act → World → Prop} {E : Prop} (hgd : o.guard = none) (s x : Operand)
    (ho : o.op = .call { callee := .builtin .append, args := #[s, x], argTypes := #[23, 23] })
    (B : Nat) (v : Value) (n : Nat) (d : List Int) (hs : a.eval s = v) (hown : w.ownsRow B 5 1 v n (bv d))
    (A : Option Addr) (m c : Nat) (l : List Int) (hx : a.eval x = .slice A m c) (hsl : RdB w A m c l)
    (hbytes : (n + m) * 1 ≤ 140737488355328) (hbase : B ≤ w.heap.size)
    (h : ∀ A' C' w', w'.ownsRow B 5 1 (.slice A' (n + m) C') (n + m) (bv (d ++ l)) → Below B w w' → KeptT w w' → K (a.put o.dst (.slice A' (n + m) C')) w') :
    if Region.wanted o (yielded ops a.tmps) = true then Oper.wp Try.prog o a w K Q else E := by
  have hw : Region.wanted o (yielded ops a.tmps) = true := by simp [Region.wanted, hgd]
  rw [if_pos hw]
  obtain ⟨A', C', w', hr, h2, h3, h4⟩ := run_append_k w o.type B v n d hown A m c l hsl hbytes hbase
  unfold Oper.wp execOp
  simp only [ho, resolve, invoke, builtin, Sem.run_bind, Sem.run_pure, Result.andThen_ok, List.map_toArray, List.map_cons, List.map_nil, hs, hx, hr]
  exact h A' C' w' h2 h3 h4
theorem wpList_append_k (w : World) {ops : Array Oper} {rest : List Oper} {o : Oper} {a : Act} {Q : Exit → Act → World → Prop} (hgd : o.guard = none) (s x : Operand)
    (ho : o.op = .call { callee := .builtin .append, args := #[s, x], argTypes := #[23, 23] })
    (B : Nat) (v : Value) (n : Nat) (d : List Int) (hs : a.eval s = v) (hown : w.ownsRow B 5 1 v n (bv d))
    (A : Option Addr) (m c : Nat) (l : List Int) (hx : a.eval x = .slice A m c) (hsl : RdB w A m c l)
    (hbytes : (n + m) * 1 ≤ 140737488355328) (hbase : B ≤ w.heap.size)
    (h : ∀ A' C' w', w'.ownsRow B 5 1 (.slice A' (n + m) C') (n + m) (bv (d ++ l)) → Below B w w' → KeptT w w' → wpList Try.prog ops Q rest (a.put o.dst (.slice A' (n + m) C')) w') :
    wpList Try.prog ops Q (o :: rest) a w := by
  refine wpList_plain hgd fun K hK => ?_
  obtain ⟨A', C', w', hr, h2, h3, h4⟩ := run_append_k w o.type B v n d hown A m c l hsl hbytes hbase
  unfold Oper.wp execOp
  simp only [ho, resolve, invoke, builtin, Sem.run_bind, Sem.run_pure, Result.andThen_ok, List.map_toArray, List.map_cons, List.map_nil, hs, hx, hr]
  exact hK _ _ (h A' C' w' h2 h3 h4)
end Go.Proofs.Ytmcmapgllaopmaa.Cd
end

section
namespace Go.Proofs.Ytmcmapgllaopmaa.Cd
open Go.RowKit
set_option linter.unusedVariables false
/-- a sequence's cells -/
def sqV (k : Int) (br : ByteArray) (og cu : List Int) (td : Value) (dn md : Int) (st : Bool) : List Value :=
  .int .i64 k :: .string br :: (bv og ++ (bv cu ++ [td, .int .i64 dn, .int .i64 md, .bool st]))
/-- a transaction's cells -/
def txV (hh : Bool) (hd : ByteArray) (mv : Value) (hs : Bool) (sq : List Value) (mm : Value) : List Value :=
  .bool hh :: .string hd :: mv :: .bool hs :: (sq ++ [mm])
def sq0 : List Value := sqV 0 ByteArray.empty (List.replicate 32 0) (List.replicate 32 0) (.slice none 0 0) 0 0 false
def tx0 : List Value := txV false ByteArray.empty (.slice none 0 0) false sq0 (.slice none 0 0)
theorem sqV_len {k : Int} {br : ByteArray} {og cu : List Int} {td : Value} {dn md : Int} {st : Bool} (ho : og.length = 32) (hc : cu.length = 32) : (sqV k br og cu td dn md st).length = 70 := by
  simp [sqV, bv_len, ho, hc]
theorem txV_len {hh : Bool} {hd : ByteArray} {mv : Value} {hs : Bool} {sq : List Value} {mm : Value} (h : sq.length = 70) : (txV hh hd mv hs sq mm).length = 75 := by
  simp [txV, h]
theorem sq0_len : sq0.length = 70 := sqV_len (by simp) (by simp)
theorem tx0_len : tx0.length = 75 := txV_len sq0_len
theorem bv_mem_one {l : List Int} {v : Value} (h : v ∈ bv l) : v.oneCell' = true := bv_one l v h
theorem sqV_one {k : Int} {br : ByteArray} {og cu : List Int} {td : Value} {dn md : Int} {st : Bool} (ht : td.oneCell' = true) : ∀ v ∈ sqV k br og cu td dn md st, v.oneCell' = true := by
  intro v hv
  simp only [sqV, List.mem_cons, List.mem_append, List.not_mem_nil, or_false] at hv
  rcases hv with rfl | rfl | h | h | rfl | rfl | rfl | rfl
  · rfl
  · rfl
  · exact bv_mem_one h
  · exact bv_mem_one h
  · exact ht
  · rfl
  · rfl
  · rfl
theorem txV_one {hh : Bool} {hd : ByteArray} {mv : Value} {hs : Bool} {sq : List Value} {mm : Value} (hm : mv.oneCell' = true) (hq : ∀ v ∈ sq, v.oneCell' = true) (hy : mm.oneCell' = true) : ∀ v ∈ txV hh hd mv hs sq mm, v.oneCell' = true := by
  intro v hv
  simp only [txV, List.mem_cons, List.mem_append, List.not_mem_nil, or_false] at hv
  rcases hv with rfl | rfl | rfl | rfl | h | rfl
  · rfl
  · rfl
  · exact hm
  · rfl
  · exact hq _ h
  · exact hy
theorem zeroTx (w : World) : (zeroValue 68).run Try.prog w = .ok (.agg tx0.toArray) w := by kernel_rfl
theorem zeroSq (w : World) : (zeroValue 65).run Try.prog w = .ok (.agg sq0.toArray) w := by kernel_rfl
theorem infoTx : (Try.prog.info? 68).map (·.size) = some 75 := by kernel_rfl
theorem infoSq : (Try.prog.info? 65).map (·.size) = some 70 := by kernel_rfl
theorem infoTd : (Try.prog.info? 84).map (·.size) = some 33 := by kernel_rfl
theorem infoMv : (Try.prog.info? 126).map (·.size) = some 66 := by kernel_rfl
theorem infoMy : (Try.prog.info? 128).map (·.size) = some 33 := by kernel_rfl
theorem rg_app {w : World} {b o : Nat} {xs ys : List Value} (h : w.rangeAt b o (xs ++ ys)) : w.rangeAt b o xs ∧ w.rangeAt b (o + xs.length) ys :=
  ⟨fun j v hj => h j v (by rw [List.getElem?_append_left (List.getElem?_eq_some_iff.1 hj).1]; exact hj), fun j v hj => by
    have := h (xs.length + j) v (by rw [List.getElem?_append_right (by omega), Nat.add_sub_cancel_left]; exact hj)
    rw [← Nat.add_assoc] at this
    exact this⟩
theorem rg_cons {w : World} {b o : Nat} {x : Value} {ys : List Value} (h : w.rangeAt b o (x :: ys)) : w.cell? ⟨b, o, none⟩ = some x ∧ w.rangeAt b (o + 1) ys :=
  ⟨h 0 x rfl, fun j v hj => by
    have := h (j + 1) v hj
    rw [show o + (j + 1) = o + 1 + j by omega] at this
    exact this⟩
/-- a sequence's parts, from o on in block b -/
structure SqAt (w : World) (b o : Nat) (k : Int) (br : ByteArray) (og cu : List Int) (td : Value) (dn md : Int) (st : Bool) : Prop where
  all : w.rangeAt b o (sqV k br og cu td dn md st)
  c0 : w.cell? ⟨b, o, none⟩ = some (.int .i64 k)
  c1 : w.cell? ⟨b, o + 1, none⟩ = some (.string br)
  og : w.rangeAt b (o + 2) (bv og)
  cu : w.rangeAt b (o + 34) (bv cu)
  td : w.cell? ⟨b, o + 66, none⟩ = some td
  dn : w.cell? ⟨b, o + 67, none⟩ = some (.int .i64 dn)
  md : w.cell? ⟨b, o + 68, none⟩ = some (.int .i64 md)
  st : w.cell? ⟨b, o + 69, none⟩ = some (.bool st)
theorem sq_at {w : World} {b o : Nat} {k : Int} {br : ByteArray} {og cu : List Int} {td : Value} {dn md : Int} {st : Bool} (ho : og.length = 32) (hc : cu.length = 32) (h : w.rangeAt b o (sqV k br og cu td dn md st)) : SqAt w b o k br og cu td dn md st := by
  have h0 := rg_cons h
  have h1 := rg_cons h0.2
  have h2 := rg_app h1.2
  have h3 := rg_app h2.2
  have h4 := rg_cons h3.2
  have h5 := rg_cons h4.2
  have h6 := rg_cons h5.2
  have h7 := rg_cons h6.2
  have e4 := h4.1
  have e5 := h5.1
  have e6 := h6.1
  have e7 := h7.1
  have e3 := h3.1
  simp only [bv_len, ho, hc, Nat.add_assoc] at e3 e4 e5 e6 e7
  exact ⟨h, h0.1, h1.1, by have := h2.1; simpa [Nat.add_assoc] using this, by simpa using e3, by simpa using e4, by simpa using e5, by simpa using e6, by simpa using e7⟩
/-- a transaction's parts, in block b -/
structure TxAt (w : World) (b : Nat) (hh : Bool) (hd : ByteArray) (mv : Value) (hs : Bool) (sq : List Value) (mm : Value) : Prop where
  all : w.rangeAt b 0 (txV hh hd mv hs sq mm)
  c0 : w.cell? ⟨b, 0, none⟩ = some (.bool hh)
  c1 : w.cell? ⟨b, 1, none⟩ = some (.string hd)
  c2 : w.cell? ⟨b, 2, none⟩ = some mv
  c3 : w.cell? ⟨b, 3, none⟩ = some (.bool hs)
  sq : w.rangeAt b 4 sq
  mm : w.cell? ⟨b, 74, none⟩ = some mm
theorem tx_at {w : World} {b : Nat} {hh : Bool} {hd : ByteArray} {mv : Value} {hs : Bool} {sq : List Value} {mm : Value} (hq : sq.length = 70) (h : w.rangeAt b 0 (txV hh hd mv hs sq mm)) : TxAt w b hh hd mv hs sq mm := by
  have h0 := rg_cons h
  have h1 := rg_cons h0.2
  have h2 := rg_cons h1.2
  have h3 := rg_cons h2.2
  have h4 := rg_app h3.2
  have h5 := rg_cons h4.2
  have e5 := h5.1
  simp only [hq] at e5
  exact ⟨h, h0.1, by simpa using h1.1, by simpa using h2.1, by simpa using h3.1, by simpa using h4.1, by simpa using e5⟩
/-- a row's cells told by a list are a range -/
theorem row_range {w : World} {X n : Nat} {t : TypeId} {D : List Value} (h : w.rowIs X t n (fun i => D.getD i undef)) (hl : D.length = n) : w.rangeAt X 0 D := fun j v hj => by
  have hjl := (List.getElem?_eq_some_iff.1 hj).1
  rw [Nat.zero_add, h.cell (show j < n by omega)]
  simp [List.getD, hj]
theorem row_of_stored {w : World} {X n : Nat} {t : TypeId} {D : List Value} (h : w.heap[X]? = some (.cells D.toArray t (0, 0))) (hl : D.length = n) : w.rowIs X t n (fun i => D.getD i undef) :=
  ⟨D.toArray, h, by rw [List.size_toArray, hl], fun i hi => by
    simp [List.getD, show i < D.length by omega]⟩
theorem row_newL (w : World) (D : List Value) (t : TypeId) (n : Nat) (hl : D.length = n) : (w.alloc (.cells D.toArray t)).rowIs w.heap.size t n (fun i => D.getD i undef) :=
  row_of_stored (by show (w.heap.push _)[w.heap.size]? = _; simp) hl
/-- a row of values of sz cells each that is read; it lies below G -/
structure RdS (G sz : Nat) (w : World) (A : Option Addr) (n C : Nat) (cs : List (List Value)) : Prop where
  len : cs.length = n
  cap : n ≤ C
  max : C ≤ 9223372036854775807
  size : ∀ c ∈ cs, c.length = sz
  cell : 0 < n → ∃ g o, A = some ⟨g, o, none⟩ ∧ g < G ∧ ∀ i, i < n → w.rangeAt g (o + i * sz) (cs.getD i [])
theorem RdS.below {G sz B : Nat} {w w' : World} {A : Option Addr} {n C : Nat} {cs : List (List Value)} (h : RdS G sz w A n C cs) (hb : Below B w w') (hG : G ≤ B) : RdS G sz w' A n C cs :=
  ⟨h.len, h.cap, h.max, h.size, fun h0 => by
    obtain ⟨g, o, h1, h2, h3⟩ := h.cell h0
    exact ⟨g, o, h1, h2, fun i hi => range_below hb (h3 i hi) (by omega)⟩⟩
/-- bytes that are read and lie below G -/
structure RdG (G : Nat) (w : World) (A : Option Addr) (n C : Nat) (l : List Int) : Prop where
  rd : RdB w A n C l
  lt : ∀ x, A = some x → 0 < n → x.block < G
theorem RdG.below {G B : Nat} {w w' : World} {A : Option Addr} {n C : Nat} {l : List Int} (h : RdG G w A n C l) (hb : Below B w w') (hs : B ≤ w.heap.size) (hG : G ≤ B) : RdG G w' A n C l :=
  ⟨⟨h.rd.len, h.rd.cap, h.rd.max, h.rd.big, h.rd.none, h.rd.byte, fun x hx => by
    obtain ⟨h1, h2⟩ := h.rd.cell x hx
    refine ⟨fun h0 => Nat.lt_of_lt_of_le (h1 h0) hb.size, fun i hi => ?_⟩
    rw [hb.cell (p := x.add i) (by rw [add_block]; have := h.lt x hx (by omega); omega)]
    exact h2 i hi⟩, h.lt⟩
/-- a move -/
structure Mv where
  nm : ByteArray
  od : List Int
  nw : List Int
  wy : ByteArray
instance : Inhabited Mv := ⟨⟨ByteArray.empty, [], [], ByteArray.empty⟩⟩
def Mv.cells (m : Mv) : List Value := .string m.nm :: (bv m.od ++ (bv m.nw ++ [.string m.wy]))
/-- a step -/
structure Td where
  dd : Int
  id : List Int
instance : Inhabited Td := ⟨⟨0, []⟩⟩
def Td.cells (t : Td) : List Value := .int .i64 t.dd :: bv t.id
/-- a conflict that is known: its key, its bytes and where they lie -/
structure My where
  key : List Int
  A : Option Addr
  n : Nat
  C : Nat
  l : List Int
instance : Inhabited My := ⟨⟨[], none, 0, 0, []⟩⟩
def My.cells (m : My) : List Value := bv m.key ++ [.slice m.A m.n m.C]
/-- rows of moves, steps, conflicts -/
structure RdM (G : Nat) (w : World) (A : Option Addr) (n C : Nat) (ms : List Mv) : Prop where
  rd : RdS G 66 w A n C (ms.map Mv.cells)
  ok : ∀ m ∈ ms, m.od.length = 32 ∧ m.nw.length = 32 ∧ m.nm.size ≤ 1000000000 ∧ m.wy.size ≤ 1000000000
structure RdT (G : Nat) (w : World) (A : Option Addr) (n C : Nat) (ts : List Td) : Prop where
  rd : RdS G 33 w A n C (ts.map Td.cells)
  ok : ∀ t ∈ ts, t.id.length = 32
structure RdY (G : Nat) (w : World) (A : Option Addr) (n C : Nat) (ys : List My) : Prop where
  rd : RdS G 33 w A n C (ys.map My.cells)
  ok : ∀ y ∈ ys, y.key.length = 32 ∧ y.n ≤ 1000000000 ∧ RdG G w y.A y.n y.C y.l
theorem RdM.below {G B : Nat} {w w' : World} {A : Option Addr} {n C : Nat} {ms : List Mv} (h : RdM G w A n C ms) (hb : Below B w w') (hG : G ≤ B) : RdM G w' A n C ms := ⟨h.rd.below hb hG, h.ok⟩
theorem RdT.below {G B : Nat} {w w' : World} {A : Option Addr} {n C : Nat} {ts : List Td} (h : RdT G w A n C ts) (hb : Below B w w') (hG : G ≤ B) : RdT G w' A n C ts := ⟨h.rd.below hb hG, h.ok⟩
theorem RdY.below {G B : Nat} {w w' : World} {A : Option Addr} {n C : Nat} {ys : List My} (h : RdY G w A n C ys) (hb : Below B w w') (hs : B ≤ w.heap.size) (hG : G ≤ B) : RdY G w' A n C ys :=
  ⟨h.rd.below hb hG, fun y hy => ⟨(h.ok y hy).1, (h.ok y hy).2.1, (h.ok y hy).2.2.below hb hs hG⟩⟩
theorem getD_memI {α : Type} [Inhabited α] {l : List α} {k : Nat} (h : k < l.length) : l.getD k default ∈ l := by
  rw [List.getD_eq_getElem?_getD, List.getElem?_eq_getElem h]; exact List.getElem_mem h
theorem map_getD {α : Type} [Inhabited α] (f : α → List Value) {l : List α} {k : Nat} (h : k < l.length) : (l.map f).getD k [] = f (l.getD k default) := by
  simp [List.getD, h]
theorem take_snocI {α : Type} [Inhabited α] (l : List α) (k : Nat) (hk : k < l.length) : l.take (k + 1) = l.take k ++ [l.getD k default] := by
  rw [List.take_succ_eq_append_getElem hk]
  congr 2
  simp [List.getD, hk]
theorem drop_consI {α : Type} [Inhabited α] (l : List α) (k : Nat) (hk : k < l.length) : l.drop k = l.getD k default :: l.drop (k + 1) := by
  rw [List.drop_eq_getElem_cons hk]
  congr 1
  simp [List.getD, hk]
theorem Mv.len {m : Mv} (h : m.od.length = 32) (h' : m.nw.length = 32) : m.cells.length = 66 := by simp [Mv.cells, bv_len, h, h']
theorem Td.len {t : Td} (h : t.id.length = 32) : t.cells.length = 33 := by simp [Td.cells, bv_len, h]
theorem My.len {m : My} (h : m.key.length = 32) : m.cells.length = 33 := by simp [My.cells, bv_len, h]
theorem Mv.one (m : Mv) : ∀ v ∈ m.cells, v.oneCell' = true := by
  intro v hv
  simp only [Mv.cells, List.mem_cons, List.mem_append, List.not_mem_nil, or_false] at hv
  rcases hv with rfl | h | h | rfl
  · rfl
  · exact bv_mem_one h
  · exact bv_mem_one h
  · rfl
theorem Td.one (t : Td) : ∀ v ∈ t.cells, v.oneCell' = true := by
  intro v hv
  simp only [Td.cells, List.mem_cons] at hv
  rcases hv with rfl | h
  · rfl
  · exact bv_mem_one h
theorem My.one (m : My) : ∀ v ∈ m.cells, v.oneCell' = true := by
  intro v hv
  simp only [My.cells, List.mem_append, List.mem_cons, List.not_mem_nil, or_false] at hv
  rcases hv with h | rfl
  · exact bv_mem_one h
  · rfl
end Go.Proofs.Ytmcmapgllaopmaa.Cd
end

section
namespace Go.Proofs.Ytmcmapgllaopmaa.Cd
open Go.RowKit
set_option linter.unusedVariables false
/-- a type of rows: the row's, the thing's, its cells when zero, how many, its bytes -/
structure RowT (tS tE : TypeId) (Z : List Value) (sz by' : Nat) : Prop where
  und : Try.prog.underlying tS = some (.slice tE)
  info : (Try.prog.info? tE).map (fun i => (i.zero, i.size, i.bytes)) = some (some (.agg Z.toArray), sz, by')
  zl : Z.length = sz
  pos : 0 < sz
  few : sz ≤ 100
  byt : by' ≤ 100
def tdZ : List Value := Td.cells ⟨0, List.replicate 32 0⟩
def mvZ : List Value := Mv.cells ⟨ByteArray.empty, List.replicate 32 0, List.replicate 32 0, ByteArray.empty⟩
def myZ : List Value := My.cells ⟨List.replicate 32 0, none, 0, 0, []⟩
theorem rowTd : RowT 63 84 tdZ 33 40 := ⟨Try.underlying63, by kernel_rfl, by simp [tdZ, Td.cells, bv_len], by decide, by decide, by decide⟩
theorem rowMv : RowT 62 126 mvZ 66 96 := ⟨Try.underlying62, by kernel_rfl, by simp [mvZ, Mv.cells, bv_len], by decide, by decide, by decide⟩
theorem rowMy : RowT 66 128 myZ 33 56 := ⟨Try.underlying66, by kernel_rfl, by simp [myZ, My.cells, bv_len], by decide, by decide, by decide⟩
theorem run_append_z {tS tE : TypeId} {Z : List Value} {sz by' : Nat} (T : RowT tS tE Z sz by') (w : World) (ty : TypeId) (B : Nat) (v : Value) (n : Nat) (d : List Value) (hown : w.ownsRow B tE sz v n d)
    (g : Nat) (cs : List Value) (hy : ∀ j u, cs[j]? = some u → w.cell? ((⟨g, 0, none⟩ : Addr).add j) = some u) (hyl : cs.length = sz) (hone : ∀ u ∈ cs, u.oneCell' = true)
    (hn : n ≤ 1000000) (hbase : B ≤ w.heap.size) :
    ∃ A' C' w', (Builtin.append_ #[tS, tS] ty #[v, .slice (some ⟨g, 0, none⟩) 1 1]).run Try.prog w = .ok (.slice A' (n + 1) C') w' ∧ w'.ownsRow B tE sz (.slice A' (n + 1) C') (n + 1) (d ++ cs) ∧ w.grownBy w' v.ownBlock := by
  obtain ⟨i0, hi, hz0, hz1, hz2⟩ := info_parts T.info
  have hpos := T.pos
  have hbt := T.byt
  have hb1 : (n + 1) * by' ≤ (n + 1) * 100 := Nat.mul_le_mul_left _ hbt
  obtain ⟨v', w', hr, h2, h3, h4⟩ := run_append_own (P := Try.prog) w B tS ty tE i0 (.agg Z.toArray) sz by' T.und hi hz0 hz1 hz2 (by simp [Value.cells, T.zl]) hpos v n d hown ⟨g, 0, none⟩ 1 1 cs (by rw [hyl, Nat.one_mul]) hy hone (by unfold maxLen; omega) (by omega) hbase
  obtain ⟨A', C', rfl⟩ := own_slice' h2
  exact ⟨A', C', w', hr, h2, h3⟩
theorem step_append_z {tS tE : TypeId} {Z : List Value} {sz by' : Nat} (T : RowT tS tE Z sz by') (w : World) {ops : Array Oper} {o : Oper} {a : Act} {K : Act → World → Prop} {Q : Exit → Act → World → Prop} {E : Prop} (hgd : o.guard = none) (s x : Operand)
    (ho : o.op = .call { callee := .builtin .append, args := #[s, x], argTypes := #[tS, tS] })
    (B : Nat) (v : Value) (n : Nat) (d : List Value) (hs : a.eval s = v) (hown : w.ownsRow B tE sz v n d)
    (g : Nat) (cs : List Value) (hx : a.eval x = .slice (some ⟨g, 0, none⟩) 1 1) (hy : ∀ j u, cs[j]? = some u → w.cell? ((⟨g, 0, none⟩ : Addr).add j) = some u) (hyl : cs.length = sz) (hone : ∀ u ∈ cs, u.oneCell' = true)
    (hn : n ≤ 1000000) (hbase : B ≤ w.heap.size)
    (h : ∀ A' C' w', w'.ownsRow B tE sz (.slice A' (n + 1) C') (n + 1) (d ++ cs) → w.grownBy w' v.ownBlock → K (a.put o.dst (.slice A' (n + 1) C')) w') :
    if Region.wanted o (yielded ops a.tmps) = true then Oper.wp Try.prog o a w K Q else E := by
  have hw : Region.wanted o (yielded ops a.tmps) = true := by simp [Region.wanted, hgd]
  rw [if_pos hw]
  obtain ⟨A', C', w', hr, h2, h3⟩ := run_append_z T w o.type B v n d hown g cs hy hyl hone hn hbase
  unfold Oper.wp execOp
  simp only [ho, resolve, invoke, builtin, Sem.run_bind, Sem.run_pure, Result.andThen_ok, List.map_toArray, List.map_cons, List.map_nil, hs, hx, hr]
  exact h A' C' w' h2 h3
theorem wpList_append_z {tS tE : TypeId} {Z : List Value} {sz by' : Nat} (T : RowT tS tE Z sz by') (w : World) {ops : Array Oper} {rest : List Oper} {o : Oper} {a : Act} {Q : Exit → Act → World → Prop} (hgd : o.guard = none) (s x : Operand)
    (ho : o.op = .call { callee := .builtin .append, args := #[s, x], argTypes := #[tS, tS] })
    (B : Nat) (v : Value) (n : Nat) (d : List Value) (hs : a.eval s = v) (hown : w.ownsRow B tE sz v n d)
    (g : Nat) (cs : List Value) (hx : a.eval x = .slice (some ⟨g, 0, none⟩) 1 1) (hy : ∀ j u, cs[j]? = some u → w.cell? ((⟨g, 0, none⟩ : Addr).add j) = some u) (hyl : cs.length = sz) (hone : ∀ u ∈ cs, u.oneCell' = true)
    (hn : n ≤ 1000000) (hbase : B ≤ w.heap.size)
    (h : ∀ A' C' w', w'.ownsRow B tE sz (.slice A' (n + 1) C') (n + 1) (d ++ cs) → w.grownBy w' v.ownBlock → wpList Try.prog ops Q rest (a.put o.dst (.slice A' (n + 1) C')) w') : wpList Try.prog ops Q (o :: rest) a w := by
  refine wpList_plain hgd fun K hK => ?_
  obtain ⟨A', C', w', hr, h2, h3⟩ := run_append_z T w o.type B v n d hown g cs hy hyl hone hn hbase
  unfold Oper.wp execOp
  simp only [ho, resolve, invoke, builtin, Sem.run_bind, Sem.run_pure, Result.andThen_ok, List.map_toArray, List.map_cons, List.map_nil, hs, hx, hr]
  exact hK _ _ (h A' C' w' h2 h3)
theorem fill_z {sz : Nat} {Z cs : List Value} (hp : 0 < sz) (hl : cs.length = sz) : Instr.fill (fun i => some (i * sz, sz)) ((Array.range (1 * sz)).map ((Value.agg Z.toArray).cells[· % (Value.agg Z.toArray).cells.size]!)) [(0, Value.agg cs.toArray)] = some cs.toArray := by
  have := Great.fill_whole (s := sz) hp [Value.agg cs.toArray] ((Array.range (1 * sz)).map ((Value.agg Z.toArray).cells[· % (Value.agg Z.toArray).cells.size]!)) (by simp [Value.cells, hl]) (by simp)
  simpa [Value.cells] using this
theorem step_build_z {tS tE : TypeId} {Z : List Value} {sz by' : Nat} (T : RowT tS tE Z sz by') (w : World) {ops : Array Oper} {o : Oper} {a : Act} {K : Act → World → Prop} {Q : Exit → Act → World → Prop} {E : Prop} (hgd : o.guard = none) (x : Operand)
    (ho : o.op = .buildSlice tS 1 #[(0, x)]) (cs : List Value) (hx : a.eval x = .agg cs.toArray) (hl : cs.length = sz)
    (h : K (a.put o.dst (.slice (some ⟨w.heap.size, 0, none⟩) 1 1)) (w.alloc (.cells cs.toArray tE))) :
    if Region.wanted o (yielded ops a.tmps) = true then Oper.wp Try.prog o a w K Q else E := by
  have hw : Region.wanted o (yielded ops a.tmps) = true := by simp [Region.wanted, hgd]
  rw [if_pos hw]
  obtain ⟨i0, hi, hz0, hz1, hz2⟩ := info_parts T.info
  have hpos := T.pos
  have hfew := T.few
  refine wp_buildSlice tS tE 1 #[(0, x)] ho cs.toArray i0 _ T.und hi hz0 (by rw [hz1]; omega) (by rw [hz1]; omega) ?_ h
  rw [hz1]
  simpa [hx] using fill_z (Z := Z) hpos hl
theorem wpList_build_z {tS tE : TypeId} {Z : List Value} {sz by' : Nat} (T : RowT tS tE Z sz by') (w : World) {ops : Array Oper} {rest : List Oper} {o : Oper} {a : Act} {Q : Exit → Act → World → Prop} (hgd : o.guard = none) (x : Operand)
    (ho : o.op = .buildSlice tS 1 #[(0, x)]) (cs : List Value) (hx : a.eval x = .agg cs.toArray) (hl : cs.length = sz)
    (h : wpList Try.prog ops Q rest (a.put o.dst (.slice (some ⟨w.heap.size, 0, none⟩) 1 1)) (w.alloc (.cells cs.toArray tE))) : wpList Try.prog ops Q (o :: rest) a w := by
  obtain ⟨i0, hi, hz0, hz1, hz2⟩ := info_parts T.info
  have hpos := T.pos
  have hfew := T.few
  refine wpList_buildSlice hgd tS tE 1 #[(0, x)] ho cs.toArray i0 _ T.und hi hz0 (by rw [hz1]; omega) (by rw [hz1]; omega) ?_ h
  rw [hz1]
  simpa [hx] using fill_z (Z := Z) hpos hl
theorem new_cellsZ (w : World) (cs : List Value) (t : TypeId) : ∀ j u, cs[j]? = some u → (w.alloc (.cells cs.toArray t)).cell? ((⟨w.heap.size, 0, none⟩ : Addr).add j) = some u := by
  intro j u hj
  rw [show Addr.add ⟨w.heap.size, 0, none⟩ j = (⟨w.heap.size, j, none⟩ : Addr) from by unfold Addr.add; split <;> simp_all, World.cell?_alloc_new]
  simpa using hj
def tdsV (d : List Td) : List Value := d.flatMap Td.cells
def mvsV (d : List Mv) : List Value := d.flatMap Mv.cells
def mysV (d : List My) : List Value := d.flatMap My.cells
theorem tdsV_snoc (d : List Td) (y : Td) : tdsV (d ++ [y]) = tdsV d ++ y.cells := by simp [tdsV]
theorem mvsV_snoc (d : List Mv) (y : Mv) : mvsV (d ++ [y]) = mvsV d ++ y.cells := by simp [mvsV]
theorem mysV_snoc (d : List My) (y : My) : mysV (d ++ [y]) = mysV d ++ y.cells := by simp [mysV]
end Go.Proofs.Ytmcmapgllaopmaa.Cd
end

section
namespace Go.Proofs.Ytmcmapgllaopmaa.Cd
open Go.RowKit
set_option linter.unusedVariables false
/-- a place: what failed, where -/
abbrev Pl := Int × Nat
def atN (l : List Int) (L : Nat) (p : Pl) (n : Nat) : Pl := (tkF p.1 p.2 L n, tkA p.1 p.2 L n)
def geN (l : List Int) (L : Nat) (p : Pl) (n : Nat) : Nat := (nv (tkL p.1 l p.2 L n)).toNat
def geL (l : List Int) (L : Nat) (p : Pl) (n : Nat) : List Int := tkL p.1 l p.2 L n
def geI (l : List Int) (L : Nat) (p : Pl) : List Int := idv (tkL p.1 l p.2 L 32)
def atT (l : List Int) (L : Nat) (p : Pl) (n most : Nat) : Pl := (txF p.1 l p.2 L n most, txA p.1 l p.2 L n most)
def geT (l : List Int) (L : Nat) (p : Pl) (n most : Nat) : ByteArray := txS p.1 l p.2 L n most
/-- a reader at a place -/
def At (w : World) (R N : Nat) (t : TypeId) (A : Option Addr) (L C : Nat) (l : List Int) (p : Pl) (E : Nat → Value) : Prop := Rdr w R N t A L C l p.2 p.1 E
theorem geI_len (l : List Int) (L : Nat) (p : Pl) : (geI l L p).length = 32 := by
  refine idv_len _ ?_
  unfold tkL
  split
  · rw [List.length_take]; omega
  · simp
theorem nv_tkL4 (f : Int) (l : List Int) (at' L n : Nat) (hn : n ≤ 4) (hl : l.length = L) (hb : ∀ i, i < L → 0 ≤ l.getD i 0 ∧ l.getD i 0 ≤ 255) : 0 ≤ nv (tkL f l at' L n) ∧ nv (tkL f l at' L n) < 256 ^ n := by
  unfold tkL
  split
  · refine nv_bound n _ (by rw [List.length_take]; omega) (fun i hi => ?_)
    rw [List.length_take, List.length_drop] at hi
    rw [take_getD _ _ _ (by omega)]
    have := hb (at' + i) (by omega)
    simpa [List.getD] using this
  · exact ⟨by decide, Int.pow_pos (by decide)⟩
theorem geN_eq {l : List Int} {L : Nat} {p : Pl} {n : Nat} (hn : n ≤ 4) (hl : l.length = L) (hb : ∀ i, i < L → 0 ≤ l.getD i 0 ∧ l.getD i 0 ≤ 255) : nv (tkL p.1 l p.2 L n) = ((geN l L p n : Nat) : Int) := by
  have := nv_tkL4 p.1 l p.2 L n hn hl hb
  unfold geN; omega
theorem geN_lt {l : List Int} {L : Nat} {p : Pl} {n : Nat} (hn : n ≤ 4) (hl : l.length = L) (hb : ∀ i, i < L → 0 ≤ l.getD i 0 ∧ l.getD i 0 ≤ 255) : geN l L p n < 256 ^ n := by
  have h := nv_tkL4 p.1 l p.2 L n hn hl hb
  have e := geN_eq (p := p) hn hl hb
  have h2 := h.2
  rw [e] at h2
  have h3 : ((256 ^ n : Nat) : Int) = (256 : Int) ^ n := Int.natCast_pow 256 n
  rw [← h3] at h2
  exact Int.ofNat_lt.1 h2
theorem number_p (R N : Nat) (t : TypeId) (A : Option Addr) (L C : Nat) (l : List Int) (p : Pl) (E : Nat → Value) (n : Nat) (w : World) (h : At w R N t A L C l p E) (hn : n ≤ 4) :
    Calls Try.prog 62 #[.pointer (some ⟨R, 0, none⟩), .int .i64 n] w fun e w' => e = .returned (.int .i64 (geN l L p n : Nat)) ∧ At w' R N t A L C l (atN l L p n) E ∧ w.grownBy w' (some R) := by
  have := number_r R N t A L C l p.2 p.1 E n w h hn
  rw [geN_eq hn h.rd.len h.rd.byte] at this
  exact this
theorem byte_p (R N : Nat) (t : TypeId) (A : Option Addr) (L C : Nat) (l : List Int) (p : Pl) (E : Nat → Value) (w : World) (h : At w R N t A L C l p E) :
    Calls Try.prog 61 #[.pointer (some ⟨R, 0, none⟩)] w fun e w' => e = .returned (.int .u8 (geN l L p 1 : Nat)) ∧ At w' R N t A L C l (atN l L p 1) E ∧ w.grownBy w' (some R) := by
  have := byte_r R N t A L C l p.2 p.1 E w h
  rw [geN_eq (by decide) h.rd.len h.rd.byte] at this
  exact this
theorem id_p (R N : Nat) (t : TypeId) (A : Option Addr) (L C : Nat) (l : List Int) (p : Pl) (E : Nat → Value) (w : World) (h : At w R N t A L C l p E) :
    Calls Try.prog 84 #[.pointer (some ⟨R, 0, none⟩)] w fun e w' => e = .returned (.agg (bv (geI l L p)).toArray) ∧ At w' R N t A L C l (atN l L p 32) E ∧ w.grownBy w' (some R) :=
  id_r R N t A L C l p.2 p.1 E w h
theorem text_p (R N : Nat) (t : TypeId) (A : Option Addr) (L C : Nat) (l : List Int) (p : Pl) (E : Nat → Value) (n most : Nat) (w : World) (h : At w R N t A L C l p E) (hn : n < 4) :
    Calls Try.prog 89 #[.pointer (some ⟨R, 0, none⟩), .int .i64 n, .int .i64 most] w fun e w' => e = .returned (.string (geT l L p n most)) ∧ At w' R N t A L C l (atT l L p n most) E ∧ w.grownBy w' (some R) :=
  text_r R N t A L C l p.2 p.1 E n most w h hn
theorem ok_p (R N : Nat) (t : TypeId) (A : Option Addr) (L C : Nat) (l : List Int) (p : Pl) (E : Nat → Value) (w : World) (h : At w R N t A L C l p E) :
    Calls Try.prog 46 #[.pointer (some ⟨R, 0, none⟩)] w fun e' w' => e' = .returned (.bool (p.1 == 0)) ∧ w' = w :=
  ok_any R N t A L C l p.2 p.1 E w h
theorem fail_p (R N : Nat) (t : TypeId) (A : Option Addr) (L C : Nat) (l : List Int) (p : Pl) (e : Int) (E : Nat → Value) (w : World) (h : At w R N t A L C l p E) :
    Calls Try.prog 85 #[.pointer (some ⟨R, 0, none⟩), .int .i64 e] w fun e' w' => e' = .returned (.tuple #[]) ∧ At w' R N t A L C l (fl p.1 e, p.2) E ∧ w.grownBy w' (some R) :=
  fail_any R N t A L C l p.2 p.1 e E w h
/-- the steps told, and the place behind -/
def tdL (l : List Int) (L : Nat) : Nat → Pl → List Td → Pl × List Td
  | 0, p, ts => (p, ts)
  | n + 1, p, ts => if p.1 = 0 then tdL l L n (atN l L (atN l L p 1) 32) (ts ++ [⟨(geN l L p 1 : Nat), geI l L (atN l L p 1)⟩]) else (p, ts)
def sK (l : List Int) (L : Nat) (p : Pl) : Nat := geN l L p 1
def sP1 (l : List Int) (L : Nat) (p : Pl) : Pl := atN l L p 1
def sBr (l : List Int) (L : Nat) (p : Pl) : ByteArray := geT l L (sP1 l L p) 1 255
def sP2 (l : List Int) (L : Nat) (p : Pl) : Pl := atT l L (sP1 l L p) 1 255
def sOg (l : List Int) (L : Nat) (p : Pl) : List Int := geI l L (sP2 l L p)
def sP3 (l : List Int) (L : Nat) (p : Pl) : Pl := atN l L (sP2 l L p) 32
def sCu (l : List Int) (L : Nat) (p : Pl) : List Int := geI l L (sP3 l L p)
def sP4 (l : List Int) (L : Nat) (p : Pl) : Pl := atN l L (sP3 l L p) 32
def sM (l : List Int) (L : Nat) (p : Pl) : Nat := geN l L (sP4 l L p) 2
def sP5 (l : List Int) (L : Nat) (p : Pl) : Pl := atN l L (sP4 l L p) 2
def sQ (l : List Int) (L : Nat) (p : Pl) : Pl × List Td := tdL l L (sM l L p) (sP5 l L p) []
def sDn (l : List Int) (L : Nat) (p : Pl) : Nat := geN l L (sQ l L p).1 2
def sP6 (l : List Int) (L : Nat) (p : Pl) : Pl := atN l L (sQ l L p).1 2
def sMd (l : List Int) (L : Nat) (p : Pl) : Nat := geN l L (sP6 l L p) 2
def sP7 (l : List Int) (L : Nat) (p : Pl) : Pl := atN l L (sP6 l L p) 2
def sSt (l : List Int) (L : Nat) (p : Pl) : Nat := geN l L (sP7 l L p) 1
def sP8 (l : List Int) (L : Nat) (p : Pl) : Pl := atN l L (sP7 l L p) 1
def sP9 (l : List Int) (L : Nat) (p : Pl) : Pl := if 1 < sSt l L p then (fl (sP8 l L p).1 16, (sP8 l L p).2) else sP8 l L p
/-- a sequence, its steps a row -/
structure Sq where
  k : Int
  br : ByteArray
  og : List Int
  cu : List Int
  ts : List Td
  dn : Int
  md : Int
  st : Bool
def Sq.nil (k : Int) : Sq := ⟨k, ByteArray.empty, List.replicate 32 0, List.replicate 32 0, [], 0, 0, false⟩
def sqP (l : List Int) (L : Nat) (p : Pl) : Sq := if sK l L p = 0 then Sq.nil 0 else ⟨(sK l L p : Nat), sBr l L p, sOg l L p, sCu l L p, (sQ l L p).2, (sDn l L p : Nat), (sMd l L p : Nat), sSt l L p == 1⟩
def sqE (l : List Int) (L : Nat) (p : Pl) : Pl := if sK l L p = 0 then sP1 l L p else sP9 l L p
theorem tdL_len (l : List Int) (L : Nat) : ∀ (n : Nat) (p : Pl) (ts : List Td), (tdL l L n p ts).2.length ≤ ts.length + n
  | 0, _, _ => by simp [tdL]
  | n + 1, p, ts => by
    unfold tdL
    split
    · refine Nat.le_trans (tdL_len l L n _ _) ?_
      simp; omega
    · simp
/-- the sequence's cells -/
def Sq.cells (s : Sq) (v : Value) : List Value := sqV s.k s.br s.og s.cu v s.dn s.md s.st
/-- what (*txReader).seq hands back -/
def SqRet (R : Nat) (A : Option Addr) (L C : Nat) (l : List Int) (p : Pl) (E : Nat → Value) (w : World) (e : Ending) (w' : World) : Prop :=
  At w' R 3 136 A L C l (sqE l L p) E ∧ w.grownBy w' (some R) ∧
  ∃ Ai Ci, e = .returned (.agg ((sqP l L p).cells (.slice Ai (sqP l L p).ts.length Ci)).toArray) ∧ w'.ownsRow w.heap.size 84 33 (.slice Ai (sqP l L p).ts.length Ci) (sqP l L p).ts.length (tdsV (sqP l L p).ts)
end Go.Proofs.Ytmcmapgllaopmaa.Cd
end

section
namespace Go.Proofs.Ytmcmapgllaopmaa.Cd
open Go.RowKit
set_option linter.unusedVariables false
/-- cells laid from o on, as a list -/
def layL (D : List Value) (o : Nat) (vs : List Value) : List Value := D.take o ++ vs ++ D.drop (o + vs.length)
theorem layL_len {D vs : List Value} {o N : Nat} (hl : D.length = N) (ho : o + vs.length ≤ N) : (layL D o vs).length = N := by
  simp [layL]; omega
theorem row_setL {w : World} {X N : Nat} {t : TypeId} {D : List Value} (h : w.rowIs X t N (fun i => D.getD i undef)) (hl : D.length = N) (i : Nat) (v : Value) : (w.setCell ⟨X, i, none⟩ v).rowIs X t N (fun j => (D.set i v).getD j undef) :=
  (h.set i v).congr (fun j hj => by
    by_cases e : j = i
    · subst e
      rw [if_pos rfl]
      simp [List.getD, show j < D.length by omega]
    · rw [if_neg e]
      simp [List.getD, List.getElem?_set_ne (Ne.symm e)])
theorem row_layL {w : World} {X N : Nat} {t : TypeId} {D : List Value} (h : w.rowIs X t N (fun i => D.getD i undef)) (hl : D.length = N) (o : Nat) (vs : List Value) (ho : o + vs.length ≤ N) : (w.setCells X o vs).rowIs X t N (fun j => (layL D o vs).getD j undef) :=
  (row_lay h o vs).congr (fun j hj => by
    unfold layL layF
    by_cases h1 : o ≤ j ∧ j < o + vs.length
    · rw [if_pos h1, List.append_assoc, List.getD_eq_getElem?_getD (l := D.take o ++ _), List.getElem?_append_right (by rw [List.length_take]; omega), List.getElem?_append_left (by rw [List.length_take]; omega), List.length_take, show min o D.length = o by omega]
      simp [List.getD]
    · rw [if_neg h1]
      by_cases h2 : j < o
      · simp only [List.getD]
        rw [List.append_assoc, List.getElem?_append_left (by rw [List.length_take]; omega), List.getElem?_take_of_lt h2]
      · simp only [List.getD]
        rw [List.getElem?_append_right (by simp; omega), List.getElem?_drop]
        congr 2
        simp; omega)
/-- the walk's state: the reader, the result's block, the struct's own -/
structure Ws (w : World) (R O X : Nat) (tX : TypeId) (N : Nat) (D : List Value) (A : Option Addr) (L C : Nat) (l : List Int) (p : Pl) (E : Nat → Value) (W : World) : Prop where
  rd : At W R 3 136 A L C l p E
  dl : D.length = N
  rx : W.rowIs X tX N (fun i => D.getD i undef)
  ro : ∃ F, W.rowIs O tX N F
  gr : w.grownBy W (some R)
  hR : R < w.heap.size
  hA : ∀ x, A = some x → 0 < L → x.block < w.heap.size
  hO : w.heap.size ≤ O
  hX : O < X
section
variable {w : World} {R O X : Nat} {tX : TypeId} {N : Nat} {D : List Value} {A : Option Addr} {L C : Nat} {l : List Int} {p : Pl} {E : Nat → Value} {W : World}
theorem Ws.hXs (h : Ws w R O X tX N D A L C l p E W) : X < W.heap.size := h.rx.lt
theorem Ws.call (h : Ws w R O X tX N D A L C l p E W) {W' : World} {p' : Pl} (hr : At W' R 3 136 A L C l p' E) (hg : W.grownBy W' (some R)) : Ws w R O X tX N D A L C l p' E W' := by
  have h1 := h.hR
  have h2 := h.hO
  have h3 := h.hX
  obtain ⟨F, ho⟩ := h.ro
  exact ⟨hr, h.dl, h.rx.of_block (hg.block X h.rx.lt (fun e => by have := Option.some.inj e; omega)), ⟨F, ho.of_block (hg.block O ho.lt (fun e => by have := Option.some.inj e; omega))⟩, grown_trans h.gr hg, h1, h.hA, h2, h3⟩
theorem Ws.belowB (h : Ws w R O X tX N D A L C l p E W) {W' : World} (hb : Below (X + 1) W W') : Ws w R O X tX N D A L C l p E W' := by
  have h1 := h.hR
  have h2 := h.hO
  have h3 := h.hX
  obtain ⟨F, ho⟩ := h.ro
  exact ⟨Rdr.belowB h.rd hb (by omega) (fun x hx h0 => by have := h.hA x hx h0; omega), h.dl, h.rx.of_block (hb.block X (by omega)), ⟨F, ho.of_block (hb.block O (by omega))⟩, ⟨hb.os.trans h.gr.os, hb.tape.trans h.gr.tape, hb.output.trans h.gr.output, Nat.le_trans h.gr.size hb.size, fun i hi hne => (hb.block i (by omega)).trans (h.gr.block i hi hne)⟩, h1, h.hA, h2, h3⟩
theorem Ws.set (h : Ws w R O X tX N D A L C l p E W) (i : Nat) (v : Value) : Ws w R O X tX N (D.set i v) A L C l p E (W.setCell ⟨X, i, none⟩ v) := by
  have h1 := h.hR
  have h2 := h.hO
  have h3 := h.hX
  obtain ⟨F, ho⟩ := h.ro
  have hg := grown_set W X i v
  exact ⟨Rdr.setX h.rd X i v (by omega) (fun x hx h0 => by have := h.hA x hx h0; omega), by rw [List.length_set]; exact h.dl, row_setL h.rx h.dl i v, ⟨F, ho.setOther (a := ⟨X, i, none⟩) (fun e => by have : X = O := e.symm ▸ rfl; omega) v⟩, ⟨hg.os.trans h.gr.os, hg.tape.trans h.gr.tape, hg.output.trans h.gr.output, Nat.le_trans h.gr.size hg.size, fun j hj hne => (hg.block j (Nat.lt_of_lt_of_le hj h.gr.size) (fun e => by have := Option.some.inj e; omega)).trans (h.gr.block j hj hne)⟩, h1, h.hA, h2, h3⟩
theorem Ws.lay (h : Ws w R O X tX N D A L C l p E W) (o : Nat) (vs : List Value) (ho : o + vs.length ≤ N) : Ws w R O X tX N (layL D o vs) A L C l p E (W.setCells X o vs) := by
  have h1 := h.hR
  have h2 := h.hO
  have h3 := h.hX
  obtain ⟨F, hro⟩ := h.ro
  exact ⟨Rdr.laid (X := X) (by omega) vs o W (fun x hx h0 => by have := h.hA x hx h0; omega) h.rd, layL_len h.dl ho, row_layL h.rx h.dl o vs ho, ⟨F, row_apart (b := O) (E := X) (by omega) vs o W hro⟩, grown_laid (by omega) vs o W h.gr, h1, h.hA, h2, h3⟩
theorem Ws.drew (h : Ws w R O X tX N D A L C l p E W) (n : Nat) : Ws w R O X tX N D A L C l p E (W.drewN n) := by
  obtain ⟨F, hro⟩ := h.ro
  exact ⟨Rdr.drewN h.rd n, h.dl, h.rx, ⟨F, hro⟩, ⟨h.gr.os, h.gr.tape, h.gr.output, h.gr.size, h.gr.block⟩, h.hR, h.hA, h.hO, h.hX⟩
theorem Ws.cell (h : Ws w R O X tX N D A L C l p E W) (i : Nat) (hi : i < N) : W.cell? ⟨X, i, none⟩ = some (D.getD i undef) := h.rx.cell hi
theorem Ws.range (h : Ws w R O X tX N D A L C l p E W) : W.rangeAt X 0 D := row_range h.rx h.dl
theorem Ws.there (h : Ws w R O X tX N D A L C l p E W) (o : Nat) (vs : List Value) (ho : o + vs.length ≤ N) : W.there X o vs.toArray.size := fun j hj => by
  rw [List.size_toArray] at hj
  exact ⟨by rw [h.rx.cell (show o + j < N by omega)]; rfl, h.rx.frozen _⟩
theorem Ws.own_call {B e sz n : Nat} {v : Value} {xs : List Value} (h : Ws w R O X tX N D A L C l p E W) (ho : W.ownsRow B e sz v n xs) (hB : X < B) {W' : World} (hg : W.grownBy W' (some R)) : W'.ownsRow B e sz v n xs :=
  own_grown ho hg (fun e => by have := (ho.lt R e).1; have := h.hR; have := h.hO; have := h.hX; omega)
theorem Ws.own_set {B e sz n : Nat} {v : Value} {xs : List Value} (ho : W.ownsRow B e sz v n xs) (hB : X < B) (i : Nat) (u : Value) : (W.setCell ⟨X, i, none⟩ u).ownsRow B e sz v n xs :=
  own_grown ho (grown_set W X i u) (fun e => by have := (ho.lt X e).1; omega)
theorem Ws.own_lay {B e sz n : Nat} {v : Value} {xs : List Value} (ho : W.ownsRow B e sz v n xs) (hB : X < B) (o : Nat) (vs : List Value) : (W.setCells X o vs).ownsRow B e sz v n xs :=
  own_grown ho (grown_cells W X vs o) (fun e => by have := (ho.lt X e).1; omega)
/-- what behind an append to a row above X holds -/
theorem Ws.app (h : Ws w R O X tX N D A L C l p E W) {v : Value} {e sz n : Nat} {xs : List Value} {B : Nat} (ho : W.ownsRow B e sz v n xs) (hB : X < B) {W' : World} (hg : W.grownBy W' v.ownBlock) : Ws w R O X tX N D A L C l p E W' :=
  h.belowB ((Below.refl (X + 1) W).grown hg (by have := h.hXs; omega) (fun k hk => by have := (ho.lt k hk).1; omega))
theorem Ws.alloc (h : Ws w R O X tX N D A L C l p E W) (o : Obj) : Ws w R O X tX N D A L C l p E (W.alloc o) :=
  h.belowB ((Below.refl (X + 1) W).alloc (by have := h.hXs; omega) o)
/-- the end: the struct's cells are laid into the result's block -/
theorem Ws.fin (h : Ws w R O X tX N D A L C l p E W) {B e sz n : Nat} {v : Value} {xs : List Value} : 
    At (W.setCells O 0 D) R 3 136 A L C l p E ∧ w.grownBy (W.setCells O 0 D) (some R) ∧ (W.setCells O 0 D).heap[O]? = some (.cells D.toArray tX (0, 0)) ∧ W.there O 0 D.toArray.size ∧ (W.ownsRow B e sz v n xs → X < B → (W.setCells O 0 D).ownsRow B e sz v n xs) := by
  have h1 := h.hR
  have h2 := h.hO
  have h3 := h.hX
  obtain ⟨F, hro⟩ := h.ro
  refine ⟨Rdr.laid (X := O) (by omega) D 0 W (fun x hx h0 => by have := h.hA x hx h0; omega) h.rd, grown_laid (by omega) D 0 W h.gr, row_stored hro D h.dl, fun j hj => ?_, fun ho hB => own_grown ho (grown_cells W O D 0) (fun e => by have := (ho.lt O e).1; omega)⟩
  rw [List.size_toArray, h.dl] at hj
  rw [Nat.zero_add]
  exact ⟨by rw [hro.cell hj]; rfl, hro.frozen _⟩
end
/-- the struct's block is made and laid, the result's block stands -/
theorem Ws.of {w W : World} {R O N : Nat} {tX : TypeId} {A : Option Addr} {L C : Nat} {l : List Int} {p : Pl} {E : Nat → Value} {F : Nat → Value} {Z : Array Value} {D : List Value} (hr : At W R 3 136 A L C l p E) (ho : W.rowIs O tX N F) (hg : w.grownBy W (some R)) (hR : R < w.heap.size) (hA : ∀ x, A = some x → 0 < L → x.block < w.heap.size) (hO : w.heap.size ≤ O) (hZ : Z.size = N) (hl : D.length = N) :
    Ws w R O W.heap.size tX N D A L C l p E ((W.alloc (.cells Z tX)).setCells W.heap.size 0 D) := by
  have hb := (Below.refl W.heap.size W).alloc (Nat.le_refl _) (.cells Z tX)
  have hz := row_new W Z tX
  rw [hZ] at hz
  have hOl := ho.lt
  have hX := (row_lay hz 0 D).congr (g := fun i => D.getD i undef) (fun j hj => by rw [layF, if_pos (by omega), Nat.sub_zero])
  exact ⟨Rdr.laid (X := W.heap.size) (by omega) D 0 _ (fun x hx h0 => by have := hA x hx h0; omega) (hr.below hb), hl, hX, ⟨F, row_apart (b := O) (E := W.heap.size) (by omega) D 0 _ (ho.of_block (hb.block O hOl))⟩, grown_laid (by omega) D 0 _ (grown_trans hg ⟨hb.os, hb.tape, hb.output, hb.size, fun i hi _ => hb.block i hi⟩), hR, hA, hO, hOl⟩
end Go.Proofs.Ytmcmapgllaopmaa.Cd
end

section
namespace Go.Proofs.Ytmcmapgllaopmaa.Cd
open Go.RowKit
set_option linter.unusedVariables false
/-- the walk's state, a row of one's own above X, and a block of the round's thing -/
structure Wy (w : World) (R O X : Nat) (tX : TypeId) (N : Nat) (D : List Value) (A : Option Addr) (L C : Nat) (l : List Int) (p : Pl) (E : Nat → Value) (e sz n : Nat) (v : Value) (xs : List Value) (Y : Nat) (tY : TypeId) (NY : Nat) (DY : List Value) (W : World) : Prop where
  ws : Ws w R O X tX N D A L C l p E W
  own : W.ownsRow (X + 1) e sz v n xs
  yl : DY.length = NY
  ry : W.rowIs Y tY NY (fun i => DY.getD i undef)
  hY : X < Y
  ne : v.ownBlock ≠ some Y
section
variable {w : World} {R O X : Nat} {tX : TypeId} {N : Nat} {D : List Value} {A : Option Addr} {L C : Nat} {l : List Int} {p : Pl} {E : Nat → Value} {e sz n : Nat} {v : Value} {xs : List Value} {Y : Nat} {tY : TypeId} {NY : Nat} {DY : List Value} {W : World}
theorem Ws.belowY (h : Ws w R O X tX N D A L C l p E W) (hY : X < Y) (o : Nat) (vs : List Value) : Ws w R O X tX N D A L C l p E (W.setCells Y o vs) :=
  h.belowB ((Below.refl (X + 1) W).grown (grown_cells W Y vs o) (by have := h.hXs; omega) (fun k hk => by have := Option.some.inj hk; omega))
/-- the block is made and laid -/
theorem Wy.new (h : Ws w R O X tX N D A L C l p E W) (ho : W.ownsRow (X + 1) e sz v n xs) {Z : Array Value} (hZ : Z.size = NY) (hl : DY.length = NY) : Wy w R O X tX N D A L C l p E e sz n v xs W.heap.size tY NY DY ((W.alloc (.cells Z tY)).setCells W.heap.size 0 DY) := by
  have hz := row_new W Z tY
  rw [hZ] at hz
  have hXs := h.hXs
  have hne : v.ownBlock ≠ some W.heap.size := fun e => by have := (ho.lt _ e).2; omega
  have hb := (Below.refl W.heap.size W).alloc (Nat.le_refl _) (.cells Z tY)
  exact ⟨(h.alloc _).belowY hXs 0 DY, own_grown (own_keep ho hb) (grown_cells _ W.heap.size DY 0) hne, hl, (row_lay hz 0 DY).congr (fun j hj => by rw [layF, if_pos (by omega), Nat.sub_zero]), hXs, hne⟩
theorem Wy.call (h : Wy w R O X tX N D A L C l p E e sz n v xs Y tY NY DY W) {W' : World} {p' : Pl} (hr : At W' R 3 136 A L C l p' E) (hg : W.grownBy W' (some R)) : Wy w R O X tX N D A L C l p' E e sz n v xs Y tY NY DY W' := by
  have h1 := h.ws.hR
  have h2 := h.ws.hO
  have h3 := h.ws.hX
  have h4 := h.hY
  exact ⟨h.ws.call hr hg, h.ws.own_call h.own (Nat.lt_succ_self X) hg, h.yl, h.ry.of_block (hg.block Y h.ry.lt (fun e => by have := Option.some.inj e; omega)), h4, h.ne⟩
theorem Wy.drew (h : Wy w R O X tX N D A L C l p E e sz n v xs Y tY NY DY W) (k : Nat) : Wy w R O X tX N D A L C l p E e sz n v xs Y tY NY DY (W.drewN k) :=
  ⟨h.ws.drew k, ⟨h.own.1, h.own.2⟩, h.yl, h.ry, h.hY, h.ne⟩
theorem Wy.lay (h : Wy w R O X tX N D A L C l p E e sz n v xs Y tY NY DY W) (o : Nat) (vs : List Value) (ho : o + vs.length ≤ NY) : Wy w R O X tX N D A L C l p E e sz n v xs Y tY NY (layL DY o vs) (W.setCells Y o vs) :=
  ⟨h.ws.belowY h.hY o vs, own_grown h.own (grown_cells W Y vs o) h.ne, layL_len h.yl ho, row_layL h.ry h.yl o vs ho, h.hY, h.ne⟩
theorem Wy.set (h : Wy w R O X tX N D A L C l p E e sz n v xs Y tY NY DY W) (i : Nat) (u : Value) : Wy w R O X tX N D A L C l p E e sz n v xs Y tY NY (DY.set i u) (W.setCell ⟨Y, i, none⟩ u) :=
  ⟨h.ws.belowY h.hY i [u], own_grown h.own (grown_set W Y i u) h.ne, by rw [List.length_set]; exact h.yl, row_setL h.ry h.yl i u, h.hY, h.ne⟩
theorem Wy.range (h : Wy w R O X tX N D A L C l p E e sz n v xs Y tY NY DY W) : W.rangeAt Y 0 DY := row_range h.ry h.yl
theorem Wy.there (h : Wy w R O X tX N D A L C l p E e sz n v xs Y tY NY DY W) (o : Nat) (vs : List Value) (ho : o + vs.length ≤ NY) : W.there Y o vs.toArray.size := fun j hj => by
  rw [List.size_toArray] at hj
  exact ⟨by rw [h.ry.cell (show o + j < NY by omega)]; rfl, h.ry.frozen _⟩
/-- the row has one more behind it, and the struct's cell tells it -/
theorem Wy.app (h : Wy w R O X tX N D A L C l p E e sz n v xs Y tY NY DY W) {W' W2 : World} {v' : Value} {n' : Nat} {xs' : List Value} (hb : Below W.heap.size W W2) (ho : W'.ownsRow (X + 1) e sz v' n' xs') (hg : W2.grownBy W' v.ownBlock) (i : Nat) :
    Ws w R O X tX N (D.set i v') A L C l p E (W'.setCell ⟨X, i, none⟩ v') ∧ (W'.setCell ⟨X, i, none⟩ v').ownsRow (X + 1) e sz v' n' xs' := by
  have hXs := h.ws.hXs
  have h1 := h.ws.belowB (hb.mono (by omega))
  have h2 := own_keep h.own hb
  have h3 := h1.app h2 (Nat.lt_succ_self X) hg
  exact ⟨h3.set i v', Ws.own_set ho (Nat.lt_succ_self X) i v'⟩
end
def tdN (k : Nat) : List Value := Td.cells ⟨(k : Int), List.replicate 32 0⟩
theorem tdN_len (k : Nat) : (tdN k).length = 33 := by simp [tdN, Td.cells, bv_len]
theorem tdN_lay (k : Nat) (x : List Int) (hx : x.length = 32) : layL (tdN k) 1 (bv x) = Td.cells ⟨(k : Int), x⟩ := by
  simp [layL, tdN, Td.cells, bv_len, hx]
theorem zeroTdZ (w : World) : (zeroValue 84).run Try.prog w = .ok (.agg tdZ.toArray) w := by kernel_rfl
theorem tdZ_size : tdZ.toArray.size = 33 := by rw [List.size_toArray]; exact rowTd.zl
set_option maxRecDepth 100000 in
theorem built_td (k : Nat) : Try.prog.built 84 [(0, .int .i64 (k : Int))] = some (tdN k).toArray := by rfl
end Go.Proofs.Ytmcmapgllaopmaa.Cd
end
