/- The document's run, walked. -/
import Derived.Test.YtlaneilmffdahaaLnAdd
namespace Go.Proofs.Ytlaneilmffdahaa.Ln
open Go.RowKit
set_option linter.unusedVariables false
/-- a script of the call's own, handed back -/
def RunRet (B : Nat) (l : List (Nat × Nat)) (w : World) (e : Ending) (w' : World) : Prop :=
  ∃ v, e = .returned v ∧ w'.ownsRow B 82 2 v l.length (ed l) ∧ l.length ≤ tot l ∧ Below B w w' ∧ Kp [82] w w'
theorem run_bump {w : World} {B g c : Nat} {l : List (Nat × Nat)} {op k : Nat} (ho : w.ownsRow B 82 2 (.slice (some ⟨g, 0, none⟩) (l.length + 1) c) (l.length + 1) (ed (l ++ [(op, k)]))) (ht : (l ++ [(op, k)]).length ≤ tot (l ++ [(op, k)])) :
    RunRet B (l ++ [(op, k + 1)]) w (.returned (.slice (some ⟨g, 0, none⟩) (l.length + 1) c)) (w.setCell ⟨g, l.length * 2 + 1, none⟩ (.int .i64 ((k : Int) + 1))) := by
  have hs := (ho.stored (l.length * 2 + 1) (.int .i64 ((k + 1 : Nat) : Int))).1
  rw [ed_set] at hs
  rw [show ((k : Int) + 1) = ((k + 1 : Nat) : Int) from by omega]
  have hgB : B ≤ g := (ho.lt g rfl).1
  have hgg : ∃ cur, w.heap[g]? = some (.cells cur 82 (0, 0)) := by
    rcases ho.2 with ⟨hv, _⟩ | ⟨g', cap', cur, hv, _, hh, _⟩
    · simp at hv
    · simp only [Value.slice.injEq, Option.some.injEq, Addr.mk.injEq, and_true] at hv
      obtain ⟨rfl, _⟩ := hv
      exact ⟨cur, hh⟩
  obtain ⟨cur, hh⟩ := hgg
  refine ⟨_, rfl, ?_, ?_, (Below.refl _ _).setCell hgB _, (Kp.refl _ w).set_one hh (by simp) _⟩
  · have e2 : (l ++ [(op, k + 1)]).length = l.length + 1 := by simp
    rw [e2]; exact hs
  · rw [tot_append] at ht ⊢
    simp [tot] at ht ⊢
    omega
theorem run_pushed {w w' : World} {B : Nat} {l l' : List (Nat × Nat)} {v v' : Value} {x : Nat × Nat} (hown : w.ownsRow B 82 2 v l.length (ed l)) (ht : l.length ≤ tot l) (hBs : B ≤ w.heap.size) (hl : l' = l ++ [x]) (hx : 0 < x.2) {o : Obj} (ho : w'.ownsRow B 82 2 v' (l.length + 1) (ed l ++ ed [x])) (hg : (w.alloc o).grownBy w' v.ownBlock) :
    RunRet B l' w (.returned v') w' := by
  subst hl
  refine ⟨v', rfl, ?_, ?_, ((Below.refl B w).alloc hBs o).trans (below_grown (by simp; omega) (hown.alloc o) hg), ((Kp.refl _ w).alloc o).grown (hown.alloc o) hg (by simp)⟩
  · rw [ed_append, List.length_append]; exact ho
  · rw [tot_append, List.length_append]
    simp [tot] at ht ⊢
    omega
set_option maxHeartbeats 400000 in
theorem run_same_any (B : Nat) (v : Value) (l : List (Nat × Nat)) (op k : Nat) (w : World) (ho : w.ownsRow B 82 2 v (l ++ [(op, k)]).length (ed (l ++ [(op, k)]))) (ht : (l ++ [(op, k)]).length ≤ tot (l ++ [(op, k)])) (hT : tot (l ++ [(op, k)]) + 1 ≤ 1000000) :
    Calls Try.prog 56 #[v, .int .i64 op] w (RunRet B (l ++ [(op, k + 1)]) w) := by
  obtain ⟨A, N, c, rfl⟩ := own_slice ho
  obtain ⟨g, rfl, rfl, hcap, hmax, c1, c2, f2⟩ := own_last (g := 0) ho
  have hk : k + 1 ≤ 1000000 := by rw [tot_append] at hT; simp [tot] at hT; omega
  have hl : l.length ≤ 1000000 := by simp at ht; omega
  rw [show (l ++ [(op, k)]).length = l.length + 1 from by simp] at ho
  have HO := Lib.hid ho
  have HT := Lib.hid ht
  unfold maxLen at hmax
  clear ho ht hT
  go_enter Try.func56, Try.ntmps56
  go_wp2
  go_ret
  exact run_bump HO.out HT.out
set_option maxHeartbeats 400000 in
theorem run_other_any (B : Nat) (v : Value) (l : List (Nat × Nat)) (o op k : Nat) (w : World) (ho : w.ownsRow B 82 2 v (l ++ [(o, k)]).length (ed (l ++ [(o, k)]))) (ht : (l ++ [(o, k)]).length ≤ tot (l ++ [(o, k)])) (hT : tot (l ++ [(o, k)]) + 1 ≤ 1000000) (hB : B ≤ w.heap.size) (hne : o ≠ op) :
    Calls Try.prog 56 #[v, .int .i64 op] w (RunRet B (l ++ [(o, k)] ++ [(op, 1)]) w) := by
  obtain ⟨i0, hi, hz0, hz1, hz2⟩ := info_parts info48
  obtain ⟨A, N, c, rfl⟩ := own_slice ho
  obtain ⟨g, rfl, rfl, hcap, hmax, c1, c2, f2⟩ := own_last (g := 0) ho
  have hl : l.length ≤ 1000000 := by simp at ht; omega
  have hoo : ((o : Int) == (op : Int)) = false := by simp; omega
  have HO := Lib.hid ho
  have HT := Lib.hid ht
  rw [show (l ++ [(o, k)]).length = l.length + 1 from by simp] at ho
  have HO2 := Lib.hid ho
  unfold maxLen at hmax
  clear ho ht hT hne
  go_enter Try.func56, Try.ntmps56
  go_wp2_with (at_builtin; refine wpList_append_own _ rfl _ _ 78 rfl B 82 i0 (.agg #[.int .i64 0, .int .i64 0]) 2 16 Try.underlying78 hi hz0 hz1 hz2 rfl (by decide) _ (l.length + 1) _ rfl (HO2.out.alloc _) ⟨w.heap.size, 0, none⟩ 1 1 [.int .i64 op, .int .i64 1] rfl rfl ?c1 ?c2 ?c3 ?c4 ?c5 ?_)
  case c1 => exact new_two w _ _ _
  case c2 => exact two_one _ _
  case c3 => unfold maxLen; omega
  case c4 => omega
  case c5 => simp; omega
  intro v' w1 hown' hgrow hnil
  have HR : Hid (RunRet B (l ++ [(o, k)] ++ [(op, 1)]) w (.returned v') w1) := Lib.hid (run_pushed (x := (op, 1)) HO.out HT.out hB rfl (by simp) (by rw [show (l ++ [(o, k)]).length = l.length + 1 from by simp]; exact hown') hgrow)
  clear hown' hgrow hnil
  go_wp2
  go_ret
  exact HR.out
set_option maxHeartbeats 400000 in
theorem run_nil_any (B : Nat) (v : Value) (op : Nat) (w : World) (ho : w.ownsRow B 82 2 v 0 (ed [])) (hB : B ≤ w.heap.size) :
    Calls Try.prog 56 #[v, .int .i64 op] w (RunRet B [(op, 1)] w) := by
  obtain ⟨i0, hi, hz0, hz1, hz2⟩ := info_parts info48
  have hv : ∃ A c, v = .slice A 0 c := by
    rcases ho.2 with ⟨rfl, _⟩ | ⟨g, cap, cur, rfl, _⟩ <;> exact ⟨_, _, rfl⟩
  obtain ⟨A, c, rfl⟩ := hv
  have HO := Lib.hid ho
  clear ho
  go_enter Try.func56, Try.ntmps56
  go_wp2_with (at_builtin; refine wpList_append_own _ rfl _ _ 78 rfl B 82 i0 (.agg #[.int .i64 0, .int .i64 0]) 2 16 Try.underlying78 hi hz0 hz1 hz2 rfl (by decide) _ 0 _ rfl (HO.out.alloc _) ⟨w.heap.size, 0, none⟩ 1 1 [.int .i64 op, .int .i64 1] rfl rfl ?c1 ?c2 ?c3 ?c4 ?c5 ?_)
  case c1 => exact new_two w _ _ _
  case c2 => exact two_one _ _
  case c3 => unfold maxLen; omega
  case c4 => omega
  case c5 => simp; omega
  intro v' w1 hown' hgrow hnil
  have HR : Hid (RunRet B [(op, 1)] w (.returned v') w1) := Lib.hid (run_pushed (l := []) (x := (op, 1)) HO.out (by simp) hB rfl (by simp) hown' hgrow)
  clear hown' hgrow hnil
  go_wp2
  go_ret
  exact HR.out
/-- run, whatever the script -/
theorem run_any (B : Nat) (v : Value) (l : List (Nat × Nat)) (op : Int) (w : World) (ho : w.ownsRow B 82 2 v l.length (ed l)) (ht : l.length ≤ tot l) (hT : tot l + 1 ≤ 1000000) (hB : B ≤ w.heap.size) (o0 : 0 ≤ op) :
    Calls Try.prog 56 #[v, .int .i64 op] w (RunRet B (add l op.toNat 1) w) := by
  obtain ⟨op, rfl⟩ := Int.eq_ofNat_of_zero_le o0
  rw [Int.toNat_natCast]
  rcases List.eq_nil_or_concat l with rfl | ⟨l', ⟨o, k⟩, rfl⟩
  · rw [add_nil op 1 (by omega)]
    exact run_nil_any B v op w ho hB
  · rw [List.concat_eq_append] at ho ht hT ⊢
    by_cases e : o = op
    · subst e
      rw [add_same l' o 1 k (by omega)]
      exact run_same_any B v l' o k w ho ht hT
    · rw [add_other l' o op 1 k (by omega) e]
      exact run_other_any B v l' o op k w ho ht hT hB e
end Go.Proofs.Ytlaneilmffdahaa.Ln
