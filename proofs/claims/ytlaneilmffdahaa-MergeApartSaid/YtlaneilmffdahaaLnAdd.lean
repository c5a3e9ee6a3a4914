/- A script's add, walked. -/
import Derived.Test.YtlaneilmffdahaaLnKit
namespace Go.Proofs.Ytlaneilmffdahaa.Ln
open Go.RowKit
set_option linter.unusedVariables false
theorem info48 : (Try.prog.info? 82).map (fun i => (i.zero, i.size, i.bytes)) = some (some (.agg #[.int .i64 0, .int .i64 0]), 2, 16) := by kernel_rfl
/-- the script behind S is l; nothing below B turned, nor a block of another kind -/
def AddRet (B S : Nat) (l : List (Nat × Nat)) (w : World) (e : Ending) (w' : World) : Prop :=
  e = .returned (.tuple #[]) ∧ Scr w' B S l ∧ Below B w w' ∧ Kp [89, 82] w w'
set_option maxHeartbeats 400000 in
theorem add_zero_any (B S : Nat) (l : List (Nat × Nat)) (op : Nat) (w : World) (h : Scr w B S l) :
    Calls Try.prog 52 #[.pointer (some ⟨S, 0, none⟩), .int .i64 op, .int .i64 0] w (AddRet B S l w) := by
  obtain ⟨v, hB, hS, ho, ht⟩ := h
  have hc := cell_of_one hS
  have hf := free_of_one hS
  have H := Lib.hid (show Scr w B S l from ⟨v, hB, hS, ho, ht⟩)
  have hv : ∃ A n c, v = .slice A n c := by
    rcases ho.2 with ⟨rfl, _⟩ | ⟨g, cap, cur, rfl, _⟩ <;> exact ⟨_, _, _, rfl⟩
  obtain ⟨A, n, c, rfl⟩ := hv
  clear hS ho ht
  go_enter Try.func52, Try.ntmps52
  go_wp2
  go_end0
  exact ⟨rfl, H.out, Below.refl _ _, Kp.refl _ _⟩
theorem own_last {w : World} {B g : Nat} {A : Option Addr} {N c k o : Nat} {l : List (Nat × Nat)} (h : w.ownsRow B 82 2 (.slice A N c) (l ++ [(o, k)]).length (ed (l ++ [(o, k)]))) :
    ∃ g, A = some ⟨g, 0, none⟩ ∧ N = l.length + 1 ∧ l.length + 1 ≤ c ∧ c ≤ maxLen ∧ w.cell? ⟨g, l.length * 2, none⟩ = some (.int .i64 o) ∧ w.cell? ⟨g, l.length * 2 + 1, none⟩ = some (.int .i64 k) ∧ w.frozen? ⟨g, l.length * 2 + 1, none⟩ = false := by
  rcases h.2 with ⟨hv, h0⟩ | ⟨g, cap, cur, hv, hg, hh, hc1, hc2, hc3, ht⟩
  · simp at h0
  · simp only [Value.slice.injEq] at hv
    obtain ⟨rfl, hN, rfl⟩ := hv
    have hN' : N = l.length + 1 := by simpa using hN
    subst hN'
    have hl : l.length < (l ++ [(o, k)]).length := by simp
    have h1 := ed_get (l ++ [(o, k)]) l.length hl
    simp only [List.getElem_concat_length] at h1
    have hown : w.ownsRow B 82 2 (.slice (some ⟨g, 0, none⟩) (l ++ [(o, k)]).length c) (l ++ [(o, k)]).length (ed (l ++ [(o, k)])) := by
      have e : (l ++ [(o, k)]).length = l.length + 1 := by simp
      rw [e] at h ⊢
      exact h
    refine ⟨g, rfl, rfl, by simpa using hc1, hc2, ?_, ?_, hown.frozenAt _⟩
    · rw [hown.cellAt _ (by simp)]; exact h1.1
    · rw [hown.cellAt _ (by simp; omega)]; exact h1.2
theorem ed_set (l : List (Nat × Nat)) (op k m : Nat) : (ed (l ++ [(op, k)])).set (l.length * 2 + 1) (.int .i64 ((m : Nat) : Int)) = ed (l ++ [(op, m)]) := by
  have e : ∀ q : Nat, ed (l ++ [(op, q)]) = ed l ++ [.int .i64 (op : Int), .int .i64 (q : Int)] := by intro q; rw [ed_append]; rfl
  rw [e, e, List.set_append_right _ _ (by rw [ed_length]; omega), ed_length, show l.length * 2 + 1 - l.length * 2 = 1 from by omega]
  rfl
theorem bump {w : World} {B S g c : Nat} {l : List (Nat × Nat)} {op k n : Nat} (h : ScrV w B S (.slice (some ⟨g, 0, none⟩) (l.length + 1) c) (l ++ [(op, k)])) :
    AddRet B S (l ++ [(op, k + n)]) w (.returned (.tuple #[])) (w.setCell ⟨g, l.length * 2 + 1, none⟩ (.int .i64 ((k : Int) + (n : Int)))) := by
  obtain ⟨hB, hS, ho, ht⟩ := h
  have el : (l ++ [(op, k)]).length = l.length + 1 := by simp
  rw [el] at ho
  have hs := (ho.stored (l.length * 2 + 1) (.int .i64 ((k + n : Nat) : Int))).1
  have hg := (ho.stored (l.length * 2 + 1) (.int .i64 ((k + n : Nat) : Int))).2
  rw [ed_set] at hs
  rw [show ((k : Int) + (n : Int)) = ((k + n : Nat) : Int) from by omega]
  have hgB : B ≤ g := (ho.lt g rfl).1
  have hgg : ∃ cur, w.heap[g]? = some (.cells cur 82 (0, 0)) := by
    rcases ho.2 with ⟨hv, _⟩ | ⟨g', cap', cur, hv, _, hh, _⟩
    · simp at hv
    · simp only [Value.slice.injEq, Option.some.injEq, Addr.mk.injEq, and_true] at hv
      obtain ⟨rfl, _⟩ := hv
      exact ⟨cur, hh⟩
  obtain ⟨cur, hh⟩ := hgg
  have hne : S ≠ g := by
    rintro rfl
    rw [hS] at hh
    simp at hh
  refine ⟨rfl, ⟨.slice (some ⟨g, 0, none⟩) (l.length + 1) c, hB, ?_, ?_, ?_⟩, (Below.refl _ _).setCell hgB _, (Kp.refl _ w).set_one hh (by simp) _⟩
  · rw [Below.heap_setCell _ _ _ _ hne]; exact hS
  · have e2 : (l ++ [(op, k + n)]).length = l.length + 1 := by simp
    rw [e2]; exact hs
  · have := add_tot (l ++ [(op, k)]) op n
    rw [tot_append] at ht ⊢
    simp [tot] at ht ⊢
    omega
set_option maxHeartbeats 400000 in
theorem add_same_any (B S : Nat) (l : List (Nat × Nat)) (op k n : Nat) (w : World) (h : Scr w B S (l ++ [(op, k)])) (hn : 0 < n) (hT : tot (l ++ [(op, k)]) + n ≤ 1000000) (hop : op ≤ 2) :
    Calls Try.prog 52 #[.pointer (some ⟨S, 0, none⟩), .int .i64 op, .int .i64 n] w (AddRet B S (l ++ [(op, k + n)]) w) := by
  obtain ⟨v, hB, hS, ho, ht⟩ := h
  have hv : ∃ A n c, v = .slice A n c := by
    rcases ho.2 with ⟨rfl, _⟩ | ⟨g, cap, cur, rfl, _⟩ <;> exact ⟨_, _, _, rfl⟩
  obtain ⟨A, N, c, rfl⟩ := hv
  obtain ⟨g, rfl, rfl, hcap, hmax, c1, c2, f2⟩ := own_last (g := 0) ho
  have hc := cell_of_one hS
  have hf := free_of_one hS
  have hk : k + n ≤ 1000000 := by rw [tot_append] at hT; simp [tot] at hT; omega
  have hl : l.length ≤ 1000000 := by simp at ht; omega
  have hn0 : ((n : Int) == 0) = false := by simp; omega
  have HO := Lib.hid ho
  have HS := Lib.hid hS
  have HT := Lib.hid ht
  unfold maxLen at hmax
  clear ho hS ht hT
  go_enter Try.func52, Try.ntmps52
  go_wp2
  go_end0
  exact bump ⟨hB, HS.out, HO.out, HT.out⟩
theorem own_slice {w : World} {B e sz n : Nat} {v : Value} {xs : List Value} (h : w.ownsRow B e sz v n xs) : ∃ A N c, v = .slice A N c := by
  rcases h.2 with ⟨rfl, _⟩ | ⟨g, cap, cur, rfl, _⟩ <;> exact ⟨_, _, _, rfl⟩
theorem new_two (w : World) (e : TypeId) (x y : Value) : ∀ j u, [x, y][j]? = some u → (w.alloc (.cells #[x, y] e)).cell? (Addr.add ⟨w.heap.size, 0, none⟩ j) = some u := by
  intro j u hj
  rw [show Addr.add ⟨w.heap.size, 0, none⟩ j = (⟨w.heap.size, j, none⟩ : Addr) from by simp [Addr.add]; omega, World.cell?_alloc_new]
  simpa using hj
theorem two_one (x y : Int) : ∀ u ∈ [Value.int .i64 x, Value.int .i64 y], u.oneCell' = true := by
  intro u hu
  simp at hu
  rcases hu with rfl | rfl <;> rfl
/-- behind the append -/
theorem pushed {w wa w' : World} {B S : Nat} {l l' : List (Nat × Nat)} {v v' : Value} {x : Nat × Nat} (h : ScrV w B S v l) (hl : l' = l ++ [x]) (hx : 0 < x.2) {o : Obj} (hwa : wa = w.alloc o) (ho : w'.ownsRow B 82 2 v' (l.length + 1) (ed l ++ ed [x])) (hg : wa.grownBy w' v.ownBlock) :
    AddRet B S l' w (.returned (.tuple #[])) (w'.setCell ⟨S, 0, none⟩ v') := by
  subst hwa
  subst hl
  obtain ⟨hB, hS, hown, ht⟩ := h
  have hBs : B ≤ w.heap.size := Nat.le_trans hB (Nat.le_of_lt (lt_of_block hS))
  have k1 : Kp [82] w w' := ((Kp.refl _ w).alloc o).grown (hown.alloc o) hg (by simp)
  have b1 : Below B w w' := ((Below.refl B w).alloc hBs o).trans (below_grown (by simp; omega) (hown.alloc o) hg)
  have hS' := k1.block _ _ _ _ hS (by decide)
  refine ⟨rfl, ⟨v', hB, one_setCell hS', ?_, ?_⟩, b1.setCell hB _, (k1.mono (by simp)).set_one hS' (by simp) _⟩
  · rw [ed_append, List.length_append]
    exact ownsRow_setCell_other ho (by
      intro e
      rcases ho.2 with ⟨rfl, _⟩ | ⟨g', cap', cur, rfl, _, hh, _⟩
      · simp [Value.ownBlock] at e
      · simp [Value.ownBlock] at e
        subst e
        rw [hS'] at hh
        simp at hh) _
  · rw [tot_append, List.length_append]
    simp [tot] at ht ⊢
    omega
set_option maxHeartbeats 400000 in
theorem add_other_any (B S : Nat) (l : List (Nat × Nat)) (o op k n : Nat) (w : World) (h : Scr w B S (l ++ [(o, k)])) (hn : 0 < n) (hT : tot (l ++ [(o, k)]) + n ≤ 1000000) (hop : op ≤ 2) (hne : o ≠ op) :
    Calls Try.prog 52 #[.pointer (some ⟨S, 0, none⟩), .int .i64 op, .int .i64 n] w (AddRet B S (l ++ [(o, k)] ++ [(op, n)]) w) := by
  obtain ⟨i0, hi, hz0, hz1, hz2⟩ := info_parts info48
  obtain ⟨v, hB, hS, ho, ht⟩ := h
  have hv : ∃ A n c, v = .slice A n c := by
    rcases ho.2 with ⟨rfl, _⟩ | ⟨g, cap, cur, rfl, _⟩ <;> exact ⟨_, _, _, rfl⟩
  obtain ⟨A, N, c, rfl⟩ := hv
  obtain ⟨g, rfl, rfl, hcap, hmax, c1, c2, f2⟩ := own_last (g := 0) ho
  have hc := cell_of_one hS
  have hf := free_of_one hS
  have hl : l.length ≤ 1000000 := by simp at ht; omega
  have hn0 : ((n : Int) == 0) = false := by simp; omega
  have hoo : ((o : Int) == (op : Int)) = false := by simp; omega
  have HO := Lib.hid ho
  have HS := Lib.hid hS
  have HT := Lib.hid ht
  have el : (l ++ [(o, k)]).length = l.length + 1 := by simp
  have HV : Hid (ScrV w B S (.slice (some ⟨g, 0, none⟩) (l.length + 1) c) (l ++ [(o, k)])) := Lib.hid ⟨hB, hS, ho, ht⟩
  rw [el] at ho
  have HO2 := Lib.hid ho
  have hlt := lt_of_block hS
  unfold maxLen at hmax
  clear ho hS ht hT hne el
  go_enter Try.func52, Try.ntmps52
  go_wp2_with (at_builtin; refine wpList_append_own _ rfl _ _ 89 rfl B 82 i0 (.agg #[.int .i64 0, .int .i64 0]) 2 16 Try.underlying89 hi hz0 hz1 hz2 rfl (by decide) _ (l.length + 1) _ rfl (HO2.out.alloc _) ⟨w.heap.size, 0, none⟩ 1 1 [.int .i64 op, .int .i64 n] rfl rfl ?c1 ?c2 ?c3 ?c4 ?c5 ?_)
  case c1 => exact new_two w _ _ _
  case c2 => exact two_one _ _
  case c3 => unfold maxLen; omega
  case c4 => omega
  case c5 => simp; omega
  intro v' w1 hown' hgrow hnil
  obtain ⟨A', N', C', rfl⟩ := own_slice hown'
  have hS1 : w1.heap[S]? = some (.cells #[.slice (some ⟨g, 0, none⟩) (l.length + 1) c] 89 (0, 0)) := (((Kp.refl [82] w).alloc _).grown (HO2.out.alloc _) hgrow (by simp)).block _ _ _ _ HS.out (by decide)
  have hc1 := cell_of_one hS1
  have hf1 := free_of_one hS1
  have HO3 := Lib.hid hown'
  have HG := Lib.hid hgrow
  clear hown' hgrow hnil hS1 hc hf
  go_wp2
  go_end0
  refine pushed (x := (op, n)) HV.out (by simp) hn rfl ?_ HG.out
  rw [show (l ++ [(o, k)]).length = l.length + 1 from by simp]
  exact HO3.out
set_option maxHeartbeats 400000 in
theorem add_nil_any (B S : Nat) (op n : Nat) (w : World) (h : Scr w B S []) (hn : 0 < n) (hT : n ≤ 1000000) (hop : op ≤ 2) :
    Calls Try.prog 52 #[.pointer (some ⟨S, 0, none⟩), .int .i64 op, .int .i64 n] w (AddRet B S [(op, n)] w) := by
  obtain ⟨i0, hi, hz0, hz1, hz2⟩ := info_parts info48
  obtain ⟨v, hB, hS, ho, ht⟩ := h
  have hv : ∃ A c, v = .slice A 0 c := by
    rcases ho.2 with ⟨rfl, _⟩ | ⟨g, cap, cur, rfl, _⟩ <;> exact ⟨_, _, rfl⟩
  obtain ⟨A, c, rfl⟩ := hv
  have hc := cell_of_one hS
  have hf := free_of_one hS
  have hn0 : ((n : Int) == 0) = false := by simp; omega
  have HS := Lib.hid hS
  have HV : Hid (ScrV w B S (.slice A 0 c) []) := Lib.hid ⟨hB, hS, ho, ht⟩
  have HO2 := Lib.hid ho
  have hlt := lt_of_block hS
  clear ho hS ht
  go_enter Try.func52, Try.ntmps52
  go_wp2_with (at_builtin; refine wpList_append_own _ rfl _ _ 89 rfl B 82 i0 (.agg #[.int .i64 0, .int .i64 0]) 2 16 Try.underlying89 hi hz0 hz1 hz2 rfl (by decide) _ 0 _ rfl (HO2.out.alloc _) ⟨w.heap.size, 0, none⟩ 1 1 [.int .i64 op, .int .i64 n] rfl rfl ?c1 ?c2 ?c3 ?c4 ?c5 ?_)
  case c1 => exact new_two w _ _ _
  case c2 => exact two_one _ _
  case c3 => unfold maxLen; omega
  case c4 => omega
  case c5 => simp; omega
  intro v' w1 hown' hgrow hnil
  obtain ⟨A', N', C', rfl⟩ := own_slice hown'
  have hS1 : w1.heap[S]? = some (.cells #[.slice A 0 c] 89 (0, 0)) := (((Kp.refl [82] w).alloc _).grown (HO2.out.alloc _) hgrow (by simp)).block _ _ _ _ HS.out (by decide)
  have hc1 := cell_of_one hS1
  have hf1 := free_of_one hS1
  have HO3 := Lib.hid hown'
  have HG := Lib.hid hgrow
  clear hown' hgrow hnil hS1 hc hf
  go_wp2
  go_end0
  exact pushed (x := (op, n)) HV.out rfl hn rfl HO3.out HG.out
/-- add, whatever the script -/
theorem add_any (B S : Nat) (l : List (Nat × Nat)) (op : Nat) (n : Int) (w : World) (h : Scr w B S l) (h0 : 0 ≤ n) (hT : tot l + n ≤ 1000000) (hop : op ≤ 2) :
    Calls Try.prog 52 #[.pointer (some ⟨S, 0, none⟩), .int .i64 op, .int .i64 n] w (AddRet B S (add l op n.toNat) w) := by
  obtain ⟨n, rfl⟩ := Int.eq_ofNat_of_zero_le h0
  rw [Int.toNat_natCast]
  by_cases hn : n = 0
  · subst hn
    rw [add_zero]
    exact add_zero_any B S l op w h
  rcases List.eq_nil_or_concat l with rfl | ⟨l', ⟨o, k⟩, rfl⟩
  · rw [add_nil op n (by omega)]
    exact add_nil_any B S op n w h (by omega) (by simp [tot] at hT; omega) hop
  · rw [List.concat_eq_append] at h hT ⊢
    by_cases e : o = op
    · subst e
      rw [add_same l' o n k (by omega)]
      exact add_same_any B S l' o k n w h (by omega) (by omega) hop
    · rw [add_other l' o op n k (by omega) e]
      exact add_other_any B S l' o op k n w h (by omega) (by omega) hop e
end Go.Proofs.Ytlaneilmffdahaa.Ln
