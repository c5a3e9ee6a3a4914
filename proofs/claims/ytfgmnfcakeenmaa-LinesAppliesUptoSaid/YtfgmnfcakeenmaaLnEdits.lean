/- Edits that came in, copied to a row of the call's own. -/
import Derived.Test.YtfgmnfcakeenmaaLnRApply
import Derived.Test.YtfgmnfcakeenmaaLnAdded
namespace Go.Proofs.Ytfgmnfcakeenmaa.Ln
open Go.RowKit
set_option linter.unusedVariables false

theorem apS_len {α : Type} : ∀ (prev : Option Int) (a : List α) (e : List (Int × Int)) (d out : List α), (apS prev a e d out).1.length ≤ a.length + d.length + out.length
  | prev, a, [], d, out => by
      rw [apS]; split <;> simp
  | prev, a, (op, n) :: e, d, out => by
      have h1 := apS_len (some op) a e (d.drop n.toNat) (out ++ d.take n.toNat)
      have h2 := apS_len (some op) (a.drop n.toNat) e d (out ++ a.take n.toNat)
      have h3 := apS_len (some op) (a.drop n.toNat) e d out
      simp only [List.length_append, List.length_drop, List.length_take] at h1 h2 h3
      rw [apS]
      split
      · simp
      split
      · simp
      split
      · simp
      split
      · split
        · simp
        · omega
      · split
        · simp
        · split
          · omega
          · omega

def zed (l : List (Int × Int)) : List Value := l.flatMap fun x => [.int .i64 x.1, .int .i64 x.2]
theorem zed_length (l : List (Int × Int)) : (zed l).length = l.length * 2 := by
  unfold zed
  induction l with
  | nil => rfl
  | cons x l ih => simp only [List.flatMap_cons, List.length_append, ih, List.length_cons, List.length_nil]; omega
theorem zed_get (l : List (Int × Int)) (i : Nat) (h : i < l.length) : (zed l)[i * 2]? = some (.int .i64 l[i].1) ∧ (zed l)[i * 2 + 1]? = some (.int .i64 l[i].2) := by
  induction l generalizing i with
  | nil => simp at h
  | cons x l ih =>
    have e : zed (x :: l) = .int .i64 x.1 :: .int .i64 x.2 :: zed l := rfl
    cases i with
    | zero => simp [e]
    | succ i =>
      have := ih i (by simpa using h)
      rw [e, show (i + 1) * 2 = i * 2 + 1 + 1 from by omega]
      simpa using this
theorem zed_one (l : List (Int × Int)) : ∀ u ∈ zed l, u.oneCell' = true := by
  intro u hu
  obtain ⟨x, _, hx⟩ := List.mem_flatMap.1 hu
  simp at hx
  rcases hx with rfl | rfl <;> rfl
theorem rde_of_ownz {w : World} {B : Nat} {A : Option Addr} {N C : Nat} {l : List (Int × Int)} (h : w.ownsRow B 48 2 (.slice A N C) l.length (zed l)) (hl : l.length ≤ 140737488355328) : RdE w w.heap.size A N C l := by
  rcases h.2 with ⟨hv, h0⟩ | ⟨g, cap, cur, hv, hg, hh, hc1, hc2, hc3, ht⟩
  · simp only [Value.slice.injEq] at hv
    obtain ⟨rfl, rfl, rfl⟩ := hv
    exact ⟨h0, Nat.le_refl _, by omega, by omega, fun _ => rfl, fun i hi => absurd hi (by omega)⟩
  · simp only [Value.slice.injEq] at hv
    obtain ⟨rfl, rfl, rfl⟩ := hv
    unfold maxLen at hc2
    refine ⟨rfl, hc1, hc2, hl, (fun hn => by cases hn), fun i hi => ⟨g, 0, rfl, lt_of_block hh, ?_, ?_⟩⟩
    · rw [Nat.zero_add, h.cellAt _ (by omega)]; exact (zed_get l i hi).1
    · rw [Nat.zero_add, h.cellAt _ (by omega)]; exact (zed_get l i hi).2

theorem own_empty_ed (w : World) (B : Nat) (h : B ≤ w.heap.size) : (w.alloc (.cells #[] 48)).ownsRow B 48 2 (.slice (some ⟨w.heap.size, 0, none⟩) 0 0) 0 [] := by
  refine ⟨rfl, Or.inr ⟨w.heap.size, 0, #[], rfl, h, ?_, Nat.le_refl _, by unfold maxLen; omega, rfl, rfl⟩⟩
  show (w.heap.push _)[w.heap.size]? = _
  simp

/-- append of edits behind none -/
theorem wp_append_eds (w : World) {o : Oper} {a : Act} {K : Act → World → Prop} {Q : Exit → Act → World → Prop} (s x : Operand)
    (ho : o.op = .call { callee := .builtin .append, args := #[s, x], argTypes := #[25, 25] })
    (B : Nat) (v : Value) (hs : a.eval s = v) (hown : w.ownsRow B 48 2 v 0 [])
    (B2 : Nat) (A : Option Addr) (m c : Nat) (l : List (Int × Int)) (hx : a.eval x = .slice A m c) (hsl : RdE w B2 A m c l)
    (hbytes : m * 16 ≤ 140737488355328) (hbase : B ≤ w.heap.size)
    (h : ∀ A' C' w', w'.ownsRow B 48 2 (.slice A' m C') l.length (zed l) → Below B w w' → Kp [48] w w' → K (a.put o.dst (.slice A' m C')) w') :
    Oper.wp Try.prog o a w K Q := by
  obtain ⟨i0, hi, hz0, hz1, hz2⟩ := info_parts info48
  have key : ∃ A' C' w', (Builtin.append_ #[25, 25] o.type #[v, .slice A m c]).run Try.prog w = .ok (.slice A' m C') w' ∧ w'.ownsRow B 48 2 (.slice A' m C') l.length (zed l) ∧ Below B w w' ∧ Kp [48] w w' := by
    have hml := hsl.hlen
    cases A with
    | none =>
      have hc := hsl.hnone rfl
      have hm : m = 0 := by have := hsl.hcap; omega
      subst hm hc
      obtain rfl : l = [] := List.eq_nil_of_length_eq_zero hml
      obtain ⟨A', N', C', rfl⟩ := own_slice hown
      obtain rfl := own_N hown
      exact ⟨A', C', w, run_append_owned_none (P := Try.prog) w B 25 o.type 48 i0 2 Try.underlying25 hi _ _ _ hown, hown, Below.refl B w, Kp.refl _ w⟩
    | some x =>
      have hnw : ∀ j u, (zed l)[j]? = some u → w.cell? (x.add j) = some u := by
        intro j u hj
        obtain ⟨hj1, hj2⟩ := List.getElem?_eq_some_iff.1 hj
        rw [zed_length] at hj1
        obtain ⟨b, off, he, _, c0, c1⟩ := hsl.hcell (j / 2) (by omega)
        simp only [Option.some.injEq] at he
        subst he
        obtain ⟨g0, g1⟩ := zed_get l (j / 2) (by omega)
        rw [show Addr.add ⟨b, off, none⟩ j = (⟨b, off + j, none⟩ : Addr) from by simp [Addr.add]]
        rcases Nat.mod_two_eq_zero_or_one j with e | e
        · have ej : j / 2 * 2 = j := by omega
          rw [ej] at c0 g0
          rw [c0, ← hj, g0]
        · have ej : j / 2 * 2 + 1 = j := by omega
          rw [Nat.add_assoc, ej] at c1
          rw [ej] at g1
          rw [c1, ← hj, g1]
      obtain ⟨v', w', hr, h2, h3, h4⟩ := run_append_own (P := Try.prog) w B 25 o.type 48 i0 (.agg #[.int .i64 0, .int .i64 0]) 2 16 Try.underlying25 hi hz0 hz1 hz2 rfl (by decide) v 0 [] hown x m c (zed l) (by rw [zed_length]; omega) hnw (zed_one l) (by unfold maxLen; omega) (by omega) hbase
      obtain ⟨A', N', C', rfl⟩ := own_slice h2
      have hN := own_N h2
      rw [Nat.zero_add] at hN h2
      subst hN
      rw [List.nil_append] at h2
      exact ⟨A', C', w', hr, by rw [hml]; exact h2, below_grown hbase hown h3, (Kp.refl _ w).grown hown h3 (by simp)⟩
  obtain ⟨A', C', w', hr, h2, h3, h4⟩ := key
  unfold Oper.wp execOp
  simp only [ho, resolve, invoke, builtin, Sem.run_bind, Sem.run_pure, Result.andThen_ok, List.map_toArray, List.map_cons, List.map_nil, hs, hx, hr]
  exact h A' C' w' h2 h3 h4

theorem wpList_append_eds (w : World) {ops : Array Oper} {rest : List Oper} {o : Oper} {a : Act} {Q : Exit → Act → World → Prop} (hgd : o.guard = none) (s x : Operand)
    (ho : o.op = .call { callee := .builtin .append, args := #[s, x], argTypes := #[25, 25] })
    (B : Nat) (v : Value) (hs : a.eval s = v) (hown : w.ownsRow B 48 2 v 0 [])
    (B2 : Nat) (A : Option Addr) (m c : Nat) (l : List (Int × Int)) (hx : a.eval x = .slice A m c) (hsl : RdE w B2 A m c l)
    (hbytes : m * 16 ≤ 140737488355328) (hbase : B ≤ w.heap.size)
    (h : ∀ A' C' w', w'.ownsRow B 48 2 (.slice A' m C') l.length (zed l) → Below B w w' → Kp [48] w w' → wpList Try.prog ops Q rest (a.put o.dst (.slice A' m C')) w') :
    wpList Try.prog ops Q (o :: rest) a w :=
  wpList_plain hgd fun K hK => wp_append_eds w s x ho B v hs hown B2 A m c l hx hsl hbytes hbase fun A' C' w' h2 h3 h4 => hK _ _ (h A' C' w' h2 h3 h4)
end Go.Proofs.Ytfgmnfcakeenmaa.Ln
