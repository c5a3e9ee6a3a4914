/- append of bytes that are read, behind a row of the call's own. -/
import Derived.Test.YtgmcdkkjemjneaaSmRNum
namespace Go.Proofs.Ytgmcdkkjemjneaa.Sm
open Go.RowKit
set_option linter.unusedVariables false

/-- a slice of bytes that is read -/
structure RdB (w : World) (A : Option Addr) (n C : Nat) (l : List Int) : Prop where
  len : l.length = n
  cap : n ≤ C
  max : C ≤ 9223372036854775807
  big : n ≤ 140737488355328
  none : A = none → C = 0
  byte : ∀ i, i < n → 0 ≤ l.getD i 0 ∧ l.getD i 0 ≤ 255
  cell : ∀ x, A = some x → (0 < n → x.block < w.heap.size) ∧ ∀ i, i < n → w.cell? (x.add i) = some (.int .u8 (l.getD i 0))

theorem RdB.below {w w' : World} {A : Option Addr} {n C : Nat} {l : List Int} (h : RdB w A n C l) (hb : Below w.heap.size w w') : RdB w' A n C l :=
  ⟨h.len, h.cap, h.max, h.big, h.none, h.byte, fun x hx => by
    obtain ⟨h1, h2⟩ := h.cell x hx
    refine ⟨fun h0 => Nat.lt_of_lt_of_le (h1 h0) hb.size, fun i hi => ?_⟩
    rw [hb.cell (p := x.add i) (by have : (x.add i).block = x.block := by unfold Addr.add; split <;> rfl
                                   rw [this]; exact h1 (by omega))]
    exact h2 i hi⟩

theorem own_slice' {w : World} {B e sz n : Nat} {v : Value} {xs : List Value} (h : w.ownsRow B e sz v n xs) : ∃ A c, v = .slice A n c := by
  rcases h.2 with ⟨rfl, rfl⟩ | ⟨g, cap, cur, rfl, _⟩ <;> exact ⟨_, _, rfl⟩

theorem wpList_append_rd (w : World) {ops : Array Oper} {rest : List Oper} {o : Oper} {a : Act} {Q : Exit → Act → World → Prop} (hgd : o.guard = none) (s x : Operand)
    (ho : o.op = .call { callee := .builtin .append, args := #[s, x], argTypes := #[24, 24] })
    (B : Nat) (v : Value) (n : Nat) (d : List Int) (hs : a.eval s = v) (hown : w.ownsRow B 5 1 v n (bv d))
    (A : Option Addr) (m c : Nat) (l : List Int) (hx : a.eval x = .slice A m c) (hsl : RdB w A m c l)
    (hbytes : (n + m) * 1 ≤ 140737488355328) (hbase : B ≤ w.heap.size)
    (h : ∀ A' C' w', w'.ownsRow B 5 1 (.slice A' (n + m) C') (n + m) (bv (d ++ l)) → Below B w w' → wpList Try.prog ops Q rest (a.put o.dst (.slice A' (n + m) C')) w') :
    wpList Try.prog ops Q (o :: rest) a w := by
  refine wpList_plain hgd fun K hK => ?_
  obtain ⟨i0, hi, hz0, hz1, hz2⟩ := info_parts info5
  have key : ∃ A' C' w', (Builtin.append_ #[24, 24] o.type #[v, .slice A m c]).run Try.prog w = .ok (.slice A' (n + m) C') w' ∧ w'.ownsRow B 5 1 (.slice A' (n + m) C') (n + m) (bv (d ++ l)) ∧ Below B w w' := by
    cases A with
    | none =>
      have hc := hsl.none rfl
      have hm : m = 0 := by have := hsl.cap; omega
      subst hm hc
      obtain rfl : l = [] := List.eq_nil_of_length_eq_zero hsl.len
      obtain ⟨A', C', rfl⟩ := own_slice' hown
      refine ⟨A', C', w, run_append_owned_none (P := Try.prog) w B 24 o.type 5 i0 1 Try.underlying24 hi _ _ _ hown, ?_, Below.refl B w⟩
      rw [List.append_nil]
      exact hown
    | some y =>
      obtain ⟨-, hcc⟩ := hsl.cell y rfl
      have hll := hsl.len
      have hnw : ∀ j u, (bv l)[j]? = some u → w.cell? (y.add j) = some u := by
        intro j u hj
        have hj1 := (List.getElem?_eq_some_iff.1 hj).1
        rw [bv, List.length_map, hll] at hj1
        rw [hcc j hj1, ← hj]
        simp [bv, hll, hj1]
      obtain ⟨v', w', hr, h2, h3, h4⟩ := run_append_own (P := Try.prog) w B 24 o.type 5 i0 (.int .u8 0) 1 1 Try.underlying24 hi hz0 hz1 hz2 rfl (by decide) v n (bv d) hown y m c (bv l) (by rw [bv, List.length_map, hll]; omega) hnw (bv_one l) (by unfold maxLen; omega) hbytes hbase
      obtain ⟨A', C', rfl⟩ := own_slice' h2
      exact ⟨A', C', w', hr, by rw [show bv (d ++ l) = bv d ++ bv l from by simp [bv]]; exact h2, below_grown hbase hown h3⟩
  obtain ⟨A', C', w', hr, h2, h3⟩ := key
  unfold Oper.wp execOp
  simp only [ho, resolve, invoke, builtin, Sem.run_bind, Sem.run_pure, Result.andThen_ok, List.map_toArray, List.map_cons, List.map_nil, hs, hx, hr]
  exact hK _ _ (h A' C' w' h2 h3)

/-- []byte{} -/
theorem own_empty_u (w : World) (B : Nat) (h : B ≤ w.heap.size) : (w.alloc (.cells #[] 5)).ownsRow B 5 1 (.slice (some ⟨w.heap.size, 0, none⟩) 0 0) 0 (bv []) := by
  refine ⟨rfl, Or.inr ⟨w.heap.size, 0, #[], rfl, h, ?_, Nat.le_refl _, by unfold maxLen; omega, rfl, rfl⟩⟩
  show (w.heap.push _)[w.heap.size]? = _
  simp
end Go.Proofs.Ytgmcdkkjemjneaa.Sm
