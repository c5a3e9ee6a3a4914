/- append(own bytes, bytes...): of any slice, none too. -/
import Derived.Test.YtkelgaanehihbaaDtBack
import Derived.Deep.RegionLaw
namespace Go.Proofs.Ytkelgaanehihbaa.Dt
open Go.RowKit
set_option linter.unusedVariables false

theorem run_app_none (w : World) (B n : Nat) (v : Value) (xs : List Value) (ty : TypeId) (i : TypeInfo) (hi : Try.prog.info? 5 = some i) (hown : w.ownsRow B 5 1 v n xs) :
    (Builtin.append_ #[22, 22] ty #[v, .slice none 0 0]).run Try.prog w = .ok v w := by
  rcases hown.2 with ⟨rfl, rfl⟩ | ⟨g, cap, cur, rfl, hbg, hg, hnc, hcm, hcs, htake⟩
  · simp [Builtin.append_, run_underlying Try.underlying22, sizeOf, typeInfo, hi, Builtin.lenOf, Builtin.firstCells]
  · simp [Builtin.append_, run_underlying Try.underlying22, sizeOf, typeInfo, hi, Builtin.lenOf, Builtin.firstCells, loadCells, hnc, storeCells]

theorem own_zero {w : World} {B e n m : Nat} {v : Value} {xs ys : List Value} (h : w.ownsRow B e 1 v n xs) (hx : xs = ys) (hn : n = m) : w.ownsRow B e 1 v m ys := by subst hx hn; exact h

theorem wp_append_sl (w : World) {o : Oper} {a : Act} {K : Act → World → Prop} {Q : Exit → Act → World → Prop} (s x : Operand)
    (ho : o.op = .call { callee := .builtin .append, args := #[s, x], argTypes := #[22, 22] })
    (B : Nat) (v : Value) (n : Nat) (d : List Int) (hs : a.eval s = v) (hown : w.ownsRow B 5 1 v n (bv d))
    (A : Option Addr) (m c : Nat) (l : List Int) (hx : a.eval x = .slice A m c) (hsl : Sl w A m c l)
    (hbytes : n + m ≤ 140737488355328) (hbase : B ≤ w.heap.size)
    (h : ∀ A' C' w', w'.ownsRow B 5 1 (.slice A' (n + m) C') (n + m) (bv (d ++ l)) → Below B w w' → K (a.put o.dst (.slice A' (n + m) C')) w') :
    Oper.wp Try.prog o a w K Q := by
  obtain ⟨i0, hi, hz0, hz1, hz2⟩ := info_parts info5
  have key : ∃ A' C' w', (Builtin.append_ #[22, 22] o.type #[v, .slice A m c]).run Try.prog w = .ok (.slice A' (n + m) C') w' ∧ w'.ownsRow B 5 1 (.slice A' (n + m) C') (n + m) (bv (d ++ l)) ∧ Below B w w' := by
    cases A with
    | none =>
      have hc := hsl.hnone rfl
      have hm : m = 0 := by have := hsl.hcap; omega
      subst hm hc
      obtain rfl : l = [] := List.eq_nil_of_length_eq_zero hsl.hlen
      obtain ⟨A', C', rfl, -, -, -⟩ := own_shape hown
      refine ⟨A', C', w, run_app_none w B n _ _ _ i0 hi hown, ?_, Below.refl B w⟩
      rw [List.append_nil]
      exact hown
    | some x =>
      have hnw : ∀ j u, (bv l)[j]? = some u → w.cell? (x.add j) = some u := by
        intro j u hj
        obtain ⟨hj1, hj2⟩ := List.getElem?_eq_some_iff.1 hj
        rw [bv, List.length_map, hsl.hlen] at hj1
        obtain ⟨b, off, he, hc⟩ := hsl.hcell j hj1
        simp only [Option.some.injEq] at he
        subst he
        rw [show Addr.add ⟨b, off, none⟩ j = (⟨b, off + j, none⟩ : Addr) from by simp [Addr.add], hc, ← hj2]
        have : j < l.length := by rw [hsl.hlen]; exact hj1
        simp [bv, this]
      obtain ⟨v', w', hr, h2, h3, h4⟩ := run_append_own (P := Try.prog) w B 22 o.type 5 i0 (.int .u8 0) 1 1 Try.underlying22 hi hz0 hz1 hz2 rfl (by decide) v n (bv d) hown x m c (bv l) (by rw [bv, List.length_map, hsl.hlen]; omega) hnw (bv_one l) (by unfold maxLen; omega) (by omega) hbase
      obtain ⟨A', C', rfl, -, -, -⟩ := own_shape h2
      exact ⟨A', C', w', hr, own_zero h2 (by simp [bv]) rfl, below_grown hbase hown h3⟩
  obtain ⟨A', C', w', hr, h2, h3⟩ := key
  unfold Oper.wp execOp
  simp only [ho, resolve, invoke, builtin, Sem.run_bind, Sem.run_pure, Result.andThen_ok, List.map_toArray, List.map_cons, List.map_nil, hs, hx, hr]
  exact h A' C' w' h2 h3

theorem wpList_append_sl (w : World) {ops : Array Oper} {rest : List Oper} {o : Oper} {a : Act} {Q : Exit → Act → World → Prop} (hgd : o.guard = none) (s x : Operand)
    (ho : o.op = .call { callee := .builtin .append, args := #[s, x], argTypes := #[22, 22] })
    (B : Nat) (v : Value) (n : Nat) (d : List Int) (hs : a.eval s = v) (hown : w.ownsRow B 5 1 v n (bv d))
    (A : Option Addr) (m c : Nat) (l : List Int) (hx : a.eval x = .slice A m c) (hsl : Sl w A m c l)
    (N : Nat) (hN : n + m = N) (D : List Int) (hD : d ++ l = D) (hbytes : N ≤ 140737488355328) (hbase : B ≤ w.heap.size)
    (h : ∀ A' C' w', w'.ownsRow B 5 1 (.slice A' N C') N (bv D) → Below B w w' → wpList Try.prog ops Q rest (a.put o.dst (.slice A' N C')) w') :
    wpList Try.prog ops Q (o :: rest) a w := by
  subst hN hD
  exact wpList_plain hgd fun K hK => wp_append_sl w s x ho B v n d hs hown A m c l hx hsl hbytes hbase fun A' C' w' h2 h3 => hK _ _ (h A' C' w' h2 h3)

theorem step_append_sl (w : World) {ops : Array Oper} {o : Oper} {a : Act} {K : Act → World → Prop} {Q : Exit → Act → World → Prop} {E : Prop} (hgd : o.guard = none) (s x : Operand)
    (ho : o.op = .call { callee := .builtin .append, args := #[s, x], argTypes := #[22, 22] })
    (B : Nat) (v : Value) (n : Nat) (d : List Int) (hs : a.eval s = v) (hown : w.ownsRow B 5 1 v n (bv d))
    (A : Option Addr) (m c : Nat) (l : List Int) (hx : a.eval x = .slice A m c) (hsl : Sl w A m c l)
    (N : Nat) (hN : n + m = N) (D : List Int) (hD : d ++ l = D) (hbytes : N ≤ 140737488355328) (hbase : B ≤ w.heap.size)
    (h : ∀ A' C' w', w'.ownsRow B 5 1 (.slice A' N C') N (bv D) → Below B w w' → K (a.put o.dst (.slice A' N C')) w') :
    if Region.wanted o (yielded ops a.tmps) = true then Oper.wp Try.prog o a w K Q else E := by
  subst hN hD
  have hw : Region.wanted o (yielded ops a.tmps) = true := by simp [Region.wanted, hgd]
  rw [if_pos hw]
  exact wp_append_sl w s x ho B v n d hs hown A m c l hx hsl hbytes hbase h

theorem own_empty (w : World) (B : Nat) (h : B ≤ w.heap.size) : (w.alloc (.cells #[] 5)).ownsRow B 5 1 (.slice (some ⟨w.heap.size, 0, none⟩) 0 0) 0 (bv []) := by
  refine ⟨rfl, Or.inr ⟨w.heap.size, 0, #[], rfl, h, ?_, Nat.le_refl _, by unfold maxLen; omega, rfl, rfl⟩⟩
  show (w.heap.push _)[w.heap.size]? = _
  simp

theorem own_ne {w : World} {B n C m : Nat} {A : Option Addr} {xs : List Value} (h : w.ownsRow B 5 1 (.slice A n C) m xs) : ∀ b off, A = some ⟨b, off, none⟩ → 0 < n → b < w.heap.size := fun b off he _ => own_lt h b off he
end Go.Proofs.Ytkelgaanehihbaa.Dt
