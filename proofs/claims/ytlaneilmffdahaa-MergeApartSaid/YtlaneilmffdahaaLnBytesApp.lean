/- append of bytes behind a row of bytes of the call's own; bytes that came in. -/
import Derived.Test.YtlaneilmffdahaaLnBytes
import Derived.Test.YtlaneilmffdahaaLnJoin
import Derived.Test.YtlaneilmffdahaaChecked
import Derived.WalkKit
import Derived.WalkSpells
import Derived.WalkLawsBesides
import Derived.OpenShut
import Derived.Lib.Hide
import Derived.Test.YtlaneilmffdahaaFrInts
namespace Go.Proofs.Ytlaneilmffdahaa.Ln
open Go.RowKit
set_option linter.unusedVariables false
theorem bv_one (l : List Int) : ∀ u ∈ bv l, u.oneCell' = true := by
  intro u hu
  obtain ⟨x, _, rfl⟩ := List.mem_map.1 hu
  rfl
/-- append of strings behind a row of strings of the call's own -/
theorem wp_append_bytes (w : World) {o : Oper} {a : Act} {K : Act → World → Prop} {Q : Exit → Act → World → Prop} (s x : Operand)
    (ho : o.op = .call { callee := .builtin .append, args := #[s, x], argTypes := #[32, 32] })
    (B : Nat) (v : Value) (n : Nat) (d : List Int) (hs : a.eval s = v) (hown : w.ownsRow B 5 1 v n (bv d))
    (B2 : Nat) (A : Option Addr) (m c : Nat) (l : List Int) (hx : a.eval x = .slice A m c) (hsl : Rd w B2 A m c (bv l))
    (hbytes : (n + m) * 1 ≤ 140737488355328) (hbase : B ≤ w.heap.size)
    (h : ∀ A' C' w', w'.ownsRow B 5 1 (.slice A' (n + m) C') (n + m) (bv (d ++ l)) → Below B w w' → Kp [5] w w' → K (a.put o.dst (.slice A' (n + m) C')) w') :
    Oper.wp Try.prog o a w K Q := by
  obtain ⟨i0, hi, hz0, hz1, hz2⟩ := info_parts infoU
  have key : ∃ A' C' w', (Builtin.append_ #[32, 32] o.type #[v, .slice A m c]).run Try.prog w = .ok (.slice A' (n + m) C') w' ∧ w'.ownsRow B 5 1 (.slice A' (n + m) C') (n + m) (bv (d ++ l)) ∧ Below B w w' ∧ Kp [5] w w' := by
    cases A with
    | none =>
      have hc := hsl.hnone rfl
      have hm : m = 0 := by have := hsl.hcap; omega
      subst hm hc
      obtain rfl : l = [] := by
        have := hsl.hlen
        simp [bv] at this
        exact this
      obtain ⟨A', N', C', rfl⟩ := own_slice hown
      have hN : N' = n := by
        rcases hown.2 with ⟨hv, h0⟩ | ⟨g, cap, cur, hv, _⟩
        · simp only [Value.slice.injEq] at hv; omega
        · simp only [Value.slice.injEq] at hv; omega
      subst hN
      refine ⟨A', C', w, run_append_owned_none (P := Try.prog) w B 32 o.type 5 i0 1 Try.underlying32 hi _ _ _ hown, ?_, Below.refl B w, Kp.refl _ w⟩
      rw [List.append_nil]
      exact hown
    | some x =>
      have hnw : ∀ j u, (bv l)[j]? = some u → w.cell? (x.add j) = some u := by
        intro j u hj
        obtain ⟨hj1, hj2⟩ := List.getElem?_eq_some_iff.1 hj
        rw [hsl.hlen] at hj1
        obtain ⟨b, off, v', he, _, hv', hc⟩ := hsl.hcell j hj1
        simp only [Option.some.injEq] at he
        subst he
        rw [show Addr.add ⟨b, off, none⟩ j = (⟨b, off + j, none⟩ : Addr) from by simp [Addr.add], hc, ← hj, hv']
      obtain ⟨v', w', hr, h2, h3, h4⟩ := run_append_own (P := Try.prog) w B 32 o.type 5 i0 (.int .u8 0) 1 1 Try.underlying32 hi hz0 hz1 hz2 rfl (by decide) v n (bv d) hown x m c (bv l) (by rw [hsl.hlen]; omega) hnw (bv_one l) (by unfold maxLen; omega) hbytes hbase
      obtain ⟨A', N', C', rfl⟩ := own_slice h2
      have hN : N' = n + m := by
        rcases h2.2 with ⟨hv, h0⟩ | ⟨g, cap, cur, hv, _⟩
        · simp only [Value.slice.injEq] at hv; omega
        · simp only [Value.slice.injEq] at hv; omega
      subst hN
      exact ⟨A', C', w', hr, by rw [show bv (d ++ l) = bv d ++ bv l from by simp [bv]]; exact h2, below_grown hbase hown h3, (Kp.refl _ w).grown hown h3 (by simp)⟩
  obtain ⟨A', C', w', hr, h2, h3, h4⟩ := key
  unfold Oper.wp execOp
  simp only [ho, resolve, invoke, builtin, Sem.run_bind, Sem.run_pure, Result.andThen_ok, List.map_toArray, List.map_cons, List.map_nil, hs, hx, hr]
  exact h A' C' w' h2 h3 h4
theorem wpList_append_bytes (w : World) {ops : Array Oper} {rest : List Oper} {o : Oper} {a : Act} {Q : Exit → Act → World → Prop} (hgd : o.guard = none) (s x : Operand)
    (ho : o.op = .call { callee := .builtin .append, args := #[s, x], argTypes := #[32, 32] })
    (B : Nat) (v : Value) (n : Nat) (d : List Int) (hs : a.eval s = v) (hown : w.ownsRow B 5 1 v n (bv d))
    (B2 : Nat) (A : Option Addr) (m c : Nat) (l : List Int) (hx : a.eval x = .slice A m c) (hsl : Rd w B2 A m c (bv l))
    (N : Nat) (hN : n + m = N) (D : List Int) (hD : d ++ l = D) (hbytes : N * 1 ≤ 140737488355328) (hbase : B ≤ w.heap.size)
    (h : ∀ A' C' w', w'.ownsRow B 5 1 (.slice A' N C') N (bv D) → Below B w w' → Kp [5] w w' → wpList Try.prog ops Q rest (a.put o.dst (.slice A' N C')) w') :
    wpList Try.prog ops Q (o :: rest) a w := by
  subst hN hD
  exact wpList_plain hgd fun K hK => wp_append_bytes w s x ho B v n d hs hown B2 A m c l hx hsl hbytes hbase fun A' C' w' h2 h3 h4 => hK _ _ (h A' C' w' h2 h3 h4)
theorem step_append_bytes (w : World) {ops : Array Oper} {o : Oper} {a : Act} {K : Act → World → Prop} {Q : Exit → Act → World → Prop} {E : Prop} (hgd : o.guard = none) (s x : Operand)
    (ho : o.op = .call { callee := .builtin .append, args := #[s, x], argTypes := #[32, 32] })
    (B : Nat) (v : Value) (n : Nat) (d : List Int) (hs : a.eval s = v) (hown : w.ownsRow B 5 1 v n (bv d))
    (B2 : Nat) (A : Option Addr) (m c : Nat) (l : List Int) (hx : a.eval x = .slice A m c) (hsl : Rd w B2 A m c (bv l))
    (N : Nat) (hN : n + m = N) (D : List Int) (hD : d ++ l = D) (hbytes : N * 1 ≤ 140737488355328) (hbase : B ≤ w.heap.size)
    (h : ∀ A' C' w', w'.ownsRow B 5 1 (.slice A' N C') N (bv D) → Below B w w' → Kp [5] w w' → K (a.put o.dst (.slice A' N C')) w') :
    if Region.wanted o (yielded ops a.tmps) = true then Oper.wp Try.prog o a w K Q else E := by
  subst hN hD
  have hw : Region.wanted o (yielded ops a.tmps) = true := by simp [Region.wanted, hgd]
  rw [if_pos hw]
  exact wp_append_bytes w s x ho B v n d hs hown B2 A m c l hx hsl hbytes hbase h
/-- []string{} -/
theorem own_empty_u (w : World) (B : Nat) (h : B ≤ w.heap.size) : (w.alloc (.cells #[] 5)).ownsRow B 5 1 (.slice (some ⟨w.heap.size, 0, none⟩) 0 0) 0 (bv []) := by
  refine ⟨rfl, Or.inr ⟨w.heap.size, 0, #[], rfl, h, ?_, Nat.le_refl _, by unfold maxLen; omega, rfl, rfl⟩⟩
  show (w.heap.push _)[w.heap.size]? = _
  simp
theorem rd_of_ints {w : World} {a : Option Addr} {len cap : Nat} {zs : List Int} (h : Fr.IsInts .u8 1 w a len cap zs) : Rd w w.heap.size a len cap (bv zs) ∧ ∀ x ∈ zs, 0 ≤ x ∧ x ≤ 255 := by
  rcases h with ⟨rfl, rfl, rfl, rfl⟩ | ⟨x, rfl, hl, hm, hz, hc, hw⟩
  · exact ⟨Rd.none_ w _, fun s hs => by simp at hs⟩
  · refine ⟨⟨by simp [bv, hz], hl, by omega, by omega, (fun hn => by cases hn), ?_⟩, ?_⟩
    · intro i hi
      have h := hc i hi
      obtain ⟨b, off, spot⟩ := x
      have hspot : spot = none := by simpa [Addr.add] using World.cell?_spot (hc 0 (by omega))
      subst hspot
      have e : Addr.add ⟨b, off, none⟩ i = (⟨b, off + i, none⟩ : Addr) := by simp [Addr.add]
      rw [e] at h
      exact ⟨b, off, _, rfl, block_lt_of_cell (a := ⟨b, off + i, none⟩) h, bv_get zs i (by omega), h⟩
    · intro y hy
      have h := hw y hy
      have h1 : IntKind.u8.min = 0 := rfl
      have h2 : IntKind.u8.max = 255 := rfl
      simp only [Lit.wf, Bool.and_eq_true, decide_eq_true_eq] at h
      omega
end Go.Proofs.Ytlaneilmffdahaa.Ln
