/- Slices that came in; append of such behind a row of the call's own. -/
import Derived.Test.YtlaneilmffdahaaLnLaw
import Derived.Test.YtlaneilmffdahaaFrStrs
import Derived.Test.YtlaneilmffdahaaFrInts
import Derived.Deep.RegionLaw
namespace Go.Proofs.Ytlaneilmffdahaa.Ln
open Go.RowKit
set_option linter.unusedVariables false
theorem rd_of_strs {w : World} {a : Option Addr} {len cap : Nat} {ss : List ByteArray} (h : Fr.IsStrs w a len cap ss) : Rd w w.heap.size a len cap (sv ss) ∧ ∀ s ∈ ss, s.size ≤ 140737488351232 := by
  rcases h with ⟨rfl, rfl, rfl, rfl⟩ | ⟨x, rfl, hl, hm, hz, hc, hw⟩
  · exact ⟨Rd.none_ w _, fun s hs => by simp at hs⟩
  · refine ⟨⟨by simp [sv, hz], hl, by omega, by omega, (fun hn => by cases hn), ?_⟩, hw⟩
    intro i hi
    have h := hc i hi
    obtain ⟨b, off, spot⟩ := x
    have hspot : spot = none := by simpa [Addr.add] using World.cell?_spot (hc 0 (by omega))
    subst hspot
    have e : Addr.add ⟨b, off, none⟩ i = (⟨b, off + i, none⟩ : Addr) := by simp [Addr.add]
    rw [e] at h
    refine ⟨b, off, _, rfl, block_lt_of_cell (a := ⟨b, off + i, none⟩) h, ?_, h⟩
    simp [sv, show i < ss.length by omega]
theorem str_one (ss : List ByteArray) : ∀ u ∈ sv ss, u.oneCell' = true := by
  intro u hu
  obtain ⟨x, _, rfl⟩ := List.mem_map.1 hu
  rfl
theorem infoS : (Try.prog.info? 9).map (fun i => (i.zero, i.size, i.bytes)) = some (some (.string ByteArray.empty), 1, 16) := by kernel_rfl
/-- append of strings behind a row of strings of the call's own -/
theorem wp_append_strs (w : World) {o : Oper} {a : Act} {K : Act → World → Prop} {Q : Exit → Act → World → Prop} (s x : Operand)
    (ho : o.op = .call { callee := .builtin .append, args := #[s, x], argTypes := #[22, 22] })
    (B : Nat) (v : Value) (n : Nat) (d : List ByteArray) (hs : a.eval s = v) (hown : w.ownsRow B 9 1 v n (sv d))
    (B2 : Nat) (A : Option Addr) (m c : Nat) (l : List ByteArray) (hx : a.eval x = .slice A m c) (hsl : Rd w B2 A m c (sv l))
    (hbytes : (n + m) * 16 ≤ 140737488355328) (hbase : B ≤ w.heap.size)
    (h : ∀ A' C' w', w'.ownsRow B 9 1 (.slice A' (n + m) C') (n + m) (sv (d ++ l)) → Below B w w' → Kp [9] w w' → K (a.put o.dst (.slice A' (n + m) C')) w') :
    Oper.wp Try.prog o a w K Q := by
  obtain ⟨i0, hi, hz0, hz1, hz2⟩ := info_parts infoS
  have key : ∃ A' C' w', (Builtin.append_ #[22, 22] o.type #[v, .slice A m c]).run Try.prog w = .ok (.slice A' (n + m) C') w' ∧ w'.ownsRow B 9 1 (.slice A' (n + m) C') (n + m) (sv (d ++ l)) ∧ Below B w w' ∧ Kp [9] w w' := by
    cases A with
    | none =>
      have hc := hsl.hnone rfl
      have hm : m = 0 := by have := hsl.hcap; omega
      subst hm hc
      obtain rfl : l = [] := by
        have := hsl.hlen
        simp [sv] at this
        exact this
      obtain ⟨A', N', C', rfl⟩ := own_slice hown
      have hN : N' = n := by
        rcases hown.2 with ⟨hv, h0⟩ | ⟨g, cap, cur, hv, _⟩
        · simp only [Value.slice.injEq] at hv; omega
        · simp only [Value.slice.injEq] at hv; omega
      subst hN
      refine ⟨A', C', w, run_append_owned_none (P := Try.prog) w B 22 o.type 9 i0 1 Try.underlying22 hi _ _ _ hown, ?_, Below.refl B w, Kp.refl _ w⟩
      rw [List.append_nil]
      exact hown
    | some x =>
      have hnw : ∀ j u, (sv l)[j]? = some u → w.cell? (x.add j) = some u := by
        intro j u hj
        obtain ⟨hj1, hj2⟩ := List.getElem?_eq_some_iff.1 hj
        rw [hsl.hlen] at hj1
        obtain ⟨b, off, v', he, _, hv', hc⟩ := hsl.hcell j hj1
        simp only [Option.some.injEq] at he
        subst he
        rw [show Addr.add ⟨b, off, none⟩ j = (⟨b, off + j, none⟩ : Addr) from by simp [Addr.add], hc, ← hj, hv']
      obtain ⟨v', w', hr, h2, h3, h4⟩ := run_append_own (P := Try.prog) w B 22 o.type 9 i0 (.string ByteArray.empty) 1 16 Try.underlying22 hi hz0 hz1 hz2 rfl (by decide) v n (sv d) hown x m c (sv l) (by rw [hsl.hlen]; omega) hnw (str_one l) (by unfold maxLen; omega) hbytes hbase
      obtain ⟨A', N', C', rfl⟩ := own_slice h2
      have hN : N' = n + m := by
        rcases h2.2 with ⟨hv, h0⟩ | ⟨g, cap, cur, hv, _⟩
        · simp only [Value.slice.injEq] at hv; omega
        · simp only [Value.slice.injEq] at hv; omega
      subst hN
      exact ⟨A', C', w', hr, by rw [show sv (d ++ l) = sv d ++ sv l from by simp [sv]]; exact h2, below_grown hbase hown h3, (Kp.refl _ w).grown hown h3 (by simp)⟩
  obtain ⟨A', C', w', hr, h2, h3, h4⟩ := key
  unfold Oper.wp execOp
  simp only [ho, resolve, invoke, builtin, Sem.run_bind, Sem.run_pure, Result.andThen_ok, List.map_toArray, List.map_cons, List.map_nil, hs, hx, hr]
  exact h A' C' w' h2 h3 h4
theorem wpList_append_strs (w : World) {ops : Array Oper} {rest : List Oper} {o : Oper} {a : Act} {Q : Exit → Act → World → Prop} (hgd : o.guard = none) (s x : Operand)
    (ho : o.op = .call { callee := .builtin .append, args := #[s, x], argTypes := #[22, 22] })
    (B : Nat) (v : Value) (n : Nat) (d : List ByteArray) (hs : a.eval s = v) (hown : w.ownsRow B 9 1 v n (sv d))
    (B2 : Nat) (A : Option Addr) (m c : Nat) (l : List ByteArray) (hx : a.eval x = .slice A m c) (hsl : Rd w B2 A m c (sv l))
    (N : Nat) (hN : n + m = N) (D : List ByteArray) (hD : d ++ l = D) (hbytes : N * 16 ≤ 140737488355328) (hbase : B ≤ w.heap.size)
    (h : ∀ A' C' w', w'.ownsRow B 9 1 (.slice A' N C') N (sv D) → Below B w w' → Kp [9] w w' → wpList Try.prog ops Q rest (a.put o.dst (.slice A' N C')) w') :
    wpList Try.prog ops Q (o :: rest) a w := by
  subst hN hD
  exact wpList_plain hgd fun K hK => wp_append_strs w s x ho B v n d hs hown B2 A m c l hx hsl hbytes hbase fun A' C' w' h2 h3 h4 => hK _ _ (h A' C' w' h2 h3 h4)
theorem step_append_strs (w : World) {ops : Array Oper} {o : Oper} {a : Act} {K : Act → World → Prop} {Q : Exit → Act → World → Prop} {E : Prop} (hgd : o.guard = none) (s x : Operand)
    (ho : o.op = .call { callee := .builtin .append, args := #[s, x], argTypes := #[22, 22] })
    (B : Nat) (v : Value) (n : Nat) (d : List ByteArray) (hs : a.eval s = v) (hown : w.ownsRow B 9 1 v n (sv d))
    (B2 : Nat) (A : Option Addr) (m c : Nat) (l : List ByteArray) (hx : a.eval x = .slice A m c) (hsl : Rd w B2 A m c (sv l))
    (N : Nat) (hN : n + m = N) (D : List ByteArray) (hD : d ++ l = D) (hbytes : N * 16 ≤ 140737488355328) (hbase : B ≤ w.heap.size)
    (h : ∀ A' C' w', w'.ownsRow B 9 1 (.slice A' N C') N (sv D) → Below B w w' → Kp [9] w w' → K (a.put o.dst (.slice A' N C')) w') :
    if Region.wanted o (yielded ops a.tmps) = true then Oper.wp Try.prog o a w K Q else E := by
  subst hN hD
  have hw : Region.wanted o (yielded ops a.tmps) = true := by simp [Region.wanted, hgd]
  rw [if_pos hw]
  exact wp_append_strs w s x ho B v n d hs hown B2 A m c l hx hsl hbytes hbase h
/-- []string{} -/
theorem own_empty (w : World) (B : Nat) (h : B ≤ w.heap.size) : (w.alloc (.cells #[] 9)).ownsRow B 9 1 (.slice (some ⟨w.heap.size, 0, none⟩) 0 0) 0 (sv []) := by
  refine ⟨rfl, Or.inr ⟨w.heap.size, 0, #[], rfl, h, ?_, Nat.le_refl _, by unfold maxLen; omega, rfl, rfl⟩⟩
  show (w.heap.push _)[w.heap.size]? = _
  simp
theorem steps_len {α : Type} [DecidableEq α] : ∀ a b : List α, (steps a b).length ≤ a.length + b.length
  | [], b => by rw [steps_nil_left]; simp
  | x :: a, [] => by rw [steps_nil_right]; simp
  | x :: a, y :: b => by
      have h1 := steps_len a b
      have h2 := steps_len a (y :: b)
      have h3 := steps_len (x :: a) b
      rw [steps_cons]
      simp only [List.length_cons] at *
      split
      · simp; omega
      · split <;> simp <;> omega
termination_by a b => a.length + b.length
theorem scr_len {α : Type} [DecidableEq α] (a b : List α) : tot (scr a b) ≤ a.length + b.length := by
  unfold scr
  rw [scr_tot]
  simp [tot]
  exact steps_len a b
theorem few_call (B : Nat) (a : Option Addr) (l c : Nat) (ss : List ByteArray) (w : World) (h : Rd w B a l c (sv ss)) (hs : ∀ s ∈ ss, s.size ≤ 140737488351232) :
    Calls Try.prog 29 #[.slice a l c] w fun e w' => ∃ f : Bool, e = .returned (.bool f) ∧ (f = true → l ≤ 119) ∧ Below w.heap.size w w' :=
  (few_any B a l c ss w h hs).mono fun e w' ⟨f, he, hf, d, hw⟩ => ⟨f, he, hf, by rw [hw]; exact below_drewN (Below.refl _ _) d⟩
theorem same_call (B1 B2 : Nat) (a : Option Addr) (l c : Nat) (b : Option Addr) (cb : Nat) (ss : List ByteArray) (w : World) (h : Rd w B1 a l c (sv ss)) (h2 : Rd w B2 b l cb (sv ss)) :
    Calls Try.prog 26 #[.slice a l c, .slice b l cb] w fun e w' => e = .returned (.bool true) ∧ Below w.heap.size w w' :=
  (same_any B1 B2 a l c b cb ss w h h2).mono fun e w' ⟨he, d, hw⟩ => ⟨he, by rw [hw]; exact below_drewN (Below.refl _ _) d⟩
/-- a row of the call's own behind what turns nothing below -/
theorem own_keep {w w' : World} {B e sz n : Nat} {v : Value} {xs : List Value} (h : w.ownsRow B e sz v n xs) (hb : Below w.heap.size w w') : w'.ownsRow B e sz v n xs :=
  (kp_of_below (ts := []) hb).own h (by simp)
theorem own_N {w : World} {B e n : Nat} {A : Option Addr} {N C : Nat} {sz : Nat} {xs : List Value} (h : w.ownsRow B e sz (.slice A N C) n xs) : N = n := by
  rcases h.2 with ⟨hv, h0⟩ | ⟨g, cap, cur, hv, _⟩
  · simp only [Value.slice.injEq] at hv; omega
  · simp only [Value.slice.injEq] at hv; omega
end Go.Proofs.Ytlaneilmffdahaa.Ln
