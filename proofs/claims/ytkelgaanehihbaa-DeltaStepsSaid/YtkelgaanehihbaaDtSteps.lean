/- Steps laid one behind the other: of lists. -/
import Derived.Test.YtkelgaanehihbaaDtApp
import Derived.Maps.AppendAt
namespace Go.Proofs.Ytkelgaanehihbaa.Dt
open Go.RowKit
set_option linter.unusedVariables false

/-- these bytes are steps that lay these bytes -/
def SOk (z bd wl : List Int) : Prop :=
  ∀ (want : Int) (rest out : List Int), (out.length : Int) + wl.length ≤ want → run z want ((bd ++ rest).length + 1) (bd ++ rest) out = run z want (rest.length + 1) rest (out ++ wl)

theorem SOk.nil (z : List Int) : SOk z [] [] := by
  intro want rest out h
  simp

theorem SOk.copy {z bd wl : List Int} (h : SOk z bd wl) (p n : Nat) (hn : 0 < n) (hp : p + n ≤ z.length) (hz : z.length ≤ 4294967295) (c : List Int) (hc : c = 1 :: nb p ++ nb n) (t : List Int) (ht : t = (z.drop p).take n) : SOk z (bd ++ c) (wl ++ t) := by
  intro want rest out hw
  have hl : ((z.drop p).take n).length = n := by rw [List.length_take, List.length_drop]; omega
  rw [hc, ht] at *
  rw [List.length_append, hl] at hw
  rw [List.append_assoc, h want _ out (by omega), run_copy z want p n rest (out ++ wl) hn hp hz (by rw [List.length_append]; omega), List.append_assoc]

theorem SOk.give {z bd wl : List Int} (h : SOk z bd wl) (n : Nat) (hn : 0 < n) (hz : n ≤ 4294967295) (t : List Int) (ht : t.length = n) (c : List Int) (hc : c = 2 :: nb n ++ t) : SOk z (bd ++ c) (wl ++ t) := by
  intro want rest out hw
  rw [hc] at *
  rw [List.length_append, ht] at hw
  rw [List.append_assoc, h want _ out (by omega), run_give z want n t rest (out ++ wl) hn ht hz (by rw [List.length_append]; omega), List.append_assoc]

theorem SOk.ap {z bd wl : List Int} (h : SOk z bd wl) (hz : z.length ≤ 4294967295) (hw : wl.length ≤ 4294967295) (d : List Int) (hd : d = nb z.length ++ nb wl.length ++ bd) : Dt.ap z d = (wl, 0) := by
  subst hd
  unfold Dt.ap
  rw [List.append_assoc, if_neg (by simp [nb]), num_nb _ _ (by omega) (by omega), if_neg (by simp)]
  have e4 : (nb (z.length : Int) ++ (nb (wl.length : Int) ++ bd)).drop 4 = nb (wl.length : Int) ++ bd := by simp [nb]
  have e8 : (nb (z.length : Int) ++ (nb (wl.length : Int) ++ bd)).drop 8 = bd := by simp [nb]
  rw [e4, e8, num_nb _ _ (by omega) (by omega)]
  rw [run_fuel z _ _ (bd.length + 1) _ _ (by simp [nb]; omega) (by omega)]
  have := h (wl.length : Int) [] [] (by simp)
  rw [List.append_nil] at this
  rw [this, run_stop z _ [] _ rfl, if_neg (by simp)]
  simp

theorem nb_small (x : Int) (h0 : 0 ≤ x) (h1 : x ≤ 65535) : nb x = [0, 0, x / 256 % 256, x % 256] := by
  unfold nb
  rw [show x / 16777216 % 256 = 0 by omega, show x / 65536 % 256 = 0 by omega]

theorem nb_mid (x : Int) (h0 : 0 ≤ x) (h1 : x ≤ 16777215) : nb x = [0, x / 65536 % 256, x / 256 % 256, x % 256] := by
  unfold nb
  rw [show x / 16777216 % 256 = 0 by omega]

/-- two rows of the call's own that lie apart -/
def Two (w : World) (B : Nat) (v : Value) (n : Nat) (d : List Int) (v2 : Value) (n2 : Nat) (d2 : List Int) : Prop :=
  w.ownsRow B 5 1 v n (bv d) ∧ w.ownsRow B 5 1 v2 n2 (bv d2) ∧ ∀ k, v.ownBlock = some k → v2.ownBlock = some k → False

theorem Two.swap {w : World} {B : Nat} {v : Value} {n : Nat} {d : List Int} {v2 : Value} {n2 : Nat} {d2 : List Int} (h : Two w B v n d v2 n2 d2) : Two w B v2 n2 d2 v n d := ⟨h.2.1, h.1, fun k a b => h.2.2 k b a⟩
theorem Two.alloc {w : World} {B : Nat} {v : Value} {n : Nat} {d : List Int} {v2 : Value} {n2 : Nat} {d2 : List Int} (h : Two w B v n d v2 n2 d2) (o : Obj) : Two (w.alloc o) B v n d v2 n2 d2 := ⟨h.1.alloc o, h.2.1.alloc o, h.2.2⟩
theorem Two.drew {w : World} {B : Nat} {v : Value} {n : Nat} {d : List Int} {v2 : Value} {n2 : Nat} {d2 : List Int} (h : Two w B v n d v2 n2 d2) : Two w.drew B v n d v2 n2 d2 := ⟨h.1.drew, h.2.1.drew, h.2.2⟩
theorem Two.nil (w : World) (B : Nat) : Two w B (.slice none 0 0) 0 [] (.slice none 0 0) 0 [] := ⟨World.ownsRow_nil w B _ 1, World.ownsRow_nil w B _ 1, fun k h _ => by simp [Value.ownBlock] at h⟩

theorem wp_append_two (w : World) {o : Oper} {a : Act} {K : Act → World → Prop} {Q : Exit → Act → World → Prop} (s x : Operand)
    (ho : o.op = .call { callee := .builtin .append, args := #[s, x], argTypes := #[22, 22] })
    (B : Nat) (v : Value) (n : Nat) (d : List Int) (v2 : Value) (n2 : Nat) (d2 : List Int) (hs : a.eval s = v) (hown : Two w B v n d v2 n2 d2)
    (A : Option Addr) (m c : Nat) (l : List Int) (hx : a.eval x = .slice A m c) (hsl : Sl w A m c l)
    (N : Nat) (hN : n + m = N) (D : List Int) (hD : d ++ l = D) (hbytes : N ≤ 140737488355328) (hbase : B ≤ w.heap.size)
    (h : ∀ A' C' w', Two w' B (.slice A' N C') N D v2 n2 d2 → Below B w w' → K (a.put o.dst (.slice A' N C')) w') :
    Oper.wp Try.prog o a w K Q := by
  subst hN hD
  obtain ⟨i0, hi, hz0, hz1, hz2⟩ := info_parts info5
  have key : ∃ A' C' w', (Builtin.append_ #[22, 22] o.type #[v, .slice A m c]).run Try.prog w = .ok (.slice A' (n + m) C') w' ∧ Two w' B (.slice A' (n + m) C') (n + m) (d ++ l) v2 n2 d2 ∧ Below B w w' := by
    cases A with
    | none =>
      have hc := hsl.hnone rfl
      have hm : m = 0 := by have := hsl.hcap; omega
      subst hm hc
      obtain rfl : l = [] := List.eq_nil_of_length_eq_zero hsl.hlen
      obtain ⟨A', C', rfl, -, -, -⟩ := own_shape hown.1
      refine ⟨A', C', w, run_app_none w B n _ _ _ i0 hi hown.1, ?_, Below.refl B w⟩
      rw [List.append_nil]
      exact hown
    | some x =>
      have hnw : ∀ j u, (bv l)[j]? = some u → w.cell? (x.add j) = some u := by
        intro j u hj
        obtain ⟨hj1, hj2⟩ := List.getElem?_eq_some_iff.1 hj
        rw [bv, List.length_map, hsl.hlen] at hj1
        obtain ⟨b, off, he, hc⟩ := hsl.hcell j hj1
        simp only [Option.some.injEq] at he
        subst he
        rw [show Addr.add ⟨b, off, none⟩ j = (⟨b, off + j, none⟩ : Addr) from by simp [Addr.add], hc, ← hj2]
        have : j < l.length := by rw [hsl.hlen]; exact hj1
        simp [bv, this]
      obtain ⟨v', w', hr, h2, h3, h4, h5⟩ := run_append_own_at (P := Try.prog) w B 22 o.type 5 i0 (.int .u8 0) 1 1 Try.underlying22 hi hz0 hz1 hz2 rfl (by decide) v n (bv d) hown.1 x m c (bv l) (by rw [bv, List.length_map, hsl.hlen]; omega) hnw (bv_one l) (by unfold maxLen; omega) (by omega) hbase
      obtain ⟨A', C', rfl, -, -, -⟩ := own_shape h2
      refine ⟨A', C', w', hr, ⟨own_zero h2 (by simp [bv]) rfl, ?_, ?_⟩, below_grown hbase hown.1 h3⟩
      · refine hown.2.1.kept h3 ?_
        cases hv2 : v2.ownBlock with
        | none => exact .inl rfl
        | some k => exact .inr fun e => hown.2.2 k e.symm hv2
      · intro k h6 h7
        rcases h5 with h5 | h5
        · exact hown.2.2 k (by rw [← h5]; exact h6) h7
        · have := (hown.2.1.lt k h7).2
          rw [h5] at h6
          simp only [Option.some.injEq] at h6
          omega
  obtain ⟨A', C', w', hr, h2, h3⟩ := key
  unfold Oper.wp execOp
  simp only [ho, resolve, invoke, builtin, Sem.run_bind, Sem.run_pure, Result.andThen_ok, List.map_toArray, List.map_cons, List.map_nil, hs, hx, hr]
  exact h A' C' w' h2 h3

theorem wpList_append_two (w : World) {ops : Array Oper} {rest : List Oper} {o : Oper} {a : Act} {Q : Exit → Act → World → Prop} (hgd : o.guard = none) (s x : Operand)
    (ho : o.op = .call { callee := .builtin .append, args := #[s, x], argTypes := #[22, 22] })
    (B : Nat) (v : Value) (n : Nat) (d : List Int) (v2 : Value) (n2 : Nat) (d2 : List Int) (hs : a.eval s = v) (hown : Two w B v n d v2 n2 d2)
    (A : Option Addr) (m c : Nat) (l : List Int) (hx : a.eval x = .slice A m c) (hsl : Sl w A m c l)
    (N : Nat) (hN : n + m = N) (D : List Int) (hD : d ++ l = D) (hbytes : N ≤ 140737488355328) (hbase : B ≤ w.heap.size)
    (h : ∀ A' C' w', Two w' B (.slice A' N C') N D v2 n2 d2 → Below B w w' → wpList Try.prog ops Q rest (a.put o.dst (.slice A' N C')) w') :
    wpList Try.prog ops Q (o :: rest) a w :=
  wpList_plain hgd fun K hK => wp_append_two w s x ho B v n d v2 n2 d2 hs hown A m c l hx hsl N hN D hD hbytes hbase fun A' C' w' h2 h3 => hK _ _ (h A' C' w' h2 h3)

theorem step_append_two (w : World) {ops : Array Oper} {o : Oper} {a : Act} {K : Act → World → Prop} {Q : Exit → Act → World → Prop} {E : Prop} (hgd : o.guard = none) (s x : Operand)
    (ho : o.op = .call { callee := .builtin .append, args := #[s, x], argTypes := #[22, 22] })
    (B : Nat) (v : Value) (n : Nat) (d : List Int) (v2 : Value) (n2 : Nat) (d2 : List Int) (hs : a.eval s = v) (hown : Two w B v n d v2 n2 d2)
    (A : Option Addr) (m c : Nat) (l : List Int) (hx : a.eval x = .slice A m c) (hsl : Sl w A m c l)
    (N : Nat) (hN : n + m = N) (D : List Int) (hD : d ++ l = D) (hbytes : N ≤ 140737488355328) (hbase : B ≤ w.heap.size)
    (h : ∀ A' C' w', Two w' B (.slice A' N C') N D v2 n2 d2 → Below B w w' → K (a.put o.dst (.slice A' N C')) w') :
    if Region.wanted o (yielded ops a.tmps) = true then Oper.wp Try.prog o a w K Q else E := by
  have hw : Region.wanted o (yielded ops a.tmps) = true := by simp [Region.wanted, hgd]
  rw [if_pos hw]
  exact wp_append_two w s x ho B v n d v2 n2 d2 hs hown A m c l hx hsl N hN D hD hbytes hbase h

theorem own_new (w : World) (l : List Int) (n : Nat) (hn : l.length = n) (hm : n ≤ 140737488355328) : (w.alloc (.cells (bv l).toArray 5)).ownsRow w.heap.size 5 1 (.slice (some ⟨w.heap.size, 0, none⟩) n n) n (bv l) := by
  subst hn
  refine ⟨by simp [bv], Or.inr ⟨w.heap.size, l.length, (bv l).toArray, rfl, Nat.le_refl _, ?_, Nat.le_refl _, by unfold maxLen; omega, by simp [bv], ?_⟩⟩
  · show (w.heap.push _)[w.heap.size]? = _
    simp
  · rw [Nat.mul_one]
    exact List.take_of_length_le (by simp [bv])
end Go.Proofs.Ytkelgaanehihbaa.Dt
