/- What stands in SumWrites' loop. -/
import Derived.Test.YtgmcdkkjemjneaaSmAll
import Derived.Test.YtgmcdkkjemjneaaFrBools
import Derived.Maps.AppendAt
namespace Go.Proofs.Ytgmcdkkjemjneaa.Sm
open Go.RowKit
set_option linter.unusedVariables false

/-- the Hash stands behind E; b is a row of one's own that holds D -/
structure St (w wr : World) (H Bb : Nat) (vb : Value) (n : Nat) (D E : List Int) : Prop where
  hash : ∃ F, wr.rowIs H 56 73 F ∧ Hs E F
  own : wr.ownsRow Bb 5 1 vb n (bv D)
  bel : Below w.heap.size w wr
  hH : w.heap.size ≤ H
  hHB : H < Bb
  hBb : Bb ≤ wr.heap.size

theorem St.keep {w wr wr' : World} {H Bb n : Nat} {vb : Value} {D E : List Int} (h : St w wr H Bb vb n D E) (hb : Below wr.heap.size wr wr') : St w wr' H Bb vb n D E := by
  obtain ⟨F, hr, hs⟩ := h.hash
  exact ⟨⟨F, hr.of_block (hb.block H hr.lt), hs⟩, own_keep h.own hb, h.bel.trans (hb.mono h.bel.size), h.hH, h.hHB, Nat.le_trans h.hBb hb.size⟩
theorem own_grown {w w' : World} {B n : Nat} {v : Value} {xs : List Value} {k : Nat} (h : w.ownsRow B 5 1 v n xs) (hg : w.grownBy w' (some k)) (hk : v.ownBlock ≠ some k) : w'.ownsRow B 5 1 v n xs := by
  refine h.kept hg ?_
  cases hv : v.ownBlock with
  | none => exact .inl rfl
  | some j => exact .inr fun e => hk (by rw [hv]; exact e)
theorem St.grownH {w wr wr' : World} {H Bb n : Nat} {vb : Value} {D E E' : List Int} (h : St w wr H Bb vb n D E) (hg : wr.grownBy wr' (some H)) (hh : ∃ F, wr'.rowIs H 56 73 F ∧ Hs E' F) : St w wr' H Bb vb n D E' :=
  ⟨hh, own_grown h.own hg (fun e => by have := (h.own.lt H e).1; have := h.hHB; omega), h.bel.grown hg h.bel.size (fun k hk => by
    have := Option.some.inj hk
    have := h.hH
    omega), h.hH, h.hHB, Nat.le_trans h.hBb hg.size⟩
theorem own_more {w : World} {B B' n : Nat} {v : Value} {xs : List Value} (h : w.ownsRow B 5 1 v n xs) (hB : B' ≤ B) : w.ownsRow B' 5 1 v n xs := by
  refine ⟨h.1, ?_⟩
  rcases h.2 with h2 | ⟨g, cap, cur, hv, hb, r⟩
  · exact .inl h2
  · exact .inr ⟨g, cap, cur, hv, Nat.le_trans hB hb, r⟩

/-- b is made longer; another row of one's own stays -/
theorem wpList_append_pair (w : World) {ops : Array Oper} {rest : List Oper} {o : Oper} {a : Act} {Q : Exit → Act → World → Prop} (hgd : o.guard = none) (s x : Operand)
    (ho : o.op = .call { callee := .builtin .append, args := #[s, x], argTypes := #[24, 24] })
    (B : Nat) (v : Value) (n : Nat) (d : List Int) (hs : a.eval s = v) (hown : w.ownsRow B 5 1 v n (bv d))
    (v2 : Value) (n2 : Nat) (d2 : List Value) (hown2 : w.ownsRow B 5 1 v2 n2 d2) (hap : ∀ k, v.ownBlock = some k → v2.ownBlock = some k → False)
    (A : Option Addr) (m c : Nat) (l : List Int) (hx : a.eval x = .slice A m c) (hsl : RdB w A m c l)
    (hbytes : (n + m) * 1 ≤ 140737488355328) (hbase : B ≤ w.heap.size)
    (h : ∀ A' C' w', w'.ownsRow B 5 1 (.slice A' (n + m) C') (n + m) (bv (d ++ l)) → w'.ownsRow B 5 1 v2 n2 d2 → (∀ k, (Value.slice A' (n + m) C').ownBlock = some k → v2.ownBlock = some k → False) → Below B w w' → wpList Try.prog ops Q rest (a.put o.dst (.slice A' (n + m) C')) w') :
    wpList Try.prog ops Q (o :: rest) a w := by
  refine wpList_plain hgd fun K hK => ?_
  obtain ⟨i0, hi, hz0, hz1, hz2⟩ := info_parts info5
  have key : ∃ A' C' w', (Builtin.append_ #[24, 24] o.type #[v, .slice A m c]).run Try.prog w = .ok (.slice A' (n + m) C') w' ∧ w'.ownsRow B 5 1 (.slice A' (n + m) C') (n + m) (bv (d ++ l)) ∧ w'.ownsRow B 5 1 v2 n2 d2 ∧ (∀ k, (Value.slice A' (n + m) C').ownBlock = some k → v2.ownBlock = some k → False) ∧ Below B w w' := by
    cases A with
    | none =>
      have hc := hsl.none rfl
      have hm : m = 0 := by have := hsl.cap; omega
      subst hm hc
      obtain rfl : l = [] := List.eq_nil_of_length_eq_zero hsl.len
      obtain ⟨A', C', rfl⟩ := own_slice' hown
      refine ⟨A', C', w, run_append_owned_none (P := Try.prog) w B 24 o.type 5 i0 1 Try.underlying24 hi _ _ _ hown, ?_, hown2, hap, Below.refl B w⟩
      rw [List.append_nil]
      exact hown
    | some y =>
      obtain ⟨-, hcc⟩ := hsl.cell y rfl
      have hll := hsl.len
      have hnw : ∀ j u, (bv l)[j]? = some u → w.cell? (y.add j) = some u := by
        intro j u hj
        have hj1 := (List.getElem?_eq_some_iff.1 hj).1
        rw [bv, List.length_map, hll] at hj1
        rw [hcc j hj1, ← hj]
        simp [bv, hll, hj1]
      obtain ⟨v', w', hr, h2, h3, h4, h5⟩ := run_append_own_at (P := Try.prog) w B 24 o.type 5 i0 (.int .u8 0) 1 1 Try.underlying24 hi hz0 hz1 hz2 rfl (by decide) v n (bv d) hown y m c (bv l) (by rw [bv, List.length_map, hll]; omega) hnw (bv_one l) (by unfold maxLen; omega) hbytes hbase
      obtain ⟨A', C', rfl⟩ := own_slice' h2
      refine ⟨A', C', w', hr, by rw [show bv (d ++ l) = bv d ++ bv l from by simp [bv]]; exact h2, ?_, ?_, below_grown hbase hown h3⟩
      · refine hown2.kept h3 ?_
        cases hv2 : v2.ownBlock with
        | none => exact .inl rfl
        | some k => exact .inr fun e => hap k e.symm hv2
      · intro k h6 h7
        rcases h5 with h5 | h5
        · exact hap k (by rw [← h5]; exact h6) h7
        · have := (hown2.lt k h7).2
          rw [h5] at h6
          simp only [Option.some.injEq] at h6
          omega
  obtain ⟨A', C', w', hr, h2, h3, h4, h5⟩ := key
  unfold Oper.wp execOp
  simp only [ho, resolve, invoke, builtin, Sem.run_bind, Sem.run_pure, Result.andThen_ok, List.map_toArray, List.map_cons, List.map_nil, hs, hx, hr]
  exact hK _ _ (h A' C' w' h2 h3 h4 h5)

/-- a cell of the other row is stored -/
theorem own_store {w : World} {B : Nat} {A : Option Addr} {n C : Nat} {xs : List Value} (h : w.ownsRow B 5 1 (.slice A n C) n xs) (i : Nat) (hi : i < n) :
    ∃ g, A = some ⟨g, 0, none⟩ ∧ B ≤ g ∧ (∃ v, w.cell? ⟨g, i, none⟩ = some v) ∧ w.frozen? ⟨g, i, none⟩ = false ∧ ∀ u, ∃ ys, (w.setCell ⟨g, i, none⟩ u).ownsRow B 5 1 (.slice A n C) n ys := by
  have hl := h.1
  have h0 := h
  rcases h.2 with ⟨hv, hn⟩ | ⟨g, cap, cur, hv, hb, hg, hnc, hcm, hcs, htake⟩
  · omega
  · simp only [Value.slice.injEq, true_and] at hv
    obtain ⟨rfl, rfl⟩ := hv
    refine ⟨g, rfl, hb, ⟨xs[i]'(by omega), ?_⟩, h0.frozenAt i, fun u => ⟨_, (h0.stored i u).1⟩⟩
    rw [h0.cellAt i (by omega)]
    exact List.getElem?_eq_getElem _
theorem grown_setCell (w : World) (g i : Nat) (v : Value) : w.grownBy (w.setCell ⟨g, i, none⟩ v) (some g) :=
  ⟨rfl, rfl, rfl, by simp [World.setCell], fun k hk hne => Below.heap_setCell w ⟨g, i, none⟩ v k (fun e => hne (by rw [e]))⟩
theorem St.setM {w wr : World} {H Bb n g : Nat} {vb : Value} {D E : List Int} (h : St w wr H Bb vb n D E) (hg : Bb ≤ g) (hne : vb.ownBlock ≠ some g) (i : Nat) (v : Value) : St w (wr.setCell ⟨g, i, none⟩ v) H Bb vb n D E := by
  obtain ⟨F, hr, hs⟩ := h.hash
  have hH := h.hHB
  have hW := h.hH
  exact ⟨⟨F, hr.setOther (by show H ≠ g; omega) v, hs⟩, own_grown h.own (grown_setCell wr g i v) hne, h.bel.setCell (by show w.heap.size ≤ g; omega) v, h.hH, h.hHB, by simpa [World.setCell] using h.hBb⟩
theorem RdB.of_own2 {w : World} {B n : Nat} {A : Option Addr} {C : Nat} {l : List Int} (h : w.ownsRow B 5 1 (.slice A n C) n (bv l)) (hn : n ≤ 140737488355328) (hb : ∀ i, i < n → 0 ≤ l.getD i 0 ∧ l.getD i 0 ≤ 255) : RdB w A n C l := by
  obtain ⟨A2, C2, he, hr⟩ := RdB.of_own' h hn hb
  simp only [Value.slice.injEq, true_and] at he
  obtain ⟨rfl, rfl⟩ := he
  exact hr
theorem bools_cell {w : World} {a : Option Addr} {len cap : Nat} {zs : List Bool} (h : Fr.IsBools w a len cap zs) (i : Nat) (hi : i < len) : ∃ b off, a = some ⟨b, off, none⟩ ∧ b < w.heap.size ∧ w.cell? ⟨b, off + i, none⟩ = some (.bool (zs.getD i false)) := by
  rcases h with ⟨rfl, rfl, rfl, rfl⟩ | ⟨x, rfl, hl, hm, hz, hc⟩
  · omega
  · obtain ⟨b, off, spot⟩ := x
    have hspot : spot = none := by simpa [Addr.add] using World.cell?_spot (hc 0 (by omega))
    subst hspot
    exact ⟨b, off, rfl, by simpa [Addr.add] using block_lt_of_cell (hc 0 (by omega)), by rw [← hc i hi]; congr 1; simp [Addr.add]⟩
theorem bools_cap {w : World} {a : Option Addr} {len cap : Nat} {zs : List Bool} (h : Fr.IsBools w a len cap zs) : len ≤ cap ∧ cap ≤ 140737488351232 := by
  rcases h with ⟨rfl, rfl, rfl, rfl⟩ | ⟨x, rfl, hl, hm, hz, hc⟩
  · omega
  · omega
/-- the sum so far -/
theorem St.sum {w wr : World} {H Bb n : Nat} {vb : Value} {D E : List Int} (h : St w wr H Bb vb n D E) (hn : E.length ≤ 1099511627776) (hE : ∀ i, i < E.length → 0 ≤ E.getD i 0 ∧ E.getD i 0 ≤ 255) :
    Calls Try.prog 13 #[.pointer (some ⟨H, 0, none⟩)] wr fun e w' => e = .returned (.agg (bv (sha E)).toArray) ∧ Below wr.heap.size wr w' := by
  obtain ⟨F, hr, hs⟩ := h.hash
  exact sum_any H 56 F E wr hr hs _ rfl hn hE
/-- a row is written -/
theorem St.write {w wr : World} {H Bb n : Nat} {vb : Value} {D E : List Int} (h : St w wr H Bb vb n D E) {B m C : Nat} {A : Option Addr} {l : List Int} (hm : wr.ownsRow B 5 1 (.slice A m C) m (bv l)) (hB : H < B) (hm2 : m ≤ 1000000) (hE2 : E.length ≤ 1000000) (hl : ∀ i, i < m → 0 ≤ l.getD i 0 ∧ l.getD i 0 ≤ 255) (hE : ∀ i, i < E.length → 0 ≤ E.getD i 0 ∧ E.getD i 0 ≤ 255) :
    Calls Try.prog 12 #[.pointer (some ⟨H, 0, none⟩), .slice (some ⟨wr.heap.size, 0, none⟩) 1 1] (wr.alloc (.cells #[.slice A m C] 24)) fun e w' => e = .returned (.tuple #[]) ∧ St w w' H Bb vb n D (E ++ l) ∧ w'.ownsRow B 5 1 (.slice A m C) m (bv l) ∧ wr.heap.size ≤ w'.heap.size := by
  have hb := (Below.refl wr.heap.size wr).alloc (Nat.le_refl _) (.cells #[.slice A m C] 24)
  have hs := al_lt wr (.cells #[.slice A m C] 24)
  have hc : (wr.alloc (.cells #[.slice A m C] 24)).cell? ⟨wr.heap.size, 0, none⟩ = some (.slice A m C) := by
    rw [World.cell?_alloc_new]; rfl
  have h2 := h.keep hb
  obtain ⟨F, hr, hsF⟩ := h2.hash
  have hHw := hr.lt
  have hHB := h.hHB
  have hBb := h.hBb
  have hm3 := own_keep hm hb
  have hrd := RdB.of_own2 hm3 (by omega) hl
  have hne : ∀ k, (Value.slice A m C).ownBlock = some k → k ≠ H := fun k hk => by have := (hm3.lt k hk).1; omega
  have hok := hrd.rowOk H wr.heap.size (by omega) hs (fun x hx _ => hne x.block (by rw [hx]; rfl))
  have hl1 : rowsTo (fun _ => l) 1 = l := by simp [rowsTo]
  have hll := hrd.len
  refine (write_any H 56 F E (some ⟨wr.heap.size, 0, none⟩) wr.heap.size 0 1 1 (fun _ => A) (fun _ => m) (fun _ => C) (fun _ => l) _ hr hsF (by omega) (by omega) (by omega) (fun _ => rfl) (by omega) hs (fun i hi => by
    rw [show 0 + i = 0 by omega]; exact hc) (fun i hi => hok) (fun k hk => by
    rcases (show k = 0 ∨ k = 1 by omega) with rfl | rfl
    · simp [rowsTo]; omega
    · rw [hl1, hll]; omega) hE).mono fun e w' ⟨he, hF, hg, _⟩ => ?_
  rw [hl1] at hF
  exact ⟨he, h2.grownH hg hF, own_grown hm3 hg (fun e => hne H e rfl), Nat.le_trans (Nat.le_of_lt hs) hg.size⟩
end Go.Proofs.Ytgmcdkkjemjneaa.Sm
