/- Rows of entries: that came in, of one's own, copied; bytes of one's own as text. -/
import Derived.Test.YtmcmapgllaopmaaCdSame
namespace Go.Proofs.Ytmcmapgllaopmaa.Cd
open Go.RowKit
set_option linter.unusedVariables false

/-- entries that came in -/
theorem RdE.of_ents {w : World} {a : Option Addr} {n cap : Nat} {es : List Fr.Ent} (h : Fr.IsEnts w a n cap es) (hn : n ≤ 1000000) : RdE w a n cap es := by
  rcases h with ⟨rfl, rfl, rfl, rfl⟩ | ⟨x, rfl, hl, hc, hlen, hcell, hwf⟩
  · exact ⟨rfl, Nat.le_refl _, by omega, by omega, fun x hx => by simp at hx, fun h0 => absurd h0 (by omega)⟩
  · refine ⟨hlen, hl, by omega, hn, fun x hx => ⟨(hwf x hx).2.2.1, (hwf x hx).1⟩, fun h0 => ?_⟩
    have hc0 := hcell 0 h0 0 _ rfl
    obtain ⟨b, off, spot⟩ := x
    have hspot : spot = Option.none := by simpa [Addr.add] using World.cell?_spot hc0
    subst hspot
    refine ⟨b, off, rfl, by simpa [Addr.add] using block_lt_of_cell hc0, fun i hi j v hj => ?_⟩
    have := hcell i hi j v hj
    rw [Addr.add_mid, Addr.add_mid] at this
    exact this
theorem entsV_len : ∀ q : List Fr.Ent, (∀ x ∈ q, x.id.length = 32) → (entsV q).length = q.length * 34 := by
  intro q
  induction q with
  | nil => intro _; rfl
  | cons y q ih =>
    intro hq
    have h1 := ih (fun z hz => hq z (List.mem_cons_of_mem _ hz))
    have h2 := ent_len y (hq y (List.mem_cons_self ..))
    simp only [entsV, List.flatMap_cons, List.length_append, List.length_cons] at *
    omega
theorem entsV_get : ∀ (l : List Fr.Ent), (∀ x ∈ l, x.id.length = 32) → ∀ i j, i < l.length → j < 34 → (entsV l)[i * 34 + j]? = (l.getD i default).cells[j]?
  | [], _, i, j, hi, _ => absurd hi (by simp)
  | x :: l, h, 0, j, _, hj => by
    have hx := ent_len x (h x (List.mem_cons_self ..))
    rw [entsV, List.flatMap_cons, List.getElem?_append_left (by omega)]
    simp
  | x :: l, h, i + 1, j, hi, hj => by
    have hx := ent_len x (h x (List.mem_cons_self ..))
    rw [entsV, List.flatMap_cons, List.getElem?_append_right (by omega), show (i + 1) * 34 + j - x.cells.length = i * 34 + j by omega]
    exact entsV_get l (fun y hy => h y (List.mem_cons_of_mem _ hy)) i j (by simpa using hi) hj
/-- entries of one's own -/
theorem RdE.of_own {w : World} {B n : Nat} {Ae : Option Addr} {Ce : Nat} {es : List Fr.Ent} (h : w.ownsRow B 87 34 (.slice Ae n Ce) n (entsV es)) (hid : ∀ x ∈ es, x.id.length = 32 ∧ x.name.size ≤ 140737488351232) (hn : n ≤ 1000000) (he : es.length = n) : RdE w Ae n Ce es := by
  rcases h.2 with ⟨hv, hz⟩ | ⟨g, cap, cur, hv, hb, hg, hnc, hcm, hcs, htake⟩
  · simp only [Value.slice.injEq] at hv
    obtain ⟨rfl, -, rfl⟩ := hv
    subst hz
    exact ⟨he, Nat.le_refl _, by omega, by omega, hid, fun h => absurd h (by omega)⟩
  · simp only [Value.slice.injEq, true_and] at hv
    obtain ⟨rfl, rfl⟩ := hv
    refine ⟨he, hnc, hcm, hn, hid, fun h0 => ⟨g, 0, rfl, ?_, fun i hi j v hj => ?_⟩⟩
    · rcases Nat.lt_or_ge g w.heap.size with h | h
      · exact h
      · rw [Array.getElem?_eq_none h] at hg; simp at hg
    · have hx := ent_len (es.getD i default) (hid _ (getDE_mem (by omega))).1
      have hj2 : j < 34 := by have := (List.getElem?_eq_some_iff.1 hj).1; omega
      rw [Nat.zero_add, World.ownsRow.cellAt h _ (by omega), entsV_get es (fun x hx => (hid x hx).1) i j (by omega) hj2]
      exact hj
/-- entries are laid behind a row of one's own -/
theorem wpList_append_ents (w : World) {ops : Array Oper} {rest : List Oper} {o : Oper} {a : Act} {Q : Exit → Act → World → Prop} (hgd : o.guard = none) (s x : Operand)
    (ho : o.op = .call { callee := .builtin .append, args := #[s, x], argTypes := #[22, 22] })
    (B : Nat) (v : Value) (n : Nat) (d : List Fr.Ent) (hs : a.eval s = v) (hown : w.ownsRow B 87 34 v n (entsV d))
    (A : Option Addr) (m c : Nat) (l : List Fr.Ent) (hx : a.eval x = .slice A m c) (hsl : RdE w A m c l) (hnone : A = none → m = 0 ∧ c = 0)
    (hn : n ≤ 1000000) (hbase : B ≤ w.heap.size)
    (h : ∀ A' C' w', w'.ownsRow B 87 34 (.slice A' (n + m) C') (n + m) (entsV (d ++ l)) → w.grownBy w' v.ownBlock → wpList Try.prog ops Q rest (a.put o.dst (.slice A' (n + m) C')) w') : wpList Try.prog ops Q (o :: rest) a w := by
  refine wpList_plain hgd fun K hK => ?_
  obtain ⟨i0, hi, hz0, hz1, hz2⟩ := info_parts info87
  have hbig := hsl.big
  have hll := hsl.len
  have key : ∃ A' C' w', (Builtin.append_ #[22, 22] o.type #[v, .slice A m c]).run Try.prog w = .ok (.slice A' (n + m) C') w' ∧ w'.ownsRow B 87 34 (.slice A' (n + m) C') (n + m) (entsV (d ++ l)) ∧ w.grownBy w' v.ownBlock := by
    cases hA : A with
    | none =>
      obtain ⟨hm, hc⟩ := hnone hA
      subst hm hc
      obtain rfl : l = [] := List.eq_nil_of_length_eq_zero hll
      obtain ⟨A', C', rfl⟩ := own_slice' hown
      refine ⟨A', C', w, run_append_owned_none (P := Try.prog) w B 22 o.type 87 i0 34 Try.underlying22 hi _ _ _ hown, ?_, World.grownBy.refl w _⟩
      rw [List.append_nil]
      exact hown
    | some y =>
      have hok := fun z hz => (hsl.ok z hz).1
      have hel := entsV_len l hok
      have hnw : ∀ j u, (entsV l)[j]? = some u → w.cell? (y.add j) = some u := by
        intro j u hj
        have hj1 := (List.getElem?_eq_some_iff.1 hj).1
        obtain ⟨g, o2, h1, h2, h3⟩ := hsl.cell (by omega)
        rw [hA] at h1
        obtain rfl := Option.some.inj h1
        have e1 : j = j / 34 * 34 + j % 34 := by omega
        rw [e1, entsV_get l hok (j / 34) (j % 34) (by omega) (by omega)] at hj
        have h4 := h3 (j / 34) (by omega) (j % 34) u hj
        rw [Addr.add_mid]
        rw [show o2 + j / 34 * 34 + j % 34 = o2 + j by omega] at h4
        exact h4
      obtain ⟨v', w', hr, h2, h3, h4⟩ := run_append_own (P := Try.prog) w B 22 o.type 87 i0 (.agg (ent ByteArray.empty 0 (List.replicate 32 0)).toArray) 34 56 Try.underlying22 hi hz0 hz1 hz2 (by simp [Value.cells, ent, bv]) (by decide) v n (entsV d) hown y m c (entsV l) (by rw [hel, hll]) hnw (fun u hu => by
        obtain ⟨z, hz, hu2⟩ := List.mem_flatMap.1 hu
        exact ent_one z u hu2) (by unfold maxLen; omega) (by omega) hbase
      obtain ⟨A', C', rfl⟩ := own_slice' h2
      exact ⟨A', C', w', hr, by rw [show entsV (d ++ l) = entsV d ++ entsV l from by simp [entsV]]; exact h2, h3⟩
  obtain ⟨A', C', w', hr, h2, h3⟩ := key
  unfold Oper.wp execOp
  simp only [ho, resolve, invoke, builtin, Sem.run_bind, Sem.run_pure, Result.andThen_ok, List.map_toArray, List.map_cons, List.map_nil, hs, hx, hr]
  exact hK _ _ (h A' C' w' h2 h3)
/-- bytes of one's own as a text -/
theorem conv_own' {w : World} {B n : Nat} {v : Value} {l : List Int} (h : w.ownsRow B 5 1 v n (bv l)) : (convert 23 9 v).run Try.prog w = .ok (.string (sb l)) w := by
  have hl : l.length = n := by have := h.1; simpa [bv] using this
  rcases h.2 with ⟨rfl, rfl⟩ | ⟨g, cap, cur, rfl, hg, hh, hc1, hc2, hc3, ht⟩
  · obtain rfl : l = [] := List.eq_nil_of_length_eq_zero hl
    exact Lib.run_convert_nil_bytes w _ _ 5 0 Try.underlying23 Try.underlying5 Try.underlying9
  · have := conv_own h n (Nat.le_refl _)
    rw [List.take_of_length_le (by omega)] at this
    exact this
theorem RdE.nil (w : World) : RdE w none 0 0 [] := ⟨rfl, Nat.le_refl _, by omega, by omega, fun x hx => by simp at hx, fun h => absurd h (by omega)⟩
end Go.Proofs.Ytmcmapgllaopmaa.Cd
