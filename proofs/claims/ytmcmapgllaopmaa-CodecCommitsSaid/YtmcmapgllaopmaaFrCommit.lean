/- What a walk is told of a commit (an Id, a slice of Ids, a text, a number, a text) that came in by value. -/
import Derived.Test.YtmcmapgllaopmaaFrOpen
import Derived.Deep.Slices
namespace Go.Proofs.Ytmcmapgllaopmaa.Fr
open Go.ChangeShapes Go.WideShapes Go.ChangeAt Go.RowKit
set_option linter.unusedVariables false
set_option linter.unusedSimpArgs false

/-- nil; or 'len' Ids in cells that lie side by side. -/
def IsIds (w : World) (a : Option Addr) (len cap : Nat) (ids : List (List Int)) : Prop :=
  (a = none ∧ len = 0 ∧ cap = 0 ∧ ids = []) ∨
  ∃ x : Addr, a = some x ∧ len ≤ cap ∧ cap * 32 ≤ 140737488351232 ∧ ids.length = len ∧ (∀ i, i < len → ∀ j v, ((ids.getD i []).map (Value.int .u8))[j]? = some v → w.cell? ((x.add (i * 32)).add j) = some v) ∧ (∀ e ∈ ids, IsId e)

theorem idsl_w {H : Type} {enc : TypeId × Value → H} {P : Program} {W : World} {t e te : TypeId} {fuel : Nat} {cs : List Value} {y : DataW H × List MemPlace}
    (hu : P.underlying t = some (.slice e)) (he : P.underlying e = some (.array 32 te)) (ce : P.cellsOf e = 32) (be : P.bytesOf e = 32) (ue : P.underlying te = some (.int .u8)) (cte : P.cellsOf te = 1)
    (hw : WOk P t y.1) (h : DataW.trod enc P W 0 (fun _ => true) true fuel t cs = some y) :
    ∃ a len cap ids, cs = [.slice a len cap] ∧ IsIds W a len cap ids := by
  rcases Go.Deep.open_slice hu h with ⟨rfl, _⟩ | ⟨x, len, cap, m, n, D, Pl, rfl, _, hl, hm, hmm, hx, hcell⟩
  · exact ⟨none, 0, 0, [], rfl, .inl ⟨rfl, rfl, rfl, rfl⟩⟩
  · simp only [if_true] at hmm
    subst hmm
    rw [hx] at hw
    have h1 := wOk_len hu hw
    rw [be] at h1
    simp only [List.length_map, List.length_range, reachBytes] at h1
    have each : ∀ i, i < len → ∃ q : List Int, (∀ j v, (q.map (Value.int .u8))[j]? = some v → W.cell? ((x.add (i * 32)).add j) = some v) ∧ IsId q := by
      intro i hi
      obtain ⟨cs', g1, g2⟩ := hcell i (by omega)
      rw [ce] at g1
      obtain ⟨_, hlen, hcl⟩ := World.cells?_some g1
      obtain ⟨q, hq, wq⟩ := id_w he ue cte hlen g2
      refine ⟨q, fun j v hj => ?_, wq⟩
      have hj2 : cs'[j]? = some v := by rw [hq]; exact hj
      have hjl := (List.getElem?_eq_some_iff.1 hj2).1
      rw [hcl j (by omega), hj2]
    have hes : ∃ es : List (List Int), es.length = len ∧ ∀ i, i < len → (∀ j v, ((es.getD i []).map (Value.int .u8))[j]? = some v → W.cell? ((x.add (i * 32)).add j) = some v) ∧ IsId (es.getD i []) := by
      have g : ∀ k, k ≤ len → ∃ es : List (List Int), es.length = k ∧ ∀ i, i < k → (∀ j v, ((es.getD i []).map (Value.int .u8))[j]? = some v → W.cell? ((x.add (i * 32)).add j) = some v) ∧ IsId (es.getD i []) := by
        intro k
        induction k with
        | zero => intro _; exact ⟨[], rfl, fun i hi => absurd hi (by omega)⟩
        | succ k ih =>
          intro hk
          obtain ⟨es, hl2, hall⟩ := ih (by omega)
          obtain ⟨y, hy, wy⟩ := each k (by omega)
          refine ⟨es ++ [y], by simp [hl2], fun i hi => ?_⟩
          by_cases e : i < k
          · have : (es ++ [y]).getD i [] = es.getD i [] := by simp [List.getD, List.getElem?_append_left (show i < es.length by omega)]
            rw [this]; exact hall i e
          · have e2 : i = k := by omega
            subst e2
            have : (es ++ [y]).getD i [] = y := by simp [List.getD, hl2]
            rw [this]; exact ⟨hy, wy⟩
      exact g len (Nat.le_refl _)
    obtain ⟨es, hl2, hall⟩ := hes
    refine ⟨some x, len, _, es, rfl, .inr ⟨x, rfl, hl, ?_, hl2, fun i hi => (hall i hi).1, fun e he' => ?_⟩⟩
    · omega
    · obtain ⟨i, hi, rfl⟩ := List.getElem_of_mem he'
      have := (hall i (by omega)).2
      simpa [List.getD, hi] using this

/-- a commit -/
theorem isCommit_of {H : Type} {enc : TypeId × Value → H} {P : Program} {W : World} {r : Reach} {b0 : Nat} {t ti te : TypeId} {f0 f1 f2 f3 f4 : Field} {v : Value} {d : DataW H} {p : List MemPlace}
    (hs : P.underlying t = some (.struct #[f0, f1, f2, f3, f4])) (ct : P.cellsOf t = 36) (o0 : f0.offset = 0) (o1 : f1.offset = 32) (o2 : f2.offset = 33) (o3 : f3.offset = 34) (o4 : f4.offset = 35)
    (c0 : P.cellsOf f0.type = 32) (c1 : P.cellsOf f1.type = 1) (c2 : P.cellsOf f2.type = 1) (c3 : P.cellsOf f3.type = 1) (c4 : P.cellsOf f4.type = 1)
    (u0 : P.underlying f0.type = some (.array 32 te)) (u1 : P.underlying f1.type = some (.slice ti)) (u2 : P.underlying f2.type = some .string) (u3 : P.underlying f3.type = some (.int .i64)) (u4 : P.underlying f4.type = some .string)
    (ui : P.underlying ti = some (.array 32 te)) (ue : P.underlying te = some (.int .u8)) (cte : P.cellsOf te = 1) (ci : P.cellsOf ti = 32) (bi : P.bytesOf ti = 32)
    (hv : Value.okWide P W r b0 t v) (hw : WOk P t d) (h : DataW.Trod enc P W 0 (fun _ => true) true t v d p) :
    ∃ tr a len cap ids au k ms, v = .agg (tr.map (Value.int .u8) ++ [.slice a len cap, .string au, .int .i64 k, .string ms]).toArray ∧ IsId tr ∧ IsIds W a len cap ids ∧ au.size ≤ 140737488351232 ∧ (Lit.int .i64 k).wf = true ∧ ms.size ≤ 140737488351232 := by
  unfold Value.okWide at hv
  simp only [hs] at hv
  obtain ⟨cs, rfl, hsz, -⟩ := hv
  obtain ⟨fuel, hf⟩ := h
  obtain ⟨xs, n, -, hx, -, hxl, hfs⟩ := DataW.trod_struct hs hf
  obtain ⟨l⟩ := cs
  rw [ct] at hsz
  have hl : l.length = 36 := by simpa using hsz
  obtain ⟨q, x1, x2, x3, x4, rfl, hq⟩ : ∃ q x1 x2 x3 x4, l = q ++ [x1, x2, x3, x4] ∧ q.length = 32 := by
    have h4 : (l.drop 32).length = 4 := by rw [List.length_drop]; omega
    match hd : l.drop 32, h4 with
    | [x1, x2, x3, x4], _ => exact ⟨l.take 32, x1, x2, x3, x4, by rw [← hd, List.take_append_drop], by rw [List.length_take]; omega⟩
  have e0 := hfs 0 f0 rfl
  have e1 := hfs 1 f1 rfl
  have e2 := hfs 2 f2 rfl
  have e3 := hfs 3 f3 rfl
  have e4 := hfs 4 f4 rfl
  have z5 : xs.length = 5 := by rw [hxl]; rfl
  have cc : (Value.agg (⟨q ++ [x1, x2, x3, x4]⟩ : Array Value)).cells.toList = q ++ [x1, x2, x3, x4] := rfl
  rw [cc, o0, c0, List.getElem?_eq_getElem (by omega), show ((q ++ [x1, x2, x3, x4]).drop 0).take 32 = q from by simp [hq]] at e0
  rw [cc, o1, c1, List.getElem?_eq_getElem (by omega), show ((q ++ [x1, x2, x3, x4]).drop 32).take 1 = [x1] from by simp [hq]] at e1
  rw [cc, o2, c2, List.getElem?_eq_getElem (by omega), show ((q ++ [x1, x2, x3, x4]).drop 33).take 1 = [x2] from by simp [List.drop_append, hq, List.drop_of_length_le]] at e2
  rw [cc, o3, c3, List.getElem?_eq_getElem (by omega), show ((q ++ [x1, x2, x3, x4]).drop 34).take 1 = [x3] from by simp [List.drop_append, hq, List.drop_of_length_le]] at e3
  rw [cc, o4, c4, List.getElem?_eq_getElem (by omega), show ((q ++ [x1, x2, x3, x4]).drop 35).take 1 = [x4] from by simp [List.drop_append, hq, List.drop_of_length_le]] at e4
  simp only [Prod.mk.injEq] at hx
  obtain ⟨rfl, -⟩ := hx
  have hw1 : WOk P f1.type (xs[1]'(by omega)).1 := wOk_part (i := 1) hs hw rfl (by rw [List.getElem?_map, List.getElem?_eq_getElem (by omega)]; rfl)
  have hw2 : WOk P f2.type (xs[2]'(by omega)).1 := wOk_part (i := 2) hs hw rfl (by rw [List.getElem?_map, List.getElem?_eq_getElem (by omega)]; rfl)
  have hw4 : WOk P f4.type (xs[4]'(by omega)).1 := wOk_part (i := 4) hs hw rfl (by rw [List.getElem?_map, List.getElem?_eq_getElem (by omega)]; rfl)
  obtain ⟨tr, rfl, wtr⟩ := id_w u0 ue cte hq e0
  obtain ⟨a, len, cap, ids, h1, hI⟩ := idsl_w u1 ui ci bi ue cte hw1 e1
  obtain ⟨au, h2, hau⟩ := string_w u2 hw2 e2
  obtain ⟨k, h3, _, wk⟩ := DataW.trod_int u3 e3
  obtain ⟨ms, h4, hms⟩ := string_w u4 hw4 e4
  simp only [List.cons.injEq, and_true] at h1 h2 h3 h4
  exact ⟨tr, a, len, cap, ids, au, k, ms, by rw [h1, h2, h3, h4], wtr, hI, hau, wk, hms⟩
end Go.Proofs.Ytmcmapgllaopmaa.Fr
