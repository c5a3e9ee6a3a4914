/- Texts of one's own, merged: FrCommit, CdCm, CdRBody, CdREo, CdPo, CdPo2. -/
import Derived.Test.YtmcmapgllaopmaaMa
import Derived.Test.YtmcmapgllaopmaaMj
import Derived.Deep.Slices
import Derived.StillTailTactics

section
/- What a walk is told of a commit (an Id, a slice of Ids, a text, a number, a text) that came in by value. -/
namespace Go.Proofs.Ytmcmapgllaopmaa.Fr
open Go.ChangeShapes Go.WideShapes Go.ChangeAt Go.RowKit
set_option linter.unusedVariables false
set_option linter.unusedSimpArgs false

/-- nil; or 'len' Ids in cells that lie side by side. -/
def IsIds (w : World) (a : Option Addr) (len cap : Nat) (ids : List (List Int)) : Prop :=
  (a = none ∧ len = 0 ∧ cap = 0 ∧ ids = []) ∨
  ∃ x : Addr, a = some x ∧ len ≤ cap ∧ cap * 32 ≤ 140737488351232 ∧ ids.length = len ∧ (∀ i, i < len → ∀ j v, ((ids.getD i []).map (Value.int .u8))[j]? = some v → w.cell? ((x.add (i * 32)).add j) = some v) ∧ (∀ e ∈ ids, IsId e)

theorem idsl_w {H : Type} {enc : TypeId × Value → H} {P : Program} {W : World} {t e te : TypeId} {fuel : Nat} {cs : List Value} {y : DataW H × List MemPlace}
    (hu : P.underlying t = some (.slice e)) (he : P.underlying e = some (.array 32 te)) (ce : P.cellsOf e = 32) (be : P.bytesOf e = 32) (ue : P.underlying te = some (.int .u8)) (cte : P.cellsOf te = 1)
    (hw : WOk P t y.1) (h : DataW.trod enc P W 0 (fun _ => true) true fuel t cs = some y) :
    ∃ a len cap ids, cs = [.slice a len cap] ∧ IsIds W a len cap ids := by
  rcases Go.Deep.open_slice hu h with ⟨rfl, _⟩ | ⟨x, len, cap, m, n, D, Pl, rfl, _, hl, hm, hmm, hx, hcell⟩
  · exact ⟨none, 0, 0, [], rfl, .inl ⟨rfl, rfl, rfl, rfl⟩⟩
  · simp only [if_true] at hmm
    subst hmm
    rw [hx] at hw
    have h1 := wOk_len hu hw
    rw [be] at h1
    simp only [List.length_map, List.length_range, reachBytes] at h1
    have each : ∀ i, i < len → ∃ q : List Int, (∀ j v, (q.map (Value.int .u8))[j]? = some v → W.cell? ((x.add (i * 32)).add j) = some v) ∧ IsId q := by
      intro i hi
      obtain ⟨cs', g1, g2⟩ := hcell i (by omega)
      rw [ce] at g1
      obtain ⟨_, hlen, hcl⟩ := World.cells?_some g1
      obtain ⟨q, hq, wq⟩ := id_w he ue cte hlen g2
      refine ⟨q, fun j v hj => ?_, wq⟩
      have hj2 : cs'[j]? = some v := by rw [hq]; exact hj
      have hjl := (List.getElem?_eq_some_iff.1 hj2).1
      rw [hcl j (by omega), hj2]
    have hes : ∃ es : List (List Int), es.length = len ∧ ∀ i, i < len → (∀ j v, ((es.getD i []).map (Value.int .u8))[j]? = some v → W.cell? ((x.add (i * 32)).add j) = some v) ∧ IsId (es.getD i []) := by
      have g : ∀ k, k ≤ len → ∃ es : List (List Int), es.length = k ∧ ∀ i, i < k → (∀ j v, ((es.getD i []).map (Value.int .u8))[j]? = some v → W.cell? ((x.add (i * 32)).add j) = some v) ∧ IsId (es.getD i []) := by
        intro k
        induction k with
        | zero => intro _; exact ⟨[], rfl, fun i hi => absurd hi (by omega)⟩
        | succ k ih =>
          intro hk
          obtain ⟨es, hl2, hall⟩ := ih (by omega)
          obtain ⟨y, hy, wy⟩ := each k (by omega)
          refine ⟨es ++ [y], by simp [hl2], fun i hi => ?_⟩
          by_cases e : i < k
          · have : (es ++ [y]).getD i [] = es.getD i [] := by simp [List.getD, List.getElem?_append_left (show i < es.length by omega)]
            rw [this]; exact hall i e
          · have e2 : i = k := by omega
            subst e2
            have : (es ++ [y]).getD i [] = y := by simp [List.getD, hl2]
            rw [this]; exact ⟨hy, wy⟩
      exact g len (Nat.le_refl _)
    obtain ⟨es, hl2, hall⟩ := hes
    refine ⟨some x, len, _, es, rfl, .inr ⟨x, rfl, hl, ?_, hl2, fun i hi => (hall i hi).1, fun e he' => ?_⟩⟩
    · omega
    · obtain ⟨i, hi, rfl⟩ := List.getElem_of_mem he'
      have := (hall i (by omega)).2
      simpa [List.getD, hi] using this

/-- a commit -/
theorem isCommit_of {H : Type} {enc : TypeId × Value → H} {P : Program} {W : World} {r : Reach} {b0 : Nat} {t ti te : TypeId} {f0 f1 f2 f3 f4 : Field} {v : Value} {d : DataW H} {p : List MemPlace}
    (hs : P.underlying t = some (.struct #[f0, f1, f2, f3, f4])) (ct : P.cellsOf t = 36) (o0 : f0.offset = 0) (o1 : f1.offset = 32) (o2 : f2.offset = 33) (o3 : f3.offset = 34) (o4 : f4.offset = 35)
    (c0 : P.cellsOf f0.type = 32) (c1 : P.cellsOf f1.type = 1) (c2 : P.cellsOf f2.type = 1) (c3 : P.cellsOf f3.type = 1) (c4 : P.cellsOf f4.type = 1)
    (u0 : P.underlying f0.type = some (.array 32 te)) (u1 : P.underlying f1.type = some (.slice ti)) (u2 : P.underlying f2.type = some .string) (u3 : P.underlying f3.type = some (.int .i64)) (u4 : P.underlying f4.type = some .string)
    (ui : P.underlying ti = some (.array 32 te)) (ue : P.underlying te = some (.int .u8)) (cte : P.cellsOf te = 1) (ci : P.cellsOf ti = 32) (bi : P.bytesOf ti = 32)
    (hv : Value.okWide P W r b0 t v) (hw : WOk P t d) (h : DataW.Trod enc P W 0 (fun _ => true) true t v d p) :
    ∃ tr a len cap ids au k ms, v = .agg (tr.map (Value.int .u8) ++ [.slice a len cap, .string au, .int .i64 k, .string ms]).toArray ∧ IsId tr ∧ IsIds W a len cap ids ∧ au.size ≤ 140737488351232 ∧ (Lit.int .i64 k).wf = true ∧ ms.size ≤ 140737488351232 := by
  unfold Value.okWide at hv
  simp only [hs] at hv
  obtain ⟨cs, rfl, hsz, -⟩ := hv
  obtain ⟨fuel, hf⟩ := h
  obtain ⟨xs, n, -, hx, -, hxl, hfs⟩ := DataW.trod_struct hs hf
  obtain ⟨l⟩ := cs
  rw [ct] at hsz
  have hl : l.length = 36 := by simpa using hsz
  obtain ⟨q, x1, x2, x3, x4, rfl, hq⟩ : ∃ q x1 x2 x3 x4, l = q ++ [x1, x2, x3, x4] ∧ q.length = 32 := by
    have h4 : (l.drop 32).length = 4 := by rw [List.length_drop]; omega
    match hd : l.drop 32, h4 with
    | [x1, x2, x3, x4], _ => exact ⟨l.take 32, x1, x2, x3, x4, by rw [← hd, List.take_append_drop], by rw [List.length_take]; omega⟩
  have e0 := hfs 0 f0 rfl
  have e1 := hfs 1 f1 rfl
  have e2 := hfs 2 f2 rfl
  have e3 := hfs 3 f3 rfl
  have e4 := hfs 4 f4 rfl
  have z5 : xs.length = 5 := by rw [hxl]; rfl
  have cc : (Value.agg (⟨q ++ [x1, x2, x3, x4]⟩ : Array Value)).cells.toList = q ++ [x1, x2, x3, x4] := rfl
  rw [cc, o0, c0, List.getElem?_eq_getElem (by omega), show ((q ++ [x1, x2, x3, x4]).drop 0).take 32 = q from by simp [hq]] at e0
  rw [cc, o1, c1, List.getElem?_eq_getElem (by omega), show ((q ++ [x1, x2, x3, x4]).drop 32).take 1 = [x1] from by simp [hq]] at e1
  rw [cc, o2, c2, List.getElem?_eq_getElem (by omega), show ((q ++ [x1, x2, x3, x4]).drop 33).take 1 = [x2] from by simp [List.drop_append, hq, List.drop_of_length_le]] at e2
  rw [cc, o3, c3, List.getElem?_eq_getElem (by omega), show ((q ++ [x1, x2, x3, x4]).drop 34).take 1 = [x3] from by simp [List.drop_append, hq, List.drop_of_length_le]] at e3
  rw [cc, o4, c4, List.getElem?_eq_getElem (by omega), show ((q ++ [x1, x2, x3, x4]).drop 35).take 1 = [x4] from by simp [List.drop_append, hq, List.drop_of_length_le]] at e4
  simp only [Prod.mk.injEq] at hx
  obtain ⟨rfl, -⟩ := hx
  have hw1 : WOk P f1.type (xs[1]'(by omega)).1 := wOk_part (i := 1) hs hw rfl (by rw [List.getElem?_map, List.getElem?_eq_getElem (by omega)]; rfl)
  have hw2 : WOk P f2.type (xs[2]'(by omega)).1 := wOk_part (i := 2) hs hw rfl (by rw [List.getElem?_map, List.getElem?_eq_getElem (by omega)]; rfl)
  have hw4 : WOk P f4.type (xs[4]'(by omega)).1 := wOk_part (i := 4) hs hw rfl (by rw [List.getElem?_map, List.getElem?_eq_getElem (by omega)]; rfl)
  obtain ⟨tr, rfl, wtr⟩ := id_w u0 ue cte hq e0
  obtain ⟨a, len, cap, ids, h1, hI⟩ := idsl_w u1 ui ci bi ue cte hw1 e1
  obtain ⟨au, h2, hau⟩ := string_w u2 hw2 e2
  obtain ⟨k, h3, _, wk⟩ := DataW.trod_int u3 e3
  obtain ⟨ms, h4, hms⟩ := string_w u4 hw4 e4
  simp only [List.cons.injEq, and_true] at h1 h2 h3 h4
  exact ⟨tr, a, len, cap, ids, au, k, ms, by rw [h1, h2, h3, h4], wtr, hI, hau, wk, hms⟩
end Go.Proofs.Ytmcmapgllaopmaa.Fr
end

section
/- A commit that came in; what ParseCommit hands back, told in one way; a commit laid in a block of its own. -/
namespace Go.Proofs.Ytmcmapgllaopmaa.Cd
open Go.RowKit
set_option linter.unusedVariables false

/-- Ids that came in -/
theorem RdIds.of_ids {w : World} {a : Option Addr} {n cap : Nat} {ids : List (List Int)} (h : Fr.IsIds w a n cap ids) (hn : n ≤ 1000000) : RdIds w a n cap ids := by
  rcases h with ⟨rfl, rfl, rfl, rfl⟩ | ⟨x, rfl, hl, hc, hlen, hcell, hwf⟩
  · exact ⟨Nat.le_refl _, by omega, by omega, rfl, fun x hx => by simp at hx, fun h0 => absurd h0 (by omega)⟩
  · refine ⟨hl, by omega, hn, hlen, fun x hx => (hwf x hx).1, fun h0 => ?_⟩
    have h32 : ((ids.getD 0 []).map (Value.int .u8)).length = 32 := by rw [List.length_map]; exact (hwf _ (getD_mem (by omega))).1
    have hc0 := hcell 0 h0 0 (((ids.getD 0 []).map (Value.int .u8))[0]'(by omega)) (List.getElem?_eq_getElem (by omega))
    obtain ⟨b, off, spot⟩ := x
    have hspot : spot = Option.none := by simpa [Addr.add] using World.cell?_spot hc0
    subst hspot
    refine ⟨b, off, rfl, by simpa [Addr.add] using block_lt_of_cell hc0, fun i hi j v hj => ?_⟩
    have := hcell i hi j v hj
    rw [Addr.add_mid, Addr.add_mid] at this
    exact this
theorem RdIds.nil (w : World) : RdIds w none 0 0 [] := ⟨Nat.le_refl _, by omega, by omega, rfl, fun x hx => by simp at hx, fun h0 => absurd h0 (by omega)⟩
theorem pL_len (l : List Int) (L : Nat) : ∀ (n : Nat) (f : Int) (a : Nat) (ids : List (List Int)), (pL l L n f a ids).2.2.length ≤ ids.length + n
  | 0, f, a, ids => by rw [pL]; exact Nat.le_refl _
  | n + 1, f, a, ids => by
    rw [pL]
    split
    · have := pL_len l L n (fl (tkF f a L 32) (cp (idv (tkL f l a L 32)) ids)) (tkA f a L 32) (ids ++ [idv (tkL f l a L 32)])
      rw [List.length_append, List.length_singleton] at this
      omega
    · simp
theorem pa_len (f : Int) (l : List Int) (a L : Nat) : (pa f l a L).2.2.length ≤ 8 := by
  unfold pa
  by_cases h : 8 < paM f l a L
  · have h2 : pa2 f l a L ≠ 0 := by
      unfold pa2 fl
      rw [if_pos h]
      split
      · decide
      · assumption
    rw [pL_st h2]
    simp
  · have := pL_len l L (paM f l a L) (pa2 f l a L) (tkA f a L 1) []
    rw [List.length_nil] at this
    omega
/-- what ParseCommit hands back: one commit, by whichever of the two -/
theorem pc_same (l : List Int) (L : Nat) : ∃ (tr : List Int) (ids : List (List Int)) (au : ByteArray) (tm : Int) (ms : ByteArray), tr.length = 32 ∧
    ∀ w e w', PcRet l L w e w' → Below w.heap.size w w' ∧ ∃ A C, e = .returned (.tuple #[.agg (cm tr (.slice A ids.length C) au tm ms).toArray, .int .i64 (cF7 0 l 0 L)]) ∧ RdIds w' A ids.length C ids := by
  by_cases h : cF7 0 l 0 L = 0
  · refine ⟨cT 0 l 0 L, (cQ 0 l 0 L).2.2, cAu 0 l 0 L, tv (cB 0 l 0 L), cMs 0 l 0 L, ?_, ?_⟩
    · unfold cT
      refine idv_len _ ?_
      unfold tkL
      split
      · rw [List.length_take]; omega
      · simp
    · rintro w e w' ⟨hb, ⟨hne, -⟩ | ⟨hz, hid, Ai, Ci, rfl, ho⟩⟩
      · exact absurd h hne
      · have h8 : (cQ 0 l 0 L).2.2.length ≤ 8 := pa_len _ _ _ _
        exact ⟨hb, Ai, Ci, by rw [hz], rdids_of_own ho hid (by omega) rfl⟩
  · refine ⟨List.replicate 32 0, [], ByteArray.empty, 0, ByteArray.empty, by simp, ?_⟩
    rintro w e w' ⟨hb, ⟨hne, rfl⟩ | ⟨hz, -⟩⟩
    · exact ⟨hb, none, 0, rfl, RdIds.nil _⟩
    · exact absurd hz h
/-- a commit is laid in a block of its own -/
theorem cm_lay (w : World) (D : List Value) (hl : D.length = 36) (h1 : ∀ v ∈ D, v.oneCell' = true) (ZC : Array Value) (hz : ZC.size = 36) :
    Fin w w.heap.size (w.alloc (.cells ZC 40)) w.heap.size 40 D ∧ ((w.alloc (.cells ZC 40)).setCells w.heap.size 0 D).rangeAt w.heap.size 0 D := by
  have hro := row_new w ZC 40
  rw [hz] at hro
  have hf : Fin w w.heap.size (w.alloc (.cells ZC 40)) w.heap.size 40 D := Fin.mk' hl h1 hro ((Below.refl _ w).alloc (Nat.le_refl _) _) (Nat.le_refl _)
  exact ⟨hf, World.rangeAt_setCells_same _ _ _ _ (by have := hf.there; rwa [List.size_toArray] at this)⟩
end Go.Proofs.Ytmcmapgllaopmaa.Cd
end

section
/- The document's EncodeObj at any object. -/
namespace Go.Proofs.Ytmcmapgllaopmaa.Cd
open Go.RowKit
set_option linter.unusedVariables false

set_option maxRecDepth 100000 in
set_option maxHeartbeats 1000000 in
theorem rbody_any (k : Int) (A : Option Addr) (L C : Nat) (l : List Int) (w : World) (h : RdB w A L C l) :
    Calls Try.prog 58 #[.agg #[.int .i64 k, .slice A L C]] w fun e w' => e = .returned (.int .i64 (ckE k l L)) ∧ Below w.heap.size w w' := by
  have hB0 := (Below.refl w.heap.size w).alloc (Nat.le_refl _) (.cells #[.int .i64 k, .slice A L C] 50)
  have HRd := Lib.hid (h.below hB0)
  have HB0 := Lib.hid hB0
  have hs := al_lt w (.cells #[.int .i64 k, .slice A L C] 50)
  have hc0 := al_cell w #[.int .i64 k, .slice A L C] 50 0 _ rfl
  have hc1 := al_cell w #[.int .i64 k, .slice A L C] 50 1 _ rfl
  have hcap := h.cap
  have hmax := h.max
  have hbig := h.big
  clear h hB0
  by_cases h1 : k = 1
  · subst h1
    by_cases h2 : 65536 < L
    · have HE : Hid (ckE 1 l L = 5) := Lib.hid (by unfold ckE; rw [if_pos rfl, if_pos h2])
      have hd : decide ((65536 : Int) < (L : Int)) = true := by simp; omega
      go_enter Try.func58, Try.ntmps58
      go_wp2_with fail
      go_ret
      rw [HE.out]
      exact ⟨rfl, HB0.out⟩
    · have HE : Hid (ckE 1 l L = 0) := Lib.hid (by unfold ckE; rw [if_pos rfl, if_neg h2])
      have hd : decide ((65536 : Int) < (L : Int)) = false := by simp; omega
      go_enter Try.func58, Try.ntmps58
      go_wp2_with fail
      go_ret
      rw [HE.out]
      exact ⟨rfl, HB0.out⟩
  · by_cases h2 : k = 2
    · subst h2
      have HE : Hid (ckE 2 l L = (pT l L (L + 1) 0 []).1) := Lib.hid (rfl)
      have HP := Lib.hid (rparseTree_any A L C l _ HRd.out)
      go_enter Try.func58, Try.ntmps58
      go_wp2_with fail
      refine HP.out.mono ?_
      rintro e w1 ⟨hb, hr⟩
      have HB1 := Lib.hid (HB0.out.trans (hb.mono (Nat.le_of_lt hs)))
      rcases hr with ⟨-, rfl⟩ | ⟨hp, -, Ae, Ce, rfl, -⟩
      · clear hb HP
        go_wp2_with fail
        go_ret
        rw [HE.out]
        exact ⟨rfl, HB1.out⟩
      · have HP0 := Lib.hid hp
        clear hb HP hp
        go_wp2_with fail
        go_ret
        rw [HE.out, HP0.out]
        exact ⟨rfl, HB1.out⟩
    · by_cases h3 : k = 3
      · subst h3
        have HE : Hid (ckE 3 l L = cF7 0 l 0 L) := Lib.hid (rfl)
        have HP := Lib.hid (rparseCommit_any A L C l _ HRd.out)
        go_enter Try.func58, Try.ntmps58
        go_wp2_with fail
        refine HP.out.mono ?_
        rintro e w1 ⟨hb, hr⟩
        have HB1 := Lib.hid (HB0.out.trans (hb.mono (Nat.le_of_lt hs)))
        rcases hr with ⟨-, rfl⟩ | ⟨hp, -, Ai, Ci, rfl, -⟩
        · clear hb HP
          go_wp2_with fail
          go_ret
          rw [HE.out]
          exact ⟨rfl, HB1.out⟩
        · have HP0 := Lib.hid hp
          clear hb HP hp
          generalize cm (cT 0 l 0 L) (.slice Ai (cQ 0 l 0 L).2.2.length Ci) (cAu 0 l 0 L) (tv (cB 0 l 0 L)) (cMs 0 l 0 L) = CM at *
          go_wp2_with fail
          go_ret
          rw [HE.out, HP0.out]
          exact ⟨rfl, HB1.out⟩
      · have HE : Hid (ckE k l L = 3) := Lib.hid (by unfold ckE; rw [if_neg h1, if_neg h2, if_neg h3])
        have d1 : (k == 1) = false := by simp [h1]
        have d2 : (k == 2) = false := by simp [h2]
        have d3 : (k == 3) = false := by simp [h3]
        clear h1 h2 h3
        go_enter Try.func58, Try.ntmps58
        go_wp2_with fail
        go_ret
        rw [HE.out]
        exact ⟨rfl, HB0.out⟩

end Go.Proofs.Ytmcmapgllaopmaa.Cd
end

section
/- The document's EncodeObj at any object. -/
namespace Go.Proofs.Ytmcmapgllaopmaa.Cd
open Go.RowKit
set_option linter.unusedVariables false

theorem ck_zero {k : Int} {l : List Int} {L : Nat} (h : ckE k l L = 0) : (k = 1 ∧ ckL k l L = 98) ∨ (k = 2 ∧ ckL k l L = 116) ∨ (k = 3 ∧ ckL k l L = 99) := by
  unfold ckE at h
  unfold ckL
  by_cases h1 : k = 1
  · rw [if_pos h1] at h ⊢
    by_cases h2 : 65536 < L
    · rw [if_pos h2] at h; exact absurd h (by decide)
    · rw [if_neg h2]; exact .inl ⟨h1, rfl⟩
  · rw [if_neg h1] at h ⊢
    by_cases h2 : k = 2
    · rw [if_pos h2]; exact .inr (.inl ⟨h2, rfl⟩)
    · rw [if_neg h2] at h ⊢
      by_cases h3 : k = 3
      · rw [if_pos h3]; exact .inr (.inr ⟨h3, rfl⟩)
      · rw [if_neg h3] at h; exact absurd h (by decide)

set_option maxRecDepth 100000 in
set_option maxHeartbeats 2000000 in
theorem rencodeObj_any (k : Int) (A : Option Addr) (L C : Nat) (l : List Int) (w : World) (h : RdB w A L C l) (hL : L ≤ 140737488000000) :
    Calls Try.prog 23 #[.agg #[.int .i64 k, .slice A L C]] w (EoRet k l L w) := by
  have hB0 := (Below.refl w.heap.size w).alloc (Nat.le_refl _) (.cells #[.int .i64 k, .slice A L C] 50)
  have HRd := Lib.hid (h.below hB0)
  have HCk := Lib.hid (rbody_any k A L C l _ (h.below hB0))
  have HB0 := Lib.hid hB0
  have hs := al_lt w (.cells #[.int .i64 k, .slice A L C] 50)
  have hc1 := al_cell w #[.int .i64 k, .slice A L C] 50 1 _ rfl
  have hcap := h.cap
  have hmax := h.max
  clear h hB0
  obtain ⟨E, hE⟩ : ∃ E, E = ckE k l L := ⟨_, rfl⟩
  rw [← hE] at HCk
  have HE := Lib.hid hE
  clear hE
  have h0c := al_cell w #[.int .i64 k, .slice A L C] 50 0 _ rfl
  go_enter Try.func23, Try.ntmps23
  go_wp2_with fail
  refine HCk.out.mono ?_
  rintro e w1 ⟨rfl, hb⟩
  have HB1 := Lib.hid (HB0.out.trans (hb.mono (Nat.le_of_lt hs)))
  have HRd1 := Lib.hid (HRd.out.below hb)
  have hc0' : w1.cell? ⟨w.heap.size, 0, none⟩ = some (.int .i64 k) := (hb.cell (p := ⟨w.heap.size, 0, none⟩) hs).trans h0c
  have hc1' : w1.cell? ⟨w.heap.size, 1, none⟩ = some (.slice A L C) := (hb.cell (p := ⟨w.heap.size, 1, none⟩) hs).trans hc1
  have hs1 : w.heap.size < w1.heap.size := Nat.lt_of_lt_of_le hs hb.size
  clear hb HCk HRd hc1 h0c HB0 hs
  obtain ⟨X, hX⟩ : ∃ X, X = w.heap.size := ⟨_, rfl⟩
  rw [← hX] at hc0' hc1' hs1 ⊢
  have HX := Lib.hid hX
  clear hX
  have dS0 : Hid (w1.drew.cell? ⟨X, 0, none⟩ = some (.int .i64 k) ∧ w1.drew.cell? ⟨X, 1, none⟩ = some (.slice A L C)) := Lib.hid ⟨hc0', hc1'⟩
  have dR : Hid (RdB w1.drew A L C l) := Lib.hid (HRd1.out.below (Below.refl _ _).drew)
  have dB := Lib.hid HB1.out.drew
  clear hc0' hc1' HRd1
  by_cases h0 : E = 0
  · have hd : (E != 0) = false := by simp [h0]
    have H0 := Lib.hid (HE.out.symm.trans h0)
    clear h0 HB1
    rcases ck_zero H0.out with ⟨rfl, ht⟩ | ⟨rfl, ht⟩ | ⟨rfl, ht⟩
    · have HT := Lib.hid ht
      have dS := dS0
      have hw0 : IntKind.i64.wrap (0 : Int) = (0 : Int) := by decide
      clear ht dS0
      go_wp2_with fail
      refine wp_region_noPanic ?_
      refine wp_region_held_drew (S := (fun wS => wS.cell? ⟨X, 0, none⟩ = some (.int .i64 1) ∧ wS.cell? ⟨X, 1, none⟩ = some (.slice A L C))) (by kernel_rfl) ?_ (fun hHeld => ?_)
      · ((try dsimp only); exact dS.out)
      refine wpAnyH_take (i := 0) (oi := { dst := some 11, op := Op.fieldAddr 50 (Operand.tmp 1) 0, type := 0, pos := "ref.go:238", after := #[], guard := none }) (v := ?_) rfl (by kernel_rfl) (by kernel_rfl) (by kernel_rfl) (fun _ _ _ h => h) (Or.inl ⟨by rfl, ?_⟩) (by assumption) ?_
      rotate_left 1
      · ((intro w hSw; (try dsimp only at hSw); go_simp) <;> with_reducible rfl)
      (try simp only [Act.put, List.setIfInBounds_toArray, List.set_cons_zero, List.set_cons_succ])
      refine wpAnyH_take (i := 1) (oi := { dst := some 12, op := Op.load 3 (Operand.tmp 11), type := 3, pos := "ref.go:238", after := #[{ on := 0, ground := Ground.data }], guard := none }) (v := ?_) rfl (by kernel_rfl) (by kernel_rfl) (by kernel_rfl) (fun _ _ _ h => h) (Or.inl ⟨by rfl, ?_⟩) (by assumption) ?_
      rotate_left 1
      · ((intro w hSw; (try dsimp only at hSw); go_simp) <;> with_reducible rfl)
      (try simp only [Act.put, List.setIfInBounds_toArray, List.set_cons_zero, List.set_cons_succ])
      refine wpAnyH_take (i := 2) (oi := { dst := some 13, op := Op.binOp BinOp.sub 3 (Operand.tmp 12) (Operand.const (Value.int IntKind.i64 1)) 3, type := 3, pos := "ref.go:238", after := #[{ on := 1, ground := Ground.data }], guard := none }) (v := ?_) rfl (by kernel_rfl) (by kernel_rfl) (by kernel_rfl) (fun _ _ _ h => h) (Or.inl ⟨by rfl, ?_⟩) (by assumption) ?_
      rotate_left 1
      · ((intro w hSw; (try dsimp only at hSw); go_simp) <;> with_reducible rfl)
      (try simp only [Act.put, List.setIfInBounds_toArray, List.set_cons_zero, List.set_cons_succ])
      refine wpAnyH_take (i := 3) (oi := { dst := some 14, op := Op.index 9 (Operand.const (Value.string { data := #[98, 116, 99] })) (Operand.tmp 13), type := 5, pos := "ref.go:238", after := #[{ on := 2, ground := Ground.data }], guard := none }) (v := ?_) rfl (by kernel_rfl) (by kernel_rfl) (by kernel_rfl) (fun _ _ _ h => h) (Or.inl ⟨by rfl, ?_⟩) (by assumption) ?_
      rotate_left 1
      · ((intro w hSw; (try dsimp only at hSw); go_simp) <;> with_reducible rfl)
      (try simp only [Act.put, List.setIfInBounds_toArray, List.set_cons_zero, List.set_cons_succ])
      refine wpAnyH_take (i := 5) (oi := { dst := some 16, op := Op.fieldAddr 50 (Operand.tmp 1) 1, type := 0, pos := "ref.go:238", after := #[], guard := none }) (v := ?_) rfl (by kernel_rfl) (by kernel_rfl) (by kernel_rfl) (fun _ _ _ h => h) (Or.inl ⟨by rfl, ?_⟩) (by assumption) ?_
      rotate_left 1
      · ((intro w hSw; (try dsimp only at hSw); go_simp) <;> with_reducible rfl)
      (try simp only [Act.put, List.setIfInBounds_toArray, List.set_cons_zero, List.set_cons_succ])
      refine wpAnyH_take (i := 6) (oi := { dst := some 17, op := Op.load 23 (Operand.tmp 16), type := 23, pos := "ref.go:238", after := #[{ on := 5, ground := Ground.data }], guard := none }) (v := ?_) rfl (by kernel_rfl) (by kernel_rfl) (by kernel_rfl) (fun _ _ _ h => h) (Or.inl ⟨by rfl, ?_⟩) (by assumption) ?_
      rotate_left 1
      · ((intro w hSw; (try dsimp only at hSw); go_simp) <;> with_reducible rfl)
      (try simp only [Act.put, List.setIfInBounds_toArray, List.set_cons_zero, List.set_cons_succ])
      refine wpAnyH_take (i := 7) (oi := { dst := some 18, op := Op.call { callee := Callee.builtin Builtin.len, args := #[Operand.tmp 17], argTypes := #[23] }, type := 3, pos := "ref.go:238", after := #[{ on := 6, ground := Ground.data }], guard := none }) (v := ?_) rfl (by kernel_rfl) (by kernel_rfl) (by kernel_rfl) (fun _ _ _ h => h) (Or.inl ⟨by rfl, ?_⟩) (by assumption) ?_
      rotate_left 1
      · ((intro w hSw; (try dsimp only at hSw); go_simp) <;> with_reducible rfl)
      (try simp only [Act.put, List.setIfInBounds_toArray, List.set_cons_zero, List.set_cons_succ])
      refine wpAnyH_take (i := 8) (oi := { dst := some 19, op := Op.convert 3 105 (Operand.tmp 18), type := 105, pos := "ref.go:238", after := #[{ on := 7, ground := Ground.data }], guard := none }) (v := ?_) rfl (by kernel_rfl) (by kernel_rfl) (by kernel_rfl) (fun _ _ _ h => h) (Or.inl ⟨by rfl, ?_⟩) (by assumption) ?_
      rotate_left 1
      · ((intro w hSw; (try dsimp only at hSw); go_simp) <;> with_reducible rfl)
      (try simp only [Act.put, List.setIfInBounds_toArray, List.set_cons_zero, List.set_cons_succ])
      refine wpAnyH_ready (rs := [4]) (by kernel_rfl) (by simp) ?_
      refine AllReadyH.cons (o := { dst := some 15, op := Op.buildSlice 23 1 #[(0, Operand.tmp 14)], type := 23, pos := "ref.go:238", after := #[{ on := 3, ground := Ground.data }], guard := none }) rfl (fun K hK => ?_) ?_
      · go_simp
        have dS1 := dS
        have hb := (Below.refl w1.drew.heap.size w1.drew).alloc (Nat.le_refl _) (.cells (bv [98]).toArray 5)
        have dO : Hid ((w1.drew.alloc (.cells (bv [98]).toArray 5)).ownsRow w1.heap.size 5 1 (.slice (some ⟨w1.heap.size, 0, none⟩) 1 1) 1 (bv [98])) := Lib.hid (own_lit w1.drew [98] (by unfold maxLen; simp))
        have dQ : Hid (Below w1.heap.size w1.drew (w1.drew.alloc (.cells (bv [98]).toArray 5))) := Lib.hid hb
        have eS : Hid ((w1.drew.alloc (.cells (bv [98]).toArray 5)).cell? ⟨X, 0, none⟩ = some (.int .i64 1) ∧ (w1.drew.alloc (.cells (bv [98]).toArray 5)).cell? ⟨X, 1, none⟩ = some (.slice A L C)) := Lib.hid ⟨(hb.cell (p := ⟨X, 0, none⟩) hs1).trans dS.out.1, (hb.cell (p := ⟨X, 1, none⟩) hs1).trans dS.out.2⟩
        have hZQ : w1.heap.size ≤ (w1.drew.alloc (.cells (bv [98]).toArray 5)).heap.size := hb.size
        clear dS hb
        have dS := eS
        clear eS
        change K _ (w1.drew.alloc (.cells (bv [98]).toArray 5))
        generalize w1.drew.alloc (.cells (bv [98]).toArray 5) = wQ at *
        (try go_wp2_with fail)
        refine hK.out _ _ ?_ (fun hNew => ?_)
        · ((try dsimp only); exact dS.out)
        clear hK K hHeld
        have hHeld := hNew
        clear hNew
        (try simp only [Act.put, List.setIfInBounds_toArray, List.set_cons_zero, List.set_cons_succ])
        refine wpAnyH_ready (rs := [9]) (by kernel_rfl) (by simp) ?_
        refine AllReadyH.cons (o := { dst := some 20, op := Op.call { callee := Callee.value (Operand.func 53), args := #[Operand.tmp 15, Operand.const (Value.int IntKind.i64 4), Operand.tmp 19], argTypes := #[23, 3, 105] }, type := 23, pos := "ref.go:238", after := #[{ on := 4, ground := Ground.data }, { on := 8, ground := Ground.data }], guard := none }) rfl (fun K hK => ?_) ?_
        · go_simp
          have HNr := Lib.hid (rnum_k w1.heap.size _ 1 (bv [98]) (L : Int) 4 wQ hZQ dO.out (by omega) (by omega) (by omega) (by omega))
          rw [show ((4 : Nat) : Int) = 4 from rfl] at HNr
          rw [show IntKind.u64.wrap (L : Int) = (L : Int) from by rw [IntKind.wrap_u64]; omega]
          refine HNr.out.mono ?_
          clear HNr
          rintro e wN ⟨vN, rfl, ho, hb, hk⟩
          have hb3 := dQ.out.trans hb
          have eO : Hid (wN.ownsRow w1.heap.size 5 1 vN 5 (bv (98 :: be 4 (L : Int)))) := Lib.hid (own_eq ho (by simp [bv]) rfl)
          have eR := Lib.hid (dR.out.below hb3)
          have eB := Lib.hid (dB.out.trans (hb3.mono (by rw [← HX.out]; exact Nat.le_of_lt hs1)))
          have eS : Hid (wN.cell? ⟨X, 0, none⟩ = some (.int .i64 1) ∧ wN.cell? ⟨X, 1, none⟩ = some (.slice A L C)) := Lib.hid ⟨(hb3.cell (p := ⟨X, 0, none⟩) hs1).trans (dS1.out.1), (hb3.cell (p := ⟨X, 1, none⟩) hs1).trans (dS1.out.2)⟩
          have hZN : w1.heap.size ≤ wN.heap.size := hb3.size
          clear dO dQ dS dS1 hb hb3 ho hk dR dB hZQ
          have dS := eS
          clear eS
          (try go_wp2_with fail)
          refine hK.out _ _ ?_ (fun hNew => ?_)
          · ((try dsimp only); exact dS.out)
          clear hK K hHeld
          have hHeld := hNew
          clear hNew
          (try simp only [Act.put, List.setIfInBounds_toArray, List.set_cons_zero, List.set_cons_succ])
          refine wpAnyH_take (i := 10) (oi := { dst := some 5, op := Op.assign (Operand.tmp 20), type := 23, pos := "ref.go:238", after := #[{ on := 9, ground := Ground.data }, { on := 9, ground := Ground.chain }, { on := 0, ground := Ground.phase }, { on := 1, ground := Ground.phase }, { on := 2, ground := Ground.phase }, { on := 3, ground := Ground.phase }, { on := 4, ground := Ground.phase }, { on := 5, ground := Ground.phase }, { on := 6, ground := Ground.phase }, { on := 7, ground := Ground.phase }, { on := 8, ground := Ground.phase }, { on := 9, ground := Ground.phase }], guard := none }) (v := ?_) rfl (by kernel_rfl) (by kernel_rfl) (by kernel_rfl) (fun _ _ _ h => h) (Or.inl ⟨by rfl, ?_⟩) (by assumption) ?_
          rotate_left 1
          · ((intro w hSw; (try dsimp only at hSw); go_simp) <;> with_reducible rfl)
          (try simp only [Act.put, List.setIfInBounds_toArray, List.set_cons_zero, List.set_cons_succ])
          refine wpAnyH_done (by kernel_rfl) ?_ _
          refine NoPanic.normal ?_
          clear hHeld
          obtain ⟨A2, C2, rfl⟩ := own_slice' eO.out
          have hc1N := dS.out.2
          go_wp2_with (refine wpList_append_rd wN rfl _ _ rfl w1.heap.size (.slice A2 5 C2) 5 (98 :: be 4 (L : Int)) rfl eO.out A L C l rfl eR.out (by omega) hZN ?_)
          intro A' C' w3 ho hb
          have HO3 := Lib.hid ho
          have HB3 := Lib.hid (eB.out.trans (hb.mono (by rw [← HX.out]; exact Nat.le_of_lt hs1)))
          clear ho hb
          go_wp2_with fail
          go_ret2
          refine ⟨HB3.out, .inr ⟨H0.out, A', C', rfl, ?_⟩⟩
          rw [HT.out, ← HX.out]
          exact own_base HO3.out (Nat.le_of_lt hs1)
        exact AllReadyH.nil
      exact AllReadyH.nil
    · have HT := Lib.hid ht
      have dS := dS0
      have hw0 : IntKind.i64.wrap (1 : Int) = (1 : Int) := by decide
      clear ht dS0
      go_wp2_with fail
      refine wp_region_noPanic ?_
      refine wp_region_held_drew (S := (fun wS => wS.cell? ⟨X, 0, none⟩ = some (.int .i64 2) ∧ wS.cell? ⟨X, 1, none⟩ = some (.slice A L C))) (by kernel_rfl) ?_ (fun hHeld => ?_)
      · ((try dsimp only); exact dS.out)
      refine wpAnyH_take (i := 0) (oi := { dst := some 11, op := Op.fieldAddr 50 (Operand.tmp 1) 0, type := 0, pos := "ref.go:238", after := #[], guard := none }) (v := ?_) rfl (by kernel_rfl) (by kernel_rfl) (by kernel_rfl) (fun _ _ _ h => h) (Or.inl ⟨by rfl, ?_⟩) (by assumption) ?_
      rotate_left 1
      · ((intro w hSw; (try dsimp only at hSw); go_simp) <;> with_reducible rfl)
      (try simp only [Act.put, List.setIfInBounds_toArray, List.set_cons_zero, List.set_cons_succ])
      refine wpAnyH_take (i := 1) (oi := { dst := some 12, op := Op.load 3 (Operand.tmp 11), type := 3, pos := "ref.go:238", after := #[{ on := 0, ground := Ground.data }], guard := none }) (v := ?_) rfl (by kernel_rfl) (by kernel_rfl) (by kernel_rfl) (fun _ _ _ h => h) (Or.inl ⟨by rfl, ?_⟩) (by assumption) ?_
      rotate_left 1
      · ((intro w hSw; (try dsimp only at hSw); go_simp) <;> with_reducible rfl)
      (try simp only [Act.put, List.setIfInBounds_toArray, List.set_cons_zero, List.set_cons_succ])
      refine wpAnyH_take (i := 2) (oi := { dst := some 13, op := Op.binOp BinOp.sub 3 (Operand.tmp 12) (Operand.const (Value.int IntKind.i64 1)) 3, type := 3, pos := "ref.go:238", after := #[{ on := 1, ground := Ground.data }], guard := none }) (v := ?_) rfl (by kernel_rfl) (by kernel_rfl) (by kernel_rfl) (fun _ _ _ h => h) (Or.inl ⟨by rfl, ?_⟩) (by assumption) ?_
      rotate_left 1
      · ((intro w hSw; (try dsimp only at hSw); go_simp) <;> with_reducible rfl)
      (try simp only [Act.put, List.setIfInBounds_toArray, List.set_cons_zero, List.set_cons_succ])
      refine wpAnyH_take (i := 3) (oi := { dst := some 14, op := Op.index 9 (Operand.const (Value.string { data := #[98, 116, 99] })) (Operand.tmp 13), type := 5, pos := "ref.go:238", after := #[{ on := 2, ground := Ground.data }], guard := none }) (v := ?_) rfl (by kernel_rfl) (by kernel_rfl) (by kernel_rfl) (fun _ _ _ h => h) (Or.inl ⟨by rfl, ?_⟩) (by assumption) ?_
      rotate_left 1
      · ((intro w hSw; (try dsimp only at hSw); go_simp) <;> with_reducible rfl)
      (try simp only [Act.put, List.setIfInBounds_toArray, List.set_cons_zero, List.set_cons_succ])
      refine wpAnyH_take (i := 5) (oi := { dst := some 16, op := Op.fieldAddr 50 (Operand.tmp 1) 1, type := 0, pos := "ref.go:238", after := #[], guard := none }) (v := ?_) rfl (by kernel_rfl) (by kernel_rfl) (by kernel_rfl) (fun _ _ _ h => h) (Or.inl ⟨by rfl, ?_⟩) (by assumption) ?_
      rotate_left 1
      · ((intro w hSw; (try dsimp only at hSw); go_simp) <;> with_reducible rfl)
      (try simp only [Act.put, List.setIfInBounds_toArray, List.set_cons_zero, List.set_cons_succ])
      refine wpAnyH_take (i := 6) (oi := { dst := some 17, op := Op.load 23 (Operand.tmp 16), type := 23, pos := "ref.go:238", after := #[{ on := 5, ground := Ground.data }], guard := none }) (v := ?_) rfl (by kernel_rfl) (by kernel_rfl) (by kernel_rfl) (fun _ _ _ h => h) (Or.inl ⟨by rfl, ?_⟩) (by assumption) ?_
      rotate_left 1
      · ((intro w hSw; (try dsimp only at hSw); go_simp) <;> with_reducible rfl)
      (try simp only [Act.put, List.setIfInBounds_toArray, List.set_cons_zero, List.set_cons_succ])
      refine wpAnyH_take (i := 7) (oi := { dst := some 18, op := Op.call { callee := Callee.builtin Builtin.len, args := #[Operand.tmp 17], argTypes := #[23] }, type := 3, pos := "ref.go:238", after := #[{ on := 6, ground := Ground.data }], guard := none }) (v := ?_) rfl (by kernel_rfl) (by kernel_rfl) (by kernel_rfl) (fun _ _ _ h => h) (Or.inl ⟨by rfl, ?_⟩) (by assumption) ?_
      rotate_left 1
      · ((intro w hSw; (try dsimp only at hSw); go_simp) <;> with_reducible rfl)
      (try simp only [Act.put, List.setIfInBounds_toArray, List.set_cons_zero, List.set_cons_succ])
      refine wpAnyH_take (i := 8) (oi := { dst := some 19, op := Op.convert 3 105 (Operand.tmp 18), type := 105, pos := "ref.go:238", after := #[{ on := 7, ground := Ground.data }], guard := none }) (v := ?_) rfl (by kernel_rfl) (by kernel_rfl) (by kernel_rfl) (fun _ _ _ h => h) (Or.inl ⟨by rfl, ?_⟩) (by assumption) ?_
      rotate_left 1
      · ((intro w hSw; (try dsimp only at hSw); go_simp) <;> with_reducible rfl)
      (try simp only [Act.put, List.setIfInBounds_toArray, List.set_cons_zero, List.set_cons_succ])
      refine wpAnyH_ready (rs := [4]) (by kernel_rfl) (by simp) ?_
      refine AllReadyH.cons (o := { dst := some 15, op := Op.buildSlice 23 1 #[(0, Operand.tmp 14)], type := 23, pos := "ref.go:238", after := #[{ on := 3, ground := Ground.data }], guard := none }) rfl (fun K hK => ?_) ?_
      · go_simp
        have dS1 := dS
        have hb := (Below.refl w1.drew.heap.size w1.drew).alloc (Nat.le_refl _) (.cells (bv [116]).toArray 5)
        have dO : Hid ((w1.drew.alloc (.cells (bv [116]).toArray 5)).ownsRow w1.heap.size 5 1 (.slice (some ⟨w1.heap.size, 0, none⟩) 1 1) 1 (bv [116])) := Lib.hid (own_lit w1.drew [116] (by unfold maxLen; simp))
        have dQ : Hid (Below w1.heap.size w1.drew (w1.drew.alloc (.cells (bv [116]).toArray 5))) := Lib.hid hb
        have eS : Hid ((w1.drew.alloc (.cells (bv [116]).toArray 5)).cell? ⟨X, 0, none⟩ = some (.int .i64 2) ∧ (w1.drew.alloc (.cells (bv [116]).toArray 5)).cell? ⟨X, 1, none⟩ = some (.slice A L C)) := Lib.hid ⟨(hb.cell (p := ⟨X, 0, none⟩) hs1).trans dS.out.1, (hb.cell (p := ⟨X, 1, none⟩) hs1).trans dS.out.2⟩
        have hZQ : w1.heap.size ≤ (w1.drew.alloc (.cells (bv [116]).toArray 5)).heap.size := hb.size
        clear dS hb
        have dS := eS
        clear eS
        change K _ (w1.drew.alloc (.cells (bv [116]).toArray 5))
        generalize w1.drew.alloc (.cells (bv [116]).toArray 5) = wQ at *
        (try go_wp2_with fail)
        refine hK.out _ _ ?_ (fun hNew => ?_)
        · ((try dsimp only); exact dS.out)
        clear hK K hHeld
        have hHeld := hNew
        clear hNew
        (try simp only [Act.put, List.setIfInBounds_toArray, List.set_cons_zero, List.set_cons_succ])
        refine wpAnyH_ready (rs := [9]) (by kernel_rfl) (by simp) ?_
        refine AllReadyH.cons (o := { dst := some 20, op := Op.call { callee := Callee.value (Operand.func 53), args := #[Operand.tmp 15, Operand.const (Value.int IntKind.i64 4), Operand.tmp 19], argTypes := #[23, 3, 105] }, type := 23, pos := "ref.go:238", after := #[{ on := 4, ground := Ground.data }, { on := 8, ground := Ground.data }], guard := none }) rfl (fun K hK => ?_) ?_
        · go_simp
          have HNr := Lib.hid (rnum_k w1.heap.size _ 1 (bv [116]) (L : Int) 4 wQ hZQ dO.out (by omega) (by omega) (by omega) (by omega))
          rw [show ((4 : Nat) : Int) = 4 from rfl] at HNr
          rw [show IntKind.u64.wrap (L : Int) = (L : Int) from by rw [IntKind.wrap_u64]; omega]
          refine HNr.out.mono ?_
          clear HNr
          rintro e wN ⟨vN, rfl, ho, hb, hk⟩
          have hb3 := dQ.out.trans hb
          have eO : Hid (wN.ownsRow w1.heap.size 5 1 vN 5 (bv (116 :: be 4 (L : Int)))) := Lib.hid (own_eq ho (by simp [bv]) rfl)
          have eR := Lib.hid (dR.out.below hb3)
          have eB := Lib.hid (dB.out.trans (hb3.mono (by rw [← HX.out]; exact Nat.le_of_lt hs1)))
          have eS : Hid (wN.cell? ⟨X, 0, none⟩ = some (.int .i64 2) ∧ wN.cell? ⟨X, 1, none⟩ = some (.slice A L C)) := Lib.hid ⟨(hb3.cell (p := ⟨X, 0, none⟩) hs1).trans (dS1.out.1), (hb3.cell (p := ⟨X, 1, none⟩) hs1).trans (dS1.out.2)⟩
          have hZN : w1.heap.size ≤ wN.heap.size := hb3.size
          clear dO dQ dS dS1 hb hb3 ho hk dR dB hZQ
          have dS := eS
          clear eS
          (try go_wp2_with fail)
          refine hK.out _ _ ?_ (fun hNew => ?_)
          · ((try dsimp only); exact dS.out)
          clear hK K hHeld
          have hHeld := hNew
          clear hNew
          (try simp only [Act.put, List.setIfInBounds_toArray, List.set_cons_zero, List.set_cons_succ])
          refine wpAnyH_take (i := 10) (oi := { dst := some 5, op := Op.assign (Operand.tmp 20), type := 23, pos := "ref.go:238", after := #[{ on := 9, ground := Ground.data }, { on := 9, ground := Ground.chain }, { on := 0, ground := Ground.phase }, { on := 1, ground := Ground.phase }, { on := 2, ground := Ground.phase }, { on := 3, ground := Ground.phase }, { on := 4, ground := Ground.phase }, { on := 5, ground := Ground.phase }, { on := 6, ground := Ground.phase }, { on := 7, ground := Ground.phase }, { on := 8, ground := Ground.phase }, { on := 9, ground := Ground.phase }], guard := none }) (v := ?_) rfl (by kernel_rfl) (by kernel_rfl) (by kernel_rfl) (fun _ _ _ h => h) (Or.inl ⟨by rfl, ?_⟩) (by assumption) ?_
          rotate_left 1
          · ((intro w hSw; (try dsimp only at hSw); go_simp) <;> with_reducible rfl)
          (try simp only [Act.put, List.setIfInBounds_toArray, List.set_cons_zero, List.set_cons_succ])
          refine wpAnyH_done (by kernel_rfl) ?_ _
          refine NoPanic.normal ?_
          clear hHeld
          obtain ⟨A2, C2, rfl⟩ := own_slice' eO.out
          have hc1N := dS.out.2
          go_wp2_with (refine wpList_append_rd wN rfl _ _ rfl w1.heap.size (.slice A2 5 C2) 5 (116 :: be 4 (L : Int)) rfl eO.out A L C l rfl eR.out (by omega) hZN ?_)
          intro A' C' w3 ho hb
          have HO3 := Lib.hid ho
          have HB3 := Lib.hid (eB.out.trans (hb.mono (by rw [← HX.out]; exact Nat.le_of_lt hs1)))
          clear ho hb
          go_wp2_with fail
          go_ret2
          refine ⟨HB3.out, .inr ⟨H0.out, A', C', rfl, ?_⟩⟩
          rw [HT.out, ← HX.out]
          exact own_base HO3.out (Nat.le_of_lt hs1)
        exact AllReadyH.nil
      exact AllReadyH.nil
    · have HT := Lib.hid ht
      have dS := dS0
      have hw0 : IntKind.i64.wrap (2 : Int) = (2 : Int) := by decide
      clear ht dS0
      go_wp2_with fail
      refine wp_region_noPanic ?_
      refine wp_region_held_drew (S := (fun wS => wS.cell? ⟨X, 0, none⟩ = some (.int .i64 3) ∧ wS.cell? ⟨X, 1, none⟩ = some (.slice A L C))) (by kernel_rfl) ?_ (fun hHeld => ?_)
      · ((try dsimp only); exact dS.out)
      refine wpAnyH_take (i := 0) (oi := { dst := some 11, op := Op.fieldAddr 50 (Operand.tmp 1) 0, type := 0, pos := "ref.go:238", after := #[], guard := none }) (v := ?_) rfl (by kernel_rfl) (by kernel_rfl) (by kernel_rfl) (fun _ _ _ h => h) (Or.inl ⟨by rfl, ?_⟩) (by assumption) ?_
      rotate_left 1
      · ((intro w hSw; (try dsimp only at hSw); go_simp) <;> with_reducible rfl)
      (try simp only [Act.put, List.setIfInBounds_toArray, List.set_cons_zero, List.set_cons_succ])
      refine wpAnyH_take (i := 1) (oi := { dst := some 12, op := Op.load 3 (Operand.tmp 11), type := 3, pos := "ref.go:238", after := #[{ on := 0, ground := Ground.data }], guard := none }) (v := ?_) rfl (by kernel_rfl) (by kernel_rfl) (by kernel_rfl) (fun _ _ _ h => h) (Or.inl ⟨by rfl, ?_⟩) (by assumption) ?_
      rotate_left 1
      · ((intro w hSw; (try dsimp only at hSw); go_simp) <;> with_reducible rfl)
      (try simp only [Act.put, List.setIfInBounds_toArray, List.set_cons_zero, List.set_cons_succ])
      refine wpAnyH_take (i := 2) (oi := { dst := some 13, op := Op.binOp BinOp.sub 3 (Operand.tmp 12) (Operand.const (Value.int IntKind.i64 1)) 3, type := 3, pos := "ref.go:238", after := #[{ on := 1, ground := Ground.data }], guard := none }) (v := ?_) rfl (by kernel_rfl) (by kernel_rfl) (by kernel_rfl) (fun _ _ _ h => h) (Or.inl ⟨by rfl, ?_⟩) (by assumption) ?_
      rotate_left 1
      · ((intro w hSw; (try dsimp only at hSw); go_simp) <;> with_reducible rfl)
      (try simp only [Act.put, List.setIfInBounds_toArray, List.set_cons_zero, List.set_cons_succ])
      refine wpAnyH_take (i := 3) (oi := { dst := some 14, op := Op.index 9 (Operand.const (Value.string { data := #[98, 116, 99] })) (Operand.tmp 13), type := 5, pos := "ref.go:238", after := #[{ on := 2, ground := Ground.data }], guard := none }) (v := ?_) rfl (by kernel_rfl) (by kernel_rfl) (by kernel_rfl) (fun _ _ _ h => h) (Or.inl ⟨by rfl, ?_⟩) (by assumption) ?_
      rotate_left 1
      · ((intro w hSw; (try dsimp only at hSw); go_simp) <;> with_reducible rfl)
      (try simp only [Act.put, List.setIfInBounds_toArray, List.set_cons_zero, List.set_cons_succ])
      refine wpAnyH_take (i := 5) (oi := { dst := some 16, op := Op.fieldAddr 50 (Operand.tmp 1) 1, type := 0, pos := "ref.go:238", after := #[], guard := none }) (v := ?_) rfl (by kernel_rfl) (by kernel_rfl) (by kernel_rfl) (fun _ _ _ h => h) (Or.inl ⟨by rfl, ?_⟩) (by assumption) ?_
      rotate_left 1
      · ((intro w hSw; (try dsimp only at hSw); go_simp) <;> with_reducible rfl)
      (try simp only [Act.put, List.setIfInBounds_toArray, List.set_cons_zero, List.set_cons_succ])
      refine wpAnyH_take (i := 6) (oi := { dst := some 17, op := Op.load 23 (Operand.tmp 16), type := 23, pos := "ref.go:238", after := #[{ on := 5, ground := Ground.data }], guard := none }) (v := ?_) rfl (by kernel_rfl) (by kernel_rfl) (by kernel_rfl) (fun _ _ _ h => h) (Or.inl ⟨by rfl, ?_⟩) (by assumption) ?_
      rotate_left 1
      · ((intro w hSw; (try dsimp only at hSw); go_simp) <;> with_reducible rfl)
      (try simp only [Act.put, List.setIfInBounds_toArray, List.set_cons_zero, List.set_cons_succ])
      refine wpAnyH_take (i := 7) (oi := { dst := some 18, op := Op.call { callee := Callee.builtin Builtin.len, args := #[Operand.tmp 17], argTypes := #[23] }, type := 3, pos := "ref.go:238", after := #[{ on := 6, ground := Ground.data }], guard := none }) (v := ?_) rfl (by kernel_rfl) (by kernel_rfl) (by kernel_rfl) (fun _ _ _ h => h) (Or.inl ⟨by rfl, ?_⟩) (by assumption) ?_
      rotate_left 1
      · ((intro w hSw; (try dsimp only at hSw); go_simp) <;> with_reducible rfl)
      (try simp only [Act.put, List.setIfInBounds_toArray, List.set_cons_zero, List.set_cons_succ])
      refine wpAnyH_take (i := 8) (oi := { dst := some 19, op := Op.convert 3 105 (Operand.tmp 18), type := 105, pos := "ref.go:238", after := #[{ on := 7, ground := Ground.data }], guard := none }) (v := ?_) rfl (by kernel_rfl) (by kernel_rfl) (by kernel_rfl) (fun _ _ _ h => h) (Or.inl ⟨by rfl, ?_⟩) (by assumption) ?_
      rotate_left 1
      · ((intro w hSw; (try dsimp only at hSw); go_simp) <;> with_reducible rfl)
      (try simp only [Act.put, List.setIfInBounds_toArray, List.set_cons_zero, List.set_cons_succ])
      refine wpAnyH_ready (rs := [4]) (by kernel_rfl) (by simp) ?_
      refine AllReadyH.cons (o := { dst := some 15, op := Op.buildSlice 23 1 #[(0, Operand.tmp 14)], type := 23, pos := "ref.go:238", after := #[{ on := 3, ground := Ground.data }], guard := none }) rfl (fun K hK => ?_) ?_
      · go_simp
        have dS1 := dS
        have hb := (Below.refl w1.drew.heap.size w1.drew).alloc (Nat.le_refl _) (.cells (bv [99]).toArray 5)
        have dO : Hid ((w1.drew.alloc (.cells (bv [99]).toArray 5)).ownsRow w1.heap.size 5 1 (.slice (some ⟨w1.heap.size, 0, none⟩) 1 1) 1 (bv [99])) := Lib.hid (own_lit w1.drew [99] (by unfold maxLen; simp))
        have dQ : Hid (Below w1.heap.size w1.drew (w1.drew.alloc (.cells (bv [99]).toArray 5))) := Lib.hid hb
        have eS : Hid ((w1.drew.alloc (.cells (bv [99]).toArray 5)).cell? ⟨X, 0, none⟩ = some (.int .i64 3) ∧ (w1.drew.alloc (.cells (bv [99]).toArray 5)).cell? ⟨X, 1, none⟩ = some (.slice A L C)) := Lib.hid ⟨(hb.cell (p := ⟨X, 0, none⟩) hs1).trans dS.out.1, (hb.cell (p := ⟨X, 1, none⟩) hs1).trans dS.out.2⟩
        have hZQ : w1.heap.size ≤ (w1.drew.alloc (.cells (bv [99]).toArray 5)).heap.size := hb.size
        clear dS hb
        have dS := eS
        clear eS
        change K _ (w1.drew.alloc (.cells (bv [99]).toArray 5))
        generalize w1.drew.alloc (.cells (bv [99]).toArray 5) = wQ at *
        (try go_wp2_with fail)
        refine hK.out _ _ ?_ (fun hNew => ?_)
        · ((try dsimp only); exact dS.out)
        clear hK K hHeld
        have hHeld := hNew
        clear hNew
        (try simp only [Act.put, List.setIfInBounds_toArray, List.set_cons_zero, List.set_cons_succ])
        refine wpAnyH_ready (rs := [9]) (by kernel_rfl) (by simp) ?_
        refine AllReadyH.cons (o := { dst := some 20, op := Op.call { callee := Callee.value (Operand.func 53), args := #[Operand.tmp 15, Operand.const (Value.int IntKind.i64 4), Operand.tmp 19], argTypes := #[23, 3, 105] }, type := 23, pos := "ref.go:238", after := #[{ on := 4, ground := Ground.data }, { on := 8, ground := Ground.data }], guard := none }) rfl (fun K hK => ?_) ?_
        · go_simp
          have HNr := Lib.hid (rnum_k w1.heap.size _ 1 (bv [99]) (L : Int) 4 wQ hZQ dO.out (by omega) (by omega) (by omega) (by omega))
          rw [show ((4 : Nat) : Int) = 4 from rfl] at HNr
          rw [show IntKind.u64.wrap (L : Int) = (L : Int) from by rw [IntKind.wrap_u64]; omega]
          refine HNr.out.mono ?_
          clear HNr
          rintro e wN ⟨vN, rfl, ho, hb, hk⟩
          have hb3 := dQ.out.trans hb
          have eO : Hid (wN.ownsRow w1.heap.size 5 1 vN 5 (bv (99 :: be 4 (L : Int)))) := Lib.hid (own_eq ho (by simp [bv]) rfl)
          have eR := Lib.hid (dR.out.below hb3)
          have eB := Lib.hid (dB.out.trans (hb3.mono (by rw [← HX.out]; exact Nat.le_of_lt hs1)))
          have eS : Hid (wN.cell? ⟨X, 0, none⟩ = some (.int .i64 3) ∧ wN.cell? ⟨X, 1, none⟩ = some (.slice A L C)) := Lib.hid ⟨(hb3.cell (p := ⟨X, 0, none⟩) hs1).trans (dS1.out.1), (hb3.cell (p := ⟨X, 1, none⟩) hs1).trans (dS1.out.2)⟩
          have hZN : w1.heap.size ≤ wN.heap.size := hb3.size
          clear dO dQ dS dS1 hb hb3 ho hk dR dB hZQ
          have dS := eS
          clear eS
          (try go_wp2_with fail)
          refine hK.out _ _ ?_ (fun hNew => ?_)
          · ((try dsimp only); exact dS.out)
          clear hK K hHeld
          have hHeld := hNew
          clear hNew
          (try simp only [Act.put, List.setIfInBounds_toArray, List.set_cons_zero, List.set_cons_succ])
          refine wpAnyH_take (i := 10) (oi := { dst := some 5, op := Op.assign (Operand.tmp 20), type := 23, pos := "ref.go:238", after := #[{ on := 9, ground := Ground.data }, { on := 9, ground := Ground.chain }, { on := 0, ground := Ground.phase }, { on := 1, ground := Ground.phase }, { on := 2, ground := Ground.phase }, { on := 3, ground := Ground.phase }, { on := 4, ground := Ground.phase }, { on := 5, ground := Ground.phase }, { on := 6, ground := Ground.phase }, { on := 7, ground := Ground.phase }, { on := 8, ground := Ground.phase }, { on := 9, ground := Ground.phase }], guard := none }) (v := ?_) rfl (by kernel_rfl) (by kernel_rfl) (by kernel_rfl) (fun _ _ _ h => h) (Or.inl ⟨by rfl, ?_⟩) (by assumption) ?_
          rotate_left 1
          · ((intro w hSw; (try dsimp only at hSw); go_simp) <;> with_reducible rfl)
          (try simp only [Act.put, List.setIfInBounds_toArray, List.set_cons_zero, List.set_cons_succ])
          refine wpAnyH_done (by kernel_rfl) ?_ _
          refine NoPanic.normal ?_
          clear hHeld
          obtain ⟨A2, C2, rfl⟩ := own_slice' eO.out
          have hc1N := dS.out.2
          go_wp2_with (refine wpList_append_rd wN rfl _ _ rfl w1.heap.size (.slice A2 5 C2) 5 (99 :: be 4 (L : Int)) rfl eO.out A L C l rfl eR.out (by omega) hZN ?_)
          intro A' C' w3 ho hb
          have HO3 := Lib.hid ho
          have HB3 := Lib.hid (eB.out.trans (hb.mono (by rw [← HX.out]; exact Nat.le_of_lt hs1)))
          clear ho hb
          go_wp2_with fail
          go_ret2
          refine ⟨HB3.out, .inr ⟨H0.out, A', C', rfl, ?_⟩⟩
          rw [HT.out, ← HX.out]
          exact own_base HO3.out (Nat.le_of_lt hs1)
        exact AllReadyH.nil
      exact AllReadyH.nil
  · have hd : (E != 0) = true := by simp [h0]
    have H0 : Hid (ckE k l L ≠ 0) := Lib.hid (fun e => h0 (HE.out.trans e))
    clear h0 dS0 dR dB
    go_wp2_with fail
    go_ret2
    exact ⟨HB1.out, .inl ⟨H0.out, by rw [← HE.out]; rfl⟩⟩
end Go.Proofs.Ytmcmapgllaopmaa.Cd
end

section
/- ParseObj of any bytes. -/
namespace Go.Proofs.Ytmcmapgllaopmaa.Cd
open Go.RowKit
set_option linter.unusedVariables false

/-- what slices.Clone of bytes hands back -/
def CloneRet (B L : Nat) (l : List Int) (w : World) (e : Ending) (w' : World) : Prop :=
  ∃ A' C', e = .returned (.slice A' L C') ∧ w'.ownsRow B 5 1 (.slice A' L C') L (bv l) ∧ Below w.heap.size w w'

theorem own_lit0 (w : World) : (w.alloc (.cells #[] 5)).ownsRow w.heap.size 5 1 (.slice (some ⟨w.heap.size, 0, none⟩) 0 0) 0 (bv []) :=
  ⟨rfl, .inr ⟨w.heap.size, 0, #[], rfl, Nat.le_refl _, by show (w.heap.push _)[w.heap.size]? = _; simp, Nat.le_refl _, Nat.zero_le _, rfl, rfl⟩⟩

set_option maxRecDepth 100000 in
theorem nil_no (x : Addr) (L C : Nat) (w : World) : (binOp .eql 23 (.slice (some x) L C) (.slice none 0 0)).run Try.prog w = .ok (.bool false) w := by rfl
set_option maxRecDepth 100000 in
theorem nil_yes (L C : Nat) (w : World) : (binOp .eql 23 (.slice none L C) (.slice none 0 0)).run Try.prog w = .ok (.bool true) w := by rfl
set_option maxRecDepth 100000 in
theorem clone_any (A : Option Addr) (L C : Nat) (l : List Int) (w : World) (h : RdB w A L C l) :
    Calls Try.prog 65 #[.slice A L C] w (CloneRet w.heap.size L l w) := by
  have hbig := h.big
  have hc := h.cap
  cases A with
  | none =>
    have hn := h.none rfl
    have hl := h.len
    obtain rfl : L = 0 := by omega
    obtain rfl : l = [] := List.eq_nil_of_length_eq_zero hl
    subst hn
    have HO : Hid (w.ownsRow w.heap.size 5 1 (.slice none 0 0) 0 (bv [])) := Lib.hid (own_none' w _)
    clear h hl
    have hnil := nil_yes 0 0
    go_enter Try.func65, Try.ntmps65
    go_wp2_with fail
    go_ret
    exact ⟨_, _, rfl, HO.out, Below.refl _ _⟩
  | some x =>
    have hb := (Below.refl w.heap.size w).alloc (Nat.le_refl _) (.cells #[] 5)
    have HR := Lib.hid (h.below hb)
    have HB := Lib.hid hb
    have hs := al_le w (.cells #[] 5)
    clear h hb
    have hnil := nil_no x L C
    go_enter Try.func65, Try.ntmps65
    go_wp2_with (refine wpList_append_rd _ rfl _ _ rfl w.heap.size _ 0 [] rfl (own_lit0 w) (some x) L C l rfl HR.out (by omega) hs ?_)
    intro A' C' w2 ho hb2
    have HO := Lib.hid ho
    have HB2 := Lib.hid (HB.out.trans hb2)
    clear ho hb2
    go_wp2_with fail
    go_ret
    exact ⟨_, _, rfl, HO.out, HB2.out⟩

set_option maxRecDepth 100000 in
theorem rest_r (R N : Nat) (t : TypeId) (A : Option Addr) (L C : Nat) (l : List Int) (at' : Nat) (f : Int) (E : Nat → Value) (w : World) (h : Rdr w R N t A L C l at' f E) :
    Calls Try.prog 64 #[.pointer (some ⟨R, 0, none⟩)] w (TakeRet R N t A L C l at' f E (L - at') w) := by
  have hle := h.le
  have hbig := h.rd.big
  have hc0 := h.c0
  have hc1 := h.c1
  have hc0' : w.drew.cell? ⟨R, 0, none⟩ = some (.slice A L C) := h.c0
  have hc1' : w.drew.cell? ⟨R, 1, none⟩ = some (.int .i64 (at' : Int)) := h.c1
  have HT := Lib.hid (take_any R N t A L C l at' f E (L - at') w.drew (h.drewN 1) (by omega))
  have hsub : (L : Int) - (at' : Int) = ((L - at' : Nat) : Int) := by omega
  have hw : IntKind.i64.wrap ((L : Int) - (at' : Int)) = ((L - at' : Nat) : Int) := by rw [hsub]; exact IntWalk.i64_in _ (by omega)
  generalize hD : L - at' = D at *
  clear h hsub
  go_enter Try.func64, Try.ntmps64
  go_wp2_with fail
  refine wp_region_still_tail 11 (by kernel_rfl) (by kernel_rfl) ?_
  simp only [List.take_succ_cons, List.take_zero, List.drop_succ_cons, List.drop_zero]
  repeat still_step
  refine wpStill_nil ?_
  change wpList _ _ _ _ _ w.drew
  clear hc0 hc1
  go_wp2_with fail
  refine HT.out.mono ?_
  rintro e w1 ⟨A', C', rfl, hr, hn, hR, hg⟩
  have HR := Lib.hid hR
  have HRd := Lib.hid hr
  have HN := Lib.hid hn
  have HG : Hid (w.grownBy w1 (some R)) := Lib.hid ⟨hg.os, hg.tape, hg.output, hg.size, hg.block⟩
  clear hR hr hn hg HT
  go_wp2_with fail
  go_ret
  exact ⟨A', C', rfl, HRd.out, HN.out, HR.out, HG.out⟩

/-- the kind of a letter -/
def poK (t : Int) : Int := if t = 98 then 1 else if t = 116 then 2 else if t = 99 then 3 else 0
theorem kind_any (T : Int) (w : World) :
    Calls Try.prog 63 #[.int .u8 T] w fun e w' => e = .returned (.int .i64 (poK T)) ∧ w = w' := by
  by_cases h1 : T = 99
  · subst h1
    go_enter Try.func63, Try.ntmps63
    go_wp2
    go_ret
    exact ⟨rfl, rfl⟩
  · by_cases h2 : T = 116
    · subst h2
      go_enter Try.func63, Try.ntmps63
      go_wp2
      go_ret
      exact ⟨rfl, rfl⟩
    · by_cases h3 : T = 98
      · subst h3
        go_enter Try.func63, Try.ntmps63
        go_wp2
        go_ret
        exact ⟨rfl, rfl⟩
      · have HE : Hid (poK T = 0) := Lib.hid (by unfold poK; rw [if_neg h3, if_neg h2, if_neg h1])
        have d1 : (T == 99) = false := by simp [h1]
        have d2 : (T == 116) = false := by simp [h2]
        have d3 : (T == 98) = false := by simp [h3]
        clear h1 h2 h3
        go_enter Try.func63, Try.ntmps63
        go_wp2
        go_ret
        exact ⟨by rw [HE.out]; rfl, rfl⟩
end Go.Proofs.Ytmcmapgllaopmaa.Cd
end

section
/- ParseObj of any bytes: the whole. -/
namespace Go.Proofs.Ytmcmapgllaopmaa.Cd
open Go.RowKit
set_option linter.unusedVariables false

/-- why bytes are no object -/
def poE (l : List Int) (L : Nat) : Int :=
  if L < 5 then 14 else if poK (l.getD 0 0) = 0 then 3 else if ((L - 5 : Nat) : Int) < nv ((l.drop 1).take 4) then 14 else
  if nv ((l.drop 1).take 4) < ((L - 5 : Nat) : Int) then 15 else ckE (poK (l.getD 0 0)) (l.drop 5) (L - 5)
def ob0 : List Value := [.int .i64 0, .slice none 0 0]
/-- what ParseObj hands back -/
def PoRet (l : List Int) (L : Nat) (w : World) (e : Ending) (w' : World) : Prop :=
  Below w.heap.size w w' ∧
  ((poE l L ≠ 0 ∧ e = .returned (.tuple #[.agg ob0.toArray, .int .i64 (poE l L)])) ∨
   (poE l L = 0 ∧ ∃ A' C', e = .returned (.tuple #[.agg #[.int .i64 (poK (l.getD 0 0)), .slice A' (L - 5) C'], .int .i64 0]) ∧
     w'.ownsRow w.heap.size 5 1 (.slice A' (L - 5) C') (L - 5) (bv (l.drop 5))))

theorem Fin.mk2 {w0 w : World} {B O : Nat} {a b : Value} {f : Nat → Value} (ha : a.oneCell' = true) (hb' : b.oneCell' = true) (hr : w.rowIs O 50 2 f) (hb : Below B w0 w) (hO : B ≤ O) : Fin w0 B w O 50 [a, b] :=
  ⟨fun j hj => by
    have hj : j < 2 := hj
    rw [Nat.zero_add]
    exact ⟨by rw [hr.cell hj]; rfl, hr.frozen _⟩, by kernel_rfl, all_oneCell_toArray (cs := [a, b]) (fun v hv => by
      simp only [List.mem_cons, List.not_mem_nil, or_false] at hv
      rcases hv with rfl | rfl <;> assumption), row_stored hr [a, b] rfl, below_cells hO [a, b] 0 w hb⟩

theorem Fin.row2 {w0 w : World} {B O : Nat} {a b : Value} (h : Fin w0 B w O 50 [a, b]) : (w.setCells O 0 [a, b]).rowIs O 50 2 (fun i => (#[a, b] : Array Value).getD i undef) :=
  ⟨#[a, b], h.stored, rfl, fun i hi => by
    match i, hi with
    | 0, _ => rfl
    | 1, _ => rfl⟩
theorem nv_one (l : List Int) (h : 0 < l.length) : nv (l.take 1) = l.getD 0 0 := by
  cases l with
  | nil => simp at h
  | cons a l => simp [nv]

set_option maxRecDepth 100000 in
set_option maxHeartbeats 2000000 in
theorem parseObj_any (A : Option Addr) (L C : Nat) (l : List Int) (w : World) (h : RdB w A L C l) (hL : L ≤ 140737488000000) :
    Calls Try.prog 26 #[.slice A L C] w (PoRet l L w) := by
  have HRd := Lib.hid h
  have HB0 := Lib.hid (Below.refl w.heap.size w)
  have hlen := h.len
  clear h
  go_enter Try.func26, Try.ntmps26
  go_upto_region 1 with (fail)
  have HO1 : Hid ((w.alloc (.cells #[.int .i64 0, .slice none 0 0] 50)).rowIs w.heap.size 50 2 (fun i => (#[.int .i64 0, .slice none 0 0] : Array Value).getD i undef)) := Lib.hid (row_new w #[.int .i64 0, .slice none 0 0] 50)
  have hX1 : (w.alloc (.cells #[.int .i64 0, .slice none 0 0] 50)).heap.size = w.heap.size + 1 := by show (w.heap.push _).size = _; simp
  have HB1 := Lib.hid (HB0.out.alloc (Nat.le_refl _) (.cells #[.int .i64 0, .slice none 0 0] 50))
  have HRd1 := Lib.hid (HRd.out.below HB1.out)
  have HLt : Hid (∀ x, A = some x → 0 < L → x.block < w.heap.size) := Lib.hid (fun x hx h0 => (HRd.out.cell x hx).1 h0)
  clear HB0 HRd
  generalize w.alloc (.cells #[.int .i64 0, .slice none 0 0] 50) = w1 at *
  go_upto_region 2 with (fail)
  have HB2 := Lib.hid (HB1.out.alloc (show w.heap.size ≤ w1.heap.size by omega) (.cells #[.slice A L C, .int .i64 0, .int .i64 0] 94))
  have HO2 := Lib.hid (World.rowIs.alloc HO1.out (.cells #[.slice A L C, .int .i64 0, .int .i64 0] 94))
  have hr2 := row_new w1 #[.slice A L C, .int .i64 0, .int .i64 0] 94
  have HR2 : Hid (Rdr (w1.alloc (.cells #[.slice A L C, .int .i64 0, .int .i64 0] 94)) w1.heap.size 3 94 A L C l 0 0 (fun _ => undef)) := Lib.hid ⟨hr2.congr (fun j hj => by
      match j, hj with
      | 0, _ => rfl
      | 1, _ => rfl
      | 2, _ => rfl), by decide, HRd1.out.below ((Below.refl w1.heap.size w1).alloc (Nat.le_refl _) _), fun x hx h0 => by have := HLt.out x hx h0; omega, Nat.zero_le _⟩
  clear hr2 HO1 HB1 HRd1
  obtain ⟨R, hR⟩ : ∃ R, R = w.heap.size + 1 := ⟨_, rfl⟩
  obtain ⟨O, hO⟩ : ∃ O, O = w.heap.size := ⟨_, rfl⟩
  rw [hX1, ← hR] at HR2
  rw [← hR]
  rw [← hO] at HO2 HLt ⊢
  have hRO : O < R := by omega
  have hRw : w.heap.size ≤ R := by omega
  clear hX1
  generalize w1.alloc (.cells #[.slice A L C, .int .i64 0, .int .i64 0] 94) = w2 at *
  have HOw := Lib.hid hO
  clear hR hO
  have HBy := Lib.hid (byte_r R 3 94 A L C l 0 0 (fun _ => undef) w2 HR2.out)
  have hRs := HR2.out.row.lt
  clear HR2
  go_wp2_with fail
  refine HBy.out.mono ?_
  rintro e w3 ⟨rfl, hR3, hg3⟩
  have HB3 : Hid (Below w.heap.size w w3) := Lib.hid (HB2.out.grown hg3 (by have := HOw.out; omega) (fun k hk => by have := Option.some.inj hk; omega))
  have HO3 := Lib.hid (World.rowIs.of_block HO2.out (hg3.block O HO2.out.lt (fun e => by have := Option.some.inj e; omega)))
  have hs3 : w2.heap.size ≤ w3.heap.size := hg3.size
  have HNb := Lib.hid (number_r R 3 94 A L C l _ _ (fun _ => undef) 4 w3 hR3 (by omega))
  clear hR3 hg3 HBy HB2 HO2
  obtain ⟨T, hT⟩ : ∃ T, T = nv (tkL 0 l 0 L 1) := ⟨_, rfl⟩
  rw [← hT]
  have HT := Lib.hid hT
  clear hT
  go_wp2_with fail
  refine HNb.out.mono ?_
  rintro e w4 ⟨rfl, hR4, hg4⟩
  have HB4 : Hid (Below w.heap.size w w4) := Lib.hid (HB3.out.grown hg4 (by have := HOw.out; omega) (fun k hk => by have := Option.some.inj hk; omega))
  have HO4 := Lib.hid (World.rowIs.of_block HO3.out (hg4.block O HO3.out.lt (fun e => by have := Option.some.inj e; omega)))
  have hs4 : w3.heap.size ≤ w4.heap.size := hg4.size
  obtain ⟨N, hN⟩ : ∃ N, N = nv (tkL (tkF 0 0 L 1) l (tkA 0 0 L 1) L 4) := ⟨_, rfl⟩
  obtain ⟨F, hF⟩ : ∃ F, F = tkF (tkF 0 0 L 1) (tkA 0 0 L 1) L 4 := ⟨_, rfl⟩
  obtain ⟨P, hP⟩ : ∃ P, P = tkA (tkF 0 0 L 1) (tkA 0 0 L 1) L 4 := ⟨_, rfl⟩
  rw [← hF, ← hP] at hR4
  rw [← hN]
  have HRs := Lib.hid (rest_r R 3 94 A L C l P F (fun _ => undef) w4 hR4)
  have HN := Lib.hid hN
  have HF := Lib.hid hF
  have HP := Lib.hid hP
  have HKd := Lib.hid (kind_any T w4)
  clear hR4 hg4 HNb HB3 HO3 hN hF hP
  go_wp2_with fail
  refine HKd.out.mono ?_
  rintro e w' ⟨rfl, rfl⟩
  go_wp2_with fail
  refine HRs.out.mono ?_
  rintro e w5 ⟨A', C', rfl, hrd, hna, hR5, hg5⟩
  have HB5 : Hid (Below w.heap.size w w5) := Lib.hid (HB4.out.grown hg5 (by have := HOw.out; omega) (fun k hk => by have := Option.some.inj hk; omega))
  have HO5 := Lib.hid (World.rowIs.of_block HO4.out (hg5.block O HO4.out.lt (fun e => by have := Option.some.inj e; omega)))
  have hs5 : w4.heap.size ≤ w5.heap.size := hg5.size
  have HR5 := Lib.hid hR5
  have HRd5 := Lib.hid hrd
  have hF5 : tkF F P L (L - P) = F := by unfold tkF; rw [if_neg (fun hh => by omega)]
  rw [hF5] at HR5
  have hcF : w5.cell? ⟨R, 2, none⟩ = some (.int .i64 F) := HR5.out.c2
  have hOl : w.heap.size ≤ O := by have := HOw.out; omega
  clear hrd hna hR5 hg5 HRs HKd HB4 HO4 hF5
  by_cases h5 : L < 5
  · have hFe : F = 14 := by
      rw [HF.out]
      by_cases h1 : L < 1
      · obtain ⟨e1, e2, -⟩ := tk_cut (f := 0) rfl l 0 L 1 (by omega)
        rw [e1, e2]
        exact (tk_no (f := 14) (by decide) l 0 L 4).1
      · obtain ⟨e1, e2, -⟩ := tk_yes (f := 0) rfl l 0 L 1 (by omega)
        rw [e1, e2]
        exact (tk_cut (f := 0) rfl l _ L 4 (by omega)).1
    have HE : Hid (poE l L = 14) := Lib.hid (by unfold poE; rw [if_pos h5])
    have HFz := Lib.hid (Fin.mk2 (a := .int .i64 0) (b := .slice none 0 0) rfl rfl (World.rowIs.drew HO5.out) HB5.out.drew hOl)
    have HcF : Hid (w5.drew.cell? ⟨R, 2, none⟩ = some (.int .i64 F)) := Lib.hid HR5.out.c2
    have HcF2 : Hid ((w5.drew.setCells O 0 [.int .i64 0, .slice none 0 0]).cell? ⟨R, 2, none⟩ = some (.int .i64 F)) := Lib.hid (Rdr.laid (X := O) (by omega) [.int .i64 0, .slice none 0 0] 0 _ (fun x hx h0 => by have := HLt.out x hx h0; omega) (HR5.out.drewN 1)).c2
    have hd : (F != 0) = true := by rw [hFe]; rfl
    have HFe := Lib.hid hFe
    clear hFe
    go_wp2_with fail
    refine wp_region_noPanic ?_
    refine wp_region_held_drew (S := (fun wS => wS.cell? ⟨R, 2, none⟩ = some (.int .i64 F))) (by kernel_rfl) ?_ (fun hHeld => ?_)
    · ((try dsimp only); exact HcF.out)
    refine wpAnyH_take (i := 0) (oi := { dst := some 29, op := Op.build 50 #[], type := 50, pos := "codec.go:48", after := #[], guard := none }) (v := ?_) rfl (by kernel_rfl) (by kernel_rfl) (by kernel_rfl) (fun _ _ _ h => h) (Or.inl ⟨by rfl, ?_⟩) (by assumption) ?_
    rotate_left 1
    · ((intro w hSw; (try dsimp only at hSw); go_simp) <;> with_reducible rfl)
    (try simp only [Act.put, List.setIfInBounds_toArray, List.set_cons_zero, List.set_cons_succ])
    refine wpAnyH_take (i := 1) (oi := { dst := some 30, op := Op.move (Operand.tmp 4), type := 119, pos := "codec.go:48", after := #[{ on := 5, ground := Ground.gcOnly Departure.lateStores }], guard := none }) (v := ?_) rfl (by kernel_rfl) (by kernel_rfl) (by kernel_rfl) (fun _ _ _ h => h) (Or.inl ⟨by rfl, ?_⟩) (by assumption) ?_
    rotate_left 1
    · ((intro w hSw; (try dsimp only at hSw); go_simp) <;> with_reducible rfl)
    (try simp only [Act.put, List.setIfInBounds_toArray, List.set_cons_zero, List.set_cons_succ])
    refine wpAnyH_take (i := 2) (oi := { dst := some 31, op := Op.nilCheck (Operand.tmp 30), type := 0, pos := "codec.go:48", after := #[{ on := 1, ground := Ground.data }, { on := 5, ground := Ground.gcOnly Departure.lateStores }], guard := none }) (v := ?_) rfl (by kernel_rfl) (by kernel_rfl) (by kernel_rfl) (fun _ _ _ h => h) (Or.inl ⟨by rfl, ?_⟩) (by assumption) ?_
    rotate_left 1
    · ((intro w hSw; (try dsimp only at hSw); go_simp) <;> with_reducible rfl)
    (try simp only [Act.put, List.setIfInBounds_toArray, List.set_cons_zero, List.set_cons_succ])
    refine wpAnyH_take (i := 3) (oi := { dst := some 32, op := Op.fieldAddr 94 (Operand.tmp 31) 2, type := 0, pos := "codec.go:48", after := #[{ on := 2, ground := Ground.data }, { on := 5, ground := Ground.gcOnly Departure.lateStores }], guard := none }) (v := ?_) rfl (by kernel_rfl) (by kernel_rfl) (by kernel_rfl) (fun _ _ _ h => h) (Or.inl ⟨by rfl, ?_⟩) (by assumption) ?_
    rotate_left 1
    · ((intro w hSw; (try dsimp only at hSw); go_simp) <;> with_reducible rfl)
    (try simp only [Act.put, List.setIfInBounds_toArray, List.set_cons_zero, List.set_cons_succ])
    refine wpAnyH_take (i := 4) (oi := { dst := some 33, op := Op.load 25 (Operand.tmp 32), type := 25, pos := "codec.go:48", after := #[{ on := 3, ground := Ground.data }, { on := 5, ground := Ground.gcOnly Departure.lateStores }], guard := none }) (v := ?_) rfl (by kernel_rfl) (by kernel_rfl) (by kernel_rfl) (fun _ _ _ h => h) (Or.inl ⟨by rfl, ?_⟩) (by assumption) ?_
    rotate_left 1
    · ((intro w hSw; (try dsimp only at hSw); go_simp) <;> with_reducible rfl)
    (try simp only [Act.put, List.setIfInBounds_toArray, List.set_cons_zero, List.set_cons_succ])
    refine wpAnyH_ready (rs := [5]) (by kernel_rfl) (by simp) ?_
    refine AllReadyH.cons (o := { dst := none, op := Op.store 50 (Operand.tmp 2) (Operand.tmp 29), type := 0, pos := "codec.go:48", after := #[{ on := 0, ground := Ground.data }, { on := 0, ground := Ground.phase }, { on := 1, ground := Ground.textOnly Departure.lateStores }, { on := 2, ground := Ground.textOnly Departure.lateStores }, { on := 3, ground := Ground.textOnly Departure.lateStores }, { on := 4, ground := Ground.textOnly Departure.lateStores }], guard := none }) rfl (fun K hK => ?_) ?_
    · refine step_store_mid rfl _ _ _ rfl O 0 [.int .i64 0, .slice none 0 0].toArray rfl rfl HFz.out.there HFz.out.size HFz.out.one ?_
      (try go_wp2_with fail)
      refine hK.out _ _ ?_ (fun hNew => ?_)
      · ((try dsimp only); exact HcF2.out)
      clear hK K hHeld
      have hHeld := hNew
      clear hNew
      (try simp only [Act.put, List.setIfInBounds_toArray, List.set_cons_zero, List.set_cons_succ])
      refine wpAnyH_take (i := 6) (oi := { dst := some 3, op := Op.assign (Operand.tmp 33), type := 25, pos := "codec.go:48", after := #[{ on := 4, ground := Ground.data }, { on := 5, ground := Ground.chain }, { on := 0, ground := Ground.phase }, { on := 1, ground := Ground.phase }, { on := 2, ground := Ground.phase }, { on := 3, ground := Ground.phase }, { on := 4, ground := Ground.phase }, { on := 5, ground := Ground.phase }], guard := none }) (v := ?_) rfl (by kernel_rfl) (by kernel_rfl) (by kernel_rfl) (fun _ _ _ h => h) (Or.inl ⟨by rfl, ?_⟩) (by assumption) ?_
      rotate_left 1
      · ((intro w hSw; (try dsimp only at hSw); go_simp) <;> with_reducible rfl)
      (try simp only [Act.put, List.setIfInBounds_toArray, List.set_cons_zero, List.set_cons_succ])
      refine wpAnyH_done (by kernel_rfl) ?_ _
      refine NoPanic.normal ?_
      clear hHeld
      go_wp2_with fail
      refine bodyPost_ret (results_cell2 rfl _ _ O _ _ _ _ rfl HFz.out.stored Try.underlying50 rfl HFz.out.size (.int .i64 F) rfl) rfl ?_
      exact ⟨HFz.out.bel, .inl ⟨by rw [HE.out]; decide, by rw [HE.out, HFe.out]; rfl⟩⟩
    exact AllReadyH.nil
  · have hkb : 0 < l.length := by omega
    have e1 := tk_yes (f := 0) rfl l 0 L 1 (by omega)
    have e2 := tk_yes (f := 0) rfl l (0 + 1) L 4 (by omega)
    have hFe : F = 0 := by rw [HF.out, e1.1, e1.2.1]; exact e2.1
    have hPe : P = 5 := by rw [HP.out, e1.1, e1.2.1]; exact e2.2.1
    have hTe : T = l.getD 0 0 := by rw [HT.out, e1.2.2, List.drop_zero]; exact nv_one l hkb
    have hNe : N = nv ((l.drop 1).take 4) := by rw [HN.out, e1.1, e1.2.1]; rw [e2.2.2]
    obtain rfl : F = 0 := hFe
    obtain rfl : P = 5 := hPe
    have e3 := tk_yes (f := 0) rfl l 5 L (L - 5) (Nat.le_refl _)
    have hbd : tkL 0 l 5 L (L - 5) = l.drop 5 := by rw [e3.2.2, List.take_of_length_le (by rw [List.length_drop]; omega)]
    have hdl : (l.drop 5).length = L - 5 := by rw [List.length_drop]; omega
    have hT0 : Hid (l.getD 0 0 = T) := Lib.hid hTe.symm
    have hN0 : Hid (nv ((l.drop 1).take 4) = N) := Lib.hid hNe.symm
    rw [hbd, hdl] at HRd5
    rw [hbd, hdl]
    have HDl := Lib.hid hdl
    have hF0 : ((0 : Int) != 0) = false := rfl
    have hNb : 0 ≤ N ∧ N < 4294967296 := by
      rw [hNe]
      have hb := nv_bound 4 ((l.drop 1).take 4) (by rw [List.length_take]; omega) (fun i hi => by
        have := HRd5.out.len
        rw [List.length_take, List.length_drop] at hi
        rw [take_getD _ _ _ (by omega)]
        have hr := HR5.out.rd.byte (1 + i) (by omega)
        simpa [List.getD, Nat.add_comm] using hr)
      exact ⟨hb.1, by have := hb.2; omega⟩
    have hN1 := hNb.1
    have hN2 := hNb.2
    generalize hM : L - 5 = M at *
    have hML : M ≤ L := by omega
    have HM := Lib.hid hM
    generalize hBD : l.drop 5 = bd at *
    have HBD := Lib.hid hBD
    have HPE : Hid (poE l L = if poK T = 0 then 3 else if (M : Int) < N then 14 else if N < (M : Int) then 15 else ckE (poK T) bd M) := Lib.hid (by
      unfold poE; rw [if_neg h5, hT0.out, hN0.out, hM, hBD])
    have HPoO : Hid (∀ e w', (Below w.heap.size w w' ∧ ((poE l L ≠ 0 ∧ e = .returned (.tuple #[.agg ob0.toArray, .int .i64 (poE l L)])) ∨ (poE l L = 0 ∧ ∃ A' C', e = .returned (.tuple #[.agg #[.int .i64 (poK T), .slice A' M C'], .int .i64 0]) ∧ w'.ownsRow w.heap.size 5 1 (.slice A' M C') M (bv bd)))) → PoRet l L w e w') := Lib.hid (fun e w' h => by
      unfold PoRet; rw [hT0.out, hM, hBD]; exact h)
    clear e1 e2 e3 hTe hNe hbd hdl hNb hkb hM hBD hlen HF HP HT HN
    have HFz := Lib.hid (Fin.mk2 (a := .int .i64 0) (b := .slice none 0 0) rfl rfl HO5.out HB5.out hOl)
    obtain ⟨K, hK⟩ : ∃ K, K = poK T := ⟨_, rfl⟩
    rw [← hK] at HPE HPoO ⊢
    by_cases hk0 : K = 0
    · have hdk : (K == 0) = true := by simp [hk0]
      have HE : Hid (poE l L = 3) := Lib.hid (by rw [HPE.out, if_pos hk0])
      clear hk0 hK
      go_wp2_with (refine wpList_store_mid rfl _ _ _ rfl O 0 [.int .i64 0, .slice none 0 0].toArray rfl rfl HFz.out.there HFz.out.size HFz.out.one ?_)
      refine bodyPost_ret (results_cell2 rfl _ _ O _ _ _ _ rfl HFz.out.stored Try.underlying50 rfl HFz.out.size (.int .i64 3) rfl) rfl ?_
      exact HPoO.out _ _ ⟨HFz.out.bel, .inl ⟨by rw [HE.out]; decide, by rw [HE.out]; rfl⟩⟩
    · have hdk : (K == 0) = false := by simp [hk0]
      by_cases hlt : (M : Int) < N
      · have HE : Hid (poE l L = 14) := Lib.hid (by rw [HPE.out, if_neg hk0, if_pos hlt])
        have hdl : decide ((M : Int) < N) = true := by simp [hlt]
        clear hk0 hK hlt
        go_wp2_with (refine wpList_store_mid rfl _ _ _ rfl O 0 [.int .i64 0, .slice none 0 0].toArray rfl rfl HFz.out.there HFz.out.size HFz.out.one ?_)
        refine bodyPost_ret (results_cell2 rfl _ _ O _ _ _ _ rfl HFz.out.stored Try.underlying50 rfl HFz.out.size (.int .i64 14) rfl) rfl ?_
        exact HPoO.out _ _ ⟨HFz.out.bel, .inl ⟨by rw [HE.out]; decide, by rw [HE.out]; rfl⟩⟩
      · have hdl : decide ((M : Int) < N) = false := by simp; omega
        by_cases hgt : N < (M : Int)
        · have HE : Hid (poE l L = 15) := Lib.hid (by rw [HPE.out, if_neg hk0, if_neg hlt, if_pos hgt])
          have hdg : decide (N < (M : Int)) = true := by simp [hgt]
          clear hk0 hK hlt hgt
          go_wp2_with (refine wpList_store_mid rfl _ _ _ rfl O 0 [.int .i64 0, .slice none 0 0].toArray rfl rfl HFz.out.there HFz.out.size HFz.out.one ?_)
          refine bodyPost_ret (results_cell2 rfl _ _ O _ _ _ _ rfl HFz.out.stored Try.underlying50 rfl HFz.out.size (.int .i64 15) rfl) rfl ?_
          exact HPoO.out _ _ ⟨HFz.out.bel, .inl ⟨by rw [HE.out]; decide, by rw [HE.out]; rfl⟩⟩
        · have hdg : decide (N < (M : Int)) = false := by simp; omega
          have HE : Hid (poE l L = ckE K bd M) := Lib.hid (by rw [HPE.out, if_neg hk0, if_neg hlt, if_neg hgt])
          have hbx := HB5.out.alloc (show w.heap.size ≤ w5.heap.size by have := HB5.out.size; omega) (.cells #[.int .i64 0, .slice none 0 0] 50)
          have hrx : (w5.alloc (.cells #[.int .i64 0, .slice none 0 0] 50)).rowIs w5.heap.size 50 2 (fun i => (#[.int .i64 0, .slice none 0 0] : Array Value).getD i undef) := row_new w5 #[.int .i64 0, .slice none 0 0] 50
          have HFx := Lib.hid (Fin.mk2 (a := .int .i64 K) (b := .slice A' M C') rfl rfl hrx hbx (show w.heap.size ≤ w5.heap.size by have := HB5.out.size; omega))
          have hOX : O < w5.heap.size := HO5.out.lt
          have hb6 : Below w5.heap.size w5 ((w5.alloc (.cells #[.int .i64 0, .slice none 0 0] 50)).setCells w5.heap.size 0 [.int .i64 K, .slice A' M C']) := below_cells (Nat.le_refl _) _ _ _ ((Below.refl _ _).alloc (Nat.le_refl _) _)
          have HO6 := Lib.hid (World.rowIs.of_block HO5.out (hb6.block O hOX))
          have HRd6 := Lib.hid (HRd5.out.below hb6)
          have HB6 := Lib.hid HFx.out.bel
          have HX6 := Lib.hid HFx.out.row2
          clear hk0 hK hlt hgt hbx hrx hb6 HFz HO5 HR5 HB5 HRd5
          go_upto_region 14 with (refine wpList_store_mid rfl _ _ _ rfl w5.heap.size 0 [.int .i64 K, .slice A' M C'].toArray rfl rfl HFx.out.there HFx.out.size HFx.out.one ?_)
          change Code.wp _ _ _ _ ((w5.alloc (.cells #[.int .i64 0, .slice none 0 0] 50)).setCells w5.heap.size 0 [.int .i64 K, .slice A' M C'])
          clear HFx
          generalize (w5.alloc (.cells #[.int .i64 0, .slice none 0 0] 50)).setCells w5.heap.size 0 [.int .i64 K, .slice A' M C'] = w6 at *
          generalize w5.heap.size = X at *
          have hcx0 : w6.cell? ⟨X, 0, none⟩ = some (.int .i64 K) := HX6.out.cell (i := 0) (by omega)
          have hcx1 : w6.cell? ⟨X, 1, none⟩ = some (.slice A' M C') := HX6.out.cell (i := 1) (by omega)
          have HCk := Lib.hid (ck_any K A' M C' bd w6 HRd6.out)
          have hX6 := HX6.out.lt
          go_wp2_with fail
          refine HCk.out.mono ?_
          rintro e w7 ⟨rfl, hb⟩
          have HB7 := Lib.hid (HB6.out.trans (hb.mono (by have := HB6.out.size; omega)))
          have HO7 := Lib.hid (World.rowIs.of_block HO6.out (hb.block O HO6.out.lt))
          have HX7 := Lib.hid (World.rowIs.of_block HX6.out (hb.block X hX6))
          have HRd7 := Lib.hid (HRd6.out.below hb)
          clear hb HCk HB6 HO6 HX6 HRd6 hcx0 hcx1
          have hX7 := HX7.out.lt
          by_cases he : ckE K bd M = 0
          · rw [he] at HE ⊢
            have HCl := Lib.hid (clone_any A' M C' bd w7 HRd7.out)
            go_wp2_with fail
            refine HCl.out.mono ?_
            rintro e w8 ⟨A2, C2, rfl, ho, hb⟩
            have HB8 := Lib.hid (HB7.out.trans (hb.mono (by have := HB7.out.size; omega)))
            have HO8 := Lib.hid (World.rowIs.of_block HO7.out (hb.block O HO7.out.lt))
            have HX8 := Lib.hid (World.rowIs.of_block HX7.out (hb.block X hX7))
            have HOw8 := Lib.hid ho
            have hX8 := HX8.out.lt
            have hc0 : w8.cell? ⟨X, 0, none⟩ = some (.int .i64 K) := HX8.out.cell (i := 0) (by omega)
            have hc1 : w8.cell? ⟨X, 1, none⟩ = some (.slice A' M C') := HX8.out.cell (i := 1) (by omega)
            have hf1 : w8.frozen? ⟨X, 1, none⟩ = false := HX8.out.frozen 1
            have HO9 : Hid ((w8.setCell ⟨X, 1, none⟩ (.slice A2 M C2)).rowIs O 50 2 (fun i => (#[.int .i64 0, .slice none 0 0] : Array Value).getD i undef)) := Lib.hid (HO8.out.setOther (a := ⟨X, 1, none⟩) (by show O ≠ X; omega) _)
            have HB9 := Lib.hid (HB8.out.setCell (p := ⟨X, 1, none⟩) (show w.heap.size ≤ X by omega) (.slice A2 M C2))
            have HFz := Lib.hid (Fin.mk2 (a := .int .i64 K) (b := .slice A2 M C2) rfl rfl HO9.out HB9.out hOl)
            have HOw9 := Lib.hid (own_grown (own_grown HOw8.out (grown_set w8 X 1 (.slice A2 M C2)) (fun e => by have := (HOw8.out.lt X e).1; omega)) (grown_cells _ O [.int .i64 K, .slice A2 M C2] 0) (fun e => by have := (HOw8.out.lt O e).1; omega))
            clear hb ho HCl HB7 HO7 HX7 HRd7 HB8 HO8 HX8 HOw8 HO9 HB9
            go_wp2_with (refine wpList_store_mid rfl _ _ _ rfl O 0 [.int .i64 K, .slice A2 M C2].toArray rfl rfl HFz.out.there HFz.out.size HFz.out.one ?_)
            refine bodyPost_ret (results_cell2 rfl _ _ O _ _ _ _ rfl HFz.out.stored Try.underlying50 rfl HFz.out.size (.int .i64 0) rfl) rfl ?_
            exact HPoO.out _ _ ⟨HFz.out.bel, .inr ⟨HE.out, A2, C2, rfl, own_base HOw9.out (by omega)⟩⟩
          · have hde : (ckE K bd M != 0) = true := by simp [he]
            have HFz := Lib.hid (Fin.mk2 (a := .int .i64 0) (b := .slice none 0 0) rfl rfl HO7.out HB7.out hOl)
            have HEn : Hid (poE l L ≠ 0) := Lib.hid (by rw [HE.out]; exact he)
            clear he
            generalize ckE K bd M = Ec at *
            go_wp2_with (refine wpList_store_mid rfl _ _ _ rfl O 0 [.int .i64 0, .slice none 0 0].toArray rfl rfl HFz.out.there HFz.out.size HFz.out.one ?_)
            refine bodyPost_ret (results_cell2 rfl _ _ O _ _ _ _ rfl HFz.out.stored Try.underlying50 rfl HFz.out.size (.int .i64 Ec) rfl) rfl ?_
            exact HPoO.out _ _ ⟨HFz.out.bel, .inl ⟨HEn.out, by rw [HE.out]; rfl⟩⟩
end Go.Proofs.Ytmcmapgllaopmaa.Cd
end
