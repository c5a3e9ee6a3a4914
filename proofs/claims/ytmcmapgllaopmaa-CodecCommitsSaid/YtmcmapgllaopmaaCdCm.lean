/- A commit that came in; what ParseCommit hands back, told in one way; a commit laid in a block of its own. -/
import Derived.Test.YtmcmapgllaopmaaCdSameC
import Derived.Test.YtmcmapgllaopmaaFrCommit
namespace Go.Proofs.Ytmcmapgllaopmaa.Cd
open Go.RowKit
set_option linter.unusedVariables false

/-- Ids that came in -/
theorem RdIds.of_ids {w : World} {a : Option Addr} {n cap : Nat} {ids : List (List Int)} (h : Fr.IsIds w a n cap ids) (hn : n ≤ 1000000) : RdIds w a n cap ids := by
  rcases h with ⟨rfl, rfl, rfl, rfl⟩ | ⟨x, rfl, hl, hc, hlen, hcell, hwf⟩
  · exact ⟨Nat.le_refl _, by omega, by omega, rfl, fun x hx => by simp at hx, fun h0 => absurd h0 (by omega)⟩
  · refine ⟨hl, by omega, hn, hlen, fun x hx => (hwf x hx).1, fun h0 => ?_⟩
    have h32 : ((ids.getD 0 []).map (Value.int .u8)).length = 32 := by rw [List.length_map]; exact (hwf _ (getD_mem (by omega))).1
    have hc0 := hcell 0 h0 0 (((ids.getD 0 []).map (Value.int .u8))[0]'(by omega)) (List.getElem?_eq_getElem (by omega))
    obtain ⟨b, off, spot⟩ := x
    have hspot : spot = Option.none := by simpa [Addr.add] using World.cell?_spot hc0
    subst hspot
    refine ⟨b, off, rfl, by simpa [Addr.add] using block_lt_of_cell hc0, fun i hi j v hj => ?_⟩
    have := hcell i hi j v hj
    rw [Addr.add_mid, Addr.add_mid] at this
    exact this
theorem RdIds.nil (w : World) : RdIds w none 0 0 [] := ⟨Nat.le_refl _, by omega, by omega, rfl, fun x hx => by simp at hx, fun h0 => absurd h0 (by omega)⟩
theorem pL_len (l : List Int) (L : Nat) : ∀ (n : Nat) (f : Int) (a : Nat) (ids : List (List Int)), (pL l L n f a ids).2.2.length ≤ ids.length + n
  | 0, f, a, ids => by rw [pL]; exact Nat.le_refl _
  | n + 1, f, a, ids => by
    rw [pL]
    split
    · have := pL_len l L n (fl (tkF f a L 32) (cp (idv (tkL f l a L 32)) ids)) (tkA f a L 32) (ids ++ [idv (tkL f l a L 32)])
      rw [List.length_append, List.length_singleton] at this
      omega
    · simp
theorem pa_len (f : Int) (l : List Int) (a L : Nat) : (pa f l a L).2.2.length ≤ 8 := by
  unfold pa
  by_cases h : 8 < paM f l a L
  · have h2 : pa2 f l a L ≠ 0 := by
      unfold pa2 fl
      rw [if_pos h]
      split
      · decide
      · assumption
    rw [pL_st h2]
    simp
  · have := pL_len l L (paM f l a L) (pa2 f l a L) (tkA f a L 1) []
    rw [List.length_nil] at this
    omega
/-- what ParseCommit hands back: one commit, by whichever of the two -/
theorem pc_same (l : List Int) (L : Nat) : ∃ (tr : List Int) (ids : List (List Int)) (au : ByteArray) (tm : Int) (ms : ByteArray), tr.length = 32 ∧
    ∀ w e w', PcRet l L w e w' → Below w.heap.size w w' ∧ ∃ A C, e = .returned (.tuple #[.agg (cm tr (.slice A ids.length C) au tm ms).toArray, .int .i64 (cF7 0 l 0 L)]) ∧ RdIds w' A ids.length C ids := by
  by_cases h : cF7 0 l 0 L = 0
  · refine ⟨cT 0 l 0 L, (cQ 0 l 0 L).2.2, cAu 0 l 0 L, tv (cB 0 l 0 L), cMs 0 l 0 L, ?_, ?_⟩
    · unfold cT
      refine idv_len _ ?_
      unfold tkL
      split
      · rw [List.length_take]; omega
      · simp
    · rintro w e w' ⟨hb, ⟨hne, -⟩ | ⟨hz, hid, Ai, Ci, rfl, ho⟩⟩
      · exact absurd h hne
      · have h8 : (cQ 0 l 0 L).2.2.length ≤ 8 := pa_len _ _ _ _
        exact ⟨hb, Ai, Ci, by rw [hz], rdids_of_own ho hid (by omega) rfl⟩
  · refine ⟨List.replicate 32 0, [], ByteArray.empty, 0, ByteArray.empty, by simp, ?_⟩
    rintro w e w' ⟨hb, ⟨hne, rfl⟩ | ⟨hz, -⟩⟩
    · exact ⟨hb, none, 0, rfl, RdIds.nil _⟩
    · exact absurd hz h
/-- a commit is laid in a block of its own -/
theorem cm_lay (w : World) (D : List Value) (hl : D.length = 36) (h1 : ∀ v ∈ D, v.oneCell' = true) (ZC : Array Value) (hz : ZC.size = 36) :
    Fin w w.heap.size (w.alloc (.cells ZC 40)) w.heap.size 40 D ∧ ((w.alloc (.cells ZC 40)).setCells w.heap.size 0 D).rangeAt w.heap.size 0 D := by
  have hro := row_new w ZC 40
  rw [hz] at hro
  have hf : Fin w w.heap.size (w.alloc (.cells ZC 40)) w.heap.size 40 D := Fin.mk' hl h1 hro ((Below.refl _ w).alloc (Nat.le_refl _) _) (Nat.le_refl _)
  exact ⟨hf, World.rangeAt_setCells_same _ _ _ _ (by have := hf.there; rwa [List.size_toArray] at this)⟩
end Go.Proofs.Ytmcmapgllaopmaa.Cd
