/- commitReader.parents. -/
import Derived.Test.YtmcmapgllaopmaaCdPar
namespace Go.Proofs.Ytmcmapgllaopmaa.Cd
open Go.RowKit
set_option linter.unusedVariables false

def idsV (l : List (List Int)) : List Value := l.flatMap bv
theorem idsV_get : ∀ (l : List (List Int)), (∀ x ∈ l, x.length = 32) → ∀ i j, i < l.length → j < 32 → (idsV l)[i * 32 + j]? = (bv (l.getD i []))[j]?
  | [], _, i, j, hi, _ => absurd hi (by simp)
  | x :: l, h, 0, j, _, hj => by
    have hx : (bv x).length = 32 := by rw [bv_len, h x (List.mem_cons_self ..)]
    rw [idsV, List.flatMap_cons, List.getElem?_append_left (by omega)]
    simp
  | x :: l, h, i + 1, j, hi, hj => by
    have hx : (bv x).length = 32 := by rw [bv_len, h x (List.mem_cons_self ..)]
    rw [idsV, List.flatMap_cons, List.getElem?_append_right (by omega), show (i + 1) * 32 + j - (bv x).length = i * 32 + j by omega]
    exact idsV_get l (fun y hy => h y (List.mem_cons_of_mem _ hy)) i j (by simpa using hi) hj
theorem rdids_of_own {w : World} {B : Nat} {Ae : Option Addr} {n Ce : Nat} {l : List (List Int)} (h : w.ownsRow B 37 32 (.slice Ae n Ce) n (idsV l)) (hid : ∀ x ∈ l, x.length = 32) (hn : n ≤ 1000000) (he : l.length = n) : RdIds w Ae n Ce l := by
  rcases h.2 with ⟨hv, hz⟩ | ⟨g, cap, cur, hv, hb, hg, hnc, hcm, hcs, htake⟩
  · simp only [Value.slice.injEq] at hv
    obtain ⟨rfl, -, rfl⟩ := hv
    subst hz
    exact ⟨Nat.le_refl _, by omega, hn, he, hid, fun h => absurd h (by omega)⟩
  · simp only [Value.slice.injEq, true_and] at hv
    obtain ⟨rfl, rfl⟩ := hv
    have hcm2 := hcm
    unfold maxLen at hcm2
    refine ⟨hnc, by omega, hn, he, hid, fun h0 => ⟨g, 0, rfl, ?_, fun i hi j v hj => ?_⟩⟩
    · rcases Nat.lt_or_ge g w.heap.size with h | h
      · exact h
      · rw [Array.getElem?_eq_none h] at hg; simp at hg
    · have hx : (bv (l.getD i [])).length = 32 := by rw [bv_len, hid _ (getD_mem (by omega))]
      have hj2 : j < 32 := by have := (List.getElem?_eq_some_iff.1 hj).1; omega
      rw [Nat.zero_add, World.ownsRow.cellAt h _ (by omega), idsV_get l hid i j (by omega) hj2]
      exact hj
theorem info37 : (Try.prog.info? 37).map (fun i => (i.zero, i.size, i.bytes)) = some (some (.agg (bv (List.replicate 32 0)).toArray), 32, 32) := by kernel_rfl
theorem wpList_build_id (w : World) {ops : Array Oper} {rest : List Oper} {o : Oper} {a : Act} {Q : Exit → Act → World → Prop} (hgd : o.guard = none) (x : Operand)
    (ho : o.op = .buildSlice 38 1 #[(0, x)]) (cs : List Value) (hx : a.eval x = .agg cs.toArray) (hl : cs.length = 32)
    (h : wpList Try.prog ops Q rest (a.put o.dst (.slice (some ⟨w.heap.size, 0, none⟩) 1 1)) (w.alloc (.cells cs.toArray 37))) : wpList Try.prog ops Q (o :: rest) a w := by
  obtain ⟨i0, hi, hz0, hz1, hz2⟩ := info_parts info37
  refine wpList_buildSlice hgd 38 37 1 #[(0, x)] ho cs.toArray i0 _ Try.underlying38 hi hz0 (by rw [hz1]; decide) (by rw [hz1]; decide) ?_ h
  rw [hz1]
  have := Great.fill_whole (s := 32) (by decide) [Value.agg cs.toArray] ((Array.range (1 * 32)).map ((Value.agg (bv (List.replicate 32 0)).toArray).cells[· % (Value.agg (bv (List.replicate 32 0)).toArray).cells.size]!)) (by simp [Value.cells, hl]) (by simp)
  simpa [hx, Value.cells] using this
/-- one Id more behind a row of one's own -/
theorem wpList_append_id (w : World) {ops : Array Oper} {rest : List Oper} {o : Oper} {a : Act} {Q : Exit → Act → World → Prop} (hgd : o.guard = none) (s x : Operand)
    (ho : o.op = .call { callee := .builtin .append, args := #[s, x], argTypes := #[38, 38] })
    (B : Nat) (v : Value) (n : Nat) (d : List (List Int)) (hs : a.eval s = v) (hown : w.ownsRow B 37 32 v n (idsV d))
    (g : Nat) (y : List Int) (hx : a.eval x = .slice (some ⟨g, 0, none⟩) 1 1) (hy : ∀ j u, (bv y)[j]? = some u → w.cell? ((⟨g, 0, none⟩ : Addr).add j) = some u) (hyl : (bv y).length = 32)
    (hn : n ≤ 1000000) (hbase : B ≤ w.heap.size)
    (h : ∀ A' C' w', w'.ownsRow B 37 32 (.slice A' (n + 1) C') (n + 1) (idsV (d ++ [y])) → w.grownBy w' v.ownBlock → wpList Try.prog ops Q rest (a.put o.dst (.slice A' (n + 1) C')) w') : wpList Try.prog ops Q (o :: rest) a w := by
  refine wpList_plain hgd fun K hK => ?_
  obtain ⟨i0, hi, hz0, hz1, hz2⟩ := info_parts info37
  obtain ⟨v', w', hr, h2, h3, h4⟩ := run_append_own (P := Try.prog) w B 38 o.type 37 i0 (.agg (bv (List.replicate 32 0)).toArray) 32 32 Try.underlying38 hi hz0 hz1 hz2 (by simp [Value.cells, bv]) (by decide) v n (idsV d) hown ⟨g, 0, none⟩ 1 1 (bv y) (by rw [hyl]) hy (bv_one y) (by unfold maxLen; omega) (by omega) hbase
  obtain ⟨A', C', rfl⟩ := own_slice' h2
  unfold Oper.wp execOp
  simp only [ho, resolve, invoke, builtin, Sem.run_bind, Sem.run_pure, Result.andThen_ok, List.map_toArray, List.map_cons, List.map_nil, hs, hx, hr]
  exact hK _ _ (h A' C' w' (by rw [show idsV (d ++ [y]) = idsV d ++ bv y from by simp [idsV]]; exact h2) h3)
theorem new_id (w : World) (y : List Int) (t : TypeId) : ∀ j u, (bv y)[j]? = some u → (w.alloc (.cells (bv y).toArray t)).cell? ((⟨w.heap.size, 0, none⟩ : Addr).add j) = some u := by
  intro j u hj
  rw [show Addr.add ⟨w.heap.size, 0, none⟩ j = (⟨w.heap.size, j, none⟩ : Addr) from by unfold Addr.add; split <;> simp_all, World.cell?_alloc_new]
  simpa using hj

/-- the parents told: how many, where the reader is, what failed -/
def pL (l : List Int) (L : Nat) : Nat → Int → Nat → List (List Int) → Int × Nat × List (List Int)
  | 0, f, a, ids => (f, a, ids)
  | n + 1, f, a, ids => if f = 0 then pL l L n (fl (tkF f a L 32) (cp (idv (tkL f l a L 32)) ids)) (tkA f a L 32) (ids ++ [idv (tkL f l a L 32)]) else (f, a, ids)
def paM (f : Int) (l : List Int) (a L : Nat) : Nat := (nv (tkL f l a L 1)).toNat
def pa2 (f : Int) (l : List Int) (a L : Nat) : Int := if 8 < paM f l a L then fl (tkF f a L 1) 4 else tkF f a L 1
def pa (f : Int) (l : List Int) (a L : Nat) : Int × Nat × List (List Int) := pL l L (paM f l a L) (pa2 f l a L) (tkA f a L 1) []
end Go.Proofs.Ytmcmapgllaopmaa.Cd
