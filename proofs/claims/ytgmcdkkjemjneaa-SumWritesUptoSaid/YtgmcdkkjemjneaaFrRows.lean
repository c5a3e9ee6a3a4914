/- What a walk is told of a slice of rows of bytes that came in, out of the form's own reading and its reach. -/
import Derived.Test.YtgmcdkkjemjneaaFrInts
import Derived.Test.YtgmcdkkjemjneaaRows
import Derived.Deep.Matrix
namespace Go.Proofs.Ytgmcdkkjemjneaa.Fr
open Go.ChangeShapes Go.WideShapes Go.ChangeAt Go.RowKit
set_option linter.unusedVariables false

/-- nil; or 'len' slices of bytes in cells that lie side by side. -/
def IsRows (w : World) (a : Option Addr) (len cap : Nat) (rs : List (List Int)) : Prop :=
  (a = none ∧ len = 0 ∧ cap = 0 ∧ rs = []) ∨
  ∃ (x : Addr) (A : Nat → Option Addr) (L C : Nat → Nat), a = some x ∧ len ≤ cap ∧ cap * 24 ≤ 140737488351232 ∧ rs.length = len ∧
    ∀ i, i < len → w.cell? (x.add i) = some (.slice (A i) (L i) (C i)) ∧ IsInts .u8 1 w (A i) (L i) (C i) (rs.getD i [])

theorem weightsAll_mem {H : Type} {P : Program} {e : TypeId} : ∀ {l : List (DataW H)} {d : DataW H}, d ∈ l → ∀ n ∈ d.weights P e, n ∈ DataW.weightsAll P e l
  | d' :: r, d, hd, n, hn => by
    simp only [DataW.weightsAll, List.mem_append]
    rcases List.mem_cons.1 hd with rfl | h
    · exact Or.inl hn
    · exact Or.inr (weightsAll_mem h n hn)
theorem sized_inner {H : Type} {P : Program} {ts : List TypeId} {ds : List (DataW H)} (h : (DataW.weightsEach P ts ds).all (· ≤ reachBytes) = true) {j : Nat} {t e q : TypeId} {elems spare e' sp' : List (DataW H)}
    (ht : ts[j]? = some t) (hd : ds[j]? = some (.slice elems spare)) (hu : P.underlying t = some (.slice e)) (hu2 : P.underlying e = some (.slice q)) (hx : DataW.slice e' sp' ∈ elems) : (e'.length + sp'.length) * P.bytesOf q ≤ reachBytes := by
  refine of_decide_eq_true (List.all_eq_true.1 h _ (DataW.weights_mem_each ht hd _ ?_))
  simp only [DataW.weights, hu, List.mem_cons, List.mem_append]
  exact Or.inr (Or.inl (weightsAll_mem hx _ (by simp [DataW.weights, hu2])))

theorem bulkAll_lits {H : Type} (k : IntKind) : ∀ zs : List Int, Rows.uptoBulkAll (lits (H := H) k zs) = zs.length
  | [] => by simp [lits, Rows.uptoBulkAll]
  | z :: zs => by
      have ih := bulkAll_lits (H := H) k zs
      simp only [lits, List.map_cons, Rows.uptoBulkAll, Rows.uptoBulk, List.length_cons] at *
      omega
theorem bulk_row {H : Type} (k : IntKind) (A : Option Addr) (L : Nat) (zs : List Int) (h : A = none → L = 0) (hl : L ≤ zs.length) : L + 1 ≤ Rows.uptoBulk (Go.Deep.intRow (H := H) k A L zs) := by
  cases A with
  | none => simp [Go.Deep.intRow, Rows.uptoBulk, h rfl]
  | some a =>
    simp only [Go.Deep.intRow, Rows.uptoBulk, bulkAll_lits, List.length_take, List.length_drop]
    omega
theorem bulkAll_map {H : Type} (f : Nat → DataW H) (g : Nat → Nat) : ∀ l : List Nat, (∀ i ∈ l, g i + 1 ≤ Rows.uptoBulk (f i)) → l.length + (l.map g).sum ≤ Rows.uptoBulkAll (l.map f)
  | [], _ => by simp [Rows.uptoBulkAll]
  | x :: l, h => by
      have ih := bulkAll_map f g l (fun i hi => h i (List.mem_cons_of_mem _ hi))
      have hx := h x (List.mem_cons_self ..)
      simp only [List.map_cons, List.sum_cons, List.length_cons, Rows.uptoBulkAll]
      omega

theorem isRows_of {H : Type} {enc : TypeId × Value → H} {P : Program} {W : World} {t e q : TypeId} {a : Option Addr} {len cap : Nat} {d : DataW H} {p : List MemPlace}
    (hu : P.underlying t = some (.slice e)) (he : P.underlying e = some (.slice q)) (hq : P.underlying q = some (.int .u8)) (ce : P.cellsOf e = 1) (cq : P.cellsOf q = 1) (be : P.bytesOf e = 24) (bq : P.bytesOf q = 1)
    {ts : List TypeId} {ds : List (DataW H)} (hsz : (DataW.weightsEach P ts ds).all (· ≤ reachBytes) = true) {j : Nat} (ht : ts[j]? = some t) (hd : ds[j]? = some d)
    (h : DataW.Trod enc P W 0 (fun _ => true) true t (.slice a len cap) d p) :
    ∃ rs, IsRows W a len cap rs ∧ len + (rs.map List.length).sum ≤ Rows.uptoBulk d := by
  obtain ⟨fuel, hf⟩ := h
  rcases Go.Deep.open_int_rows hu he hq ce cq hf with ⟨hcs, _⟩ | ⟨x, l, c, A, L, C, Z, hcs, _, hl, hm, hx, hcell⟩
  · simp [Value.cells] at hcs
    obtain ⟨rfl, rfl, rfl⟩ := hcs
    exact ⟨[], .inl ⟨rfl, rfl, rfl, rfl⟩, by simp⟩
  · simp [Value.cells] at hcs
    obtain ⟨rfl, rfl, rfl⟩ := hcs
    simp only [Prod.mk.injEq] at hx
    have hd' := hx.1 ▸ hd
    have h1 := sized_slice hsz ht hd' hu
    rw [be] at h1
    simp only [List.length_map, List.length_range, reachBytes] at h1
    refine ⟨(List.range len).map fun i => (Z i).take (L i), .inr ⟨x, A, L, C, rfl, hl, ?_, by simp, ?_⟩, ?_⟩
    · have : len + (cap - len) = cap := by omega
      rw [this] at h1
      exact h1
    · intro i hi
      obtain ⟨g1, g2, g3, g4, g5, g6, g7⟩ := hcell i (by omega)
      refine ⟨g1, ?_⟩
      have hg : ((List.range len).map fun i => (Z i).take (L i)).getD i [] = (Z i).take (L i) := by simp [List.getD, hi]
      rw [hg]
      cases hA : A i with
      | none =>
        have := g6 hA
        exact .inl ⟨rfl, by omega, this, by rw [show L i = 0 by omega]; simp⟩
      | some y =>
        obtain ⟨-, g8⟩ := g7 y hA
        have hmem : DataW.slice (lits .u8 ((Z i).take (L i))) (lits .u8 ((Z i).drop (L i))) ∈ ((List.range len).map fun r => Go.Deep.intRow (H := H) .u8 (A r) (L r) (Z r)) := by
          refine List.mem_map.2 ⟨i, List.mem_range.2 hi, ?_⟩
          simp [Go.Deep.intRow, hA]
        have h2 := sized_inner hsz ht hd' hu he hmem
        rw [bq] at h2
        simp only [lits, List.length_map, List.length_take, List.length_drop, reachBytes] at h2
        refine .inr ⟨y, rfl, g2, by omega, by simp; omega, fun c hc => ?_, fun n hn => g5 n (List.mem_of_mem_take hn)⟩
        rw [g8 c (by omega)]
        congr 2
        simp [List.getD, hc]
    · have hb := bulkAll_map (H := H) (fun r => Go.Deep.intRow .u8 (A r) (L r) (Z r)) L (List.range len) (fun i hi => by
        have := List.mem_range.1 hi
        obtain ⟨g1, g2, g3, g4, g5, g6, g7⟩ := hcell i (by omega)
        exact bulk_row .u8 (A i) (L i) (Z i) (fun hn => by have := g6 hn; omega) (by omega))
      have hs : ((List.range len).map fun i => (Z i).take (L i)).map List.length = (List.range len).map L := by
        rw [List.map_map]
        refine List.map_congr_left fun i hi => ?_
        have := List.mem_range.1 hi
        obtain ⟨g1, g2, g3, g4, g5, g6, g7⟩ := hcell i (by omega)
        simp only [Function.comp, List.length_take]
        omega
      rw [hs, hx.1]
      simp only [Rows.uptoBulk, List.length_range] at *
      omega
end Go.Proofs.Ytgmcdkkjemjneaa.Fr
