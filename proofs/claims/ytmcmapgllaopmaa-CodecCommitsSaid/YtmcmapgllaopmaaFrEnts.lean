/- What a walk is told of a slice of tree entries (a text, a number, 32 bytes each) that came in. -/
import Derived.Test.YtmcmapgllaopmaaFrIds
import Derived.Deep.Slices
namespace Go.Proofs.Ytmcmapgllaopmaa.Fr
open Go.ChangeShapes Go.WideShapes Go.ChangeAt Go.RowKit
set_option linter.unusedVariables false

/-- an entry -/
structure Ent where
  name : ByteArray
  kind : Int
  id : List Int
def Ent.cells (x : Ent) : List Value := .string x.name :: .int .i64 x.kind :: x.id.map (Value.int .u8)
def Ent.wf (x : Ent) : Prop := x.name.size ≤ 140737488351232 ∧ (Lit.int .i64 x.kind).wf = true ∧ IsId x.id
instance : Inhabited Ent := ⟨⟨ByteArray.empty, 0, List.replicate 32 0⟩⟩

/-- nil; or 'len' entries in cells that lie side by side. -/
def IsEnts (w : World) (a : Option Addr) (len cap : Nat) (es : List Ent) : Prop :=
  (a = none ∧ len = 0 ∧ cap = 0 ∧ es = []) ∨
  ∃ x : Addr, a = some x ∧ len ≤ cap ∧ cap * 56 ≤ 140737488351232 ∧ es.length = len ∧ (∀ i, i < len → ∀ j v, (es.getD i default).cells[j]? = some v → w.cell? ((x.add (i * 34)).add j) = some v) ∧ (∀ e ∈ es, e.wf)

theorem weightsAll_mem {H : Type} {P : Program} {e : TypeId} : ∀ {l : List (DataW H)} {d : DataW H}, d ∈ l → ∀ n ∈ d.weights P e, n ∈ DataW.weightsAll P e l
  | d' :: r, d, hd, n, hn => by
    simp only [DataW.weightsAll, List.mem_append]
    rcases List.mem_cons.1 hd with rfl | h
    · exact Or.inl hn
    · exact Or.inr (weightsAll_mem h n hn)

theorem isEnts_of {H : Type} {enc : TypeId × Value → H} {P : Program} {W : World} {t e ti te : TypeId} {f0 f1 f2 : Field} {a : Option Addr} {len cap : Nat} {d : DataW H} {p : List MemPlace}
    (hu : P.underlying t = some (.slice e)) (he : P.underlying e = some (.struct #[f0, f1, f2])) (ce : P.cellsOf e = 34) (be : P.bytesOf e = 56)
    (o0 : f0.offset = 0) (o1 : f1.offset = 1) (o2 : f2.offset = 2) (c0 : P.cellsOf f0.type = 1) (c1 : P.cellsOf f1.type = 1) (c2 : P.cellsOf f2.type = 32)
    (u0 : P.underlying f0.type = some .string) (u1 : P.underlying f1.type = some (.int .i64)) (u2 : P.underlying f2.type = some (.array 32 te)) (ue : P.underlying te = some (.int .u8)) (cte : P.cellsOf te = 1)
    {ts : List TypeId} {ds : List (DataW H)} (hsz : (DataW.weightsEach P ts ds).all (· ≤ reachBytes) = true) {j : Nat} (ht : ts[j]? = some t) (hd : ds[j]? = some d)
    (h : DataW.Trod enc P W 0 (fun _ => true) true t (.slice a len cap) d p) :
    ∃ es, IsEnts W a len cap es := by
  obtain ⟨fuel, hf⟩ := h
  rcases Go.Deep.open_slice hu hf with ⟨hcs, _⟩ | ⟨x, l, c, m, n, D, Pl, hcs, _, hl, hm, hmm, hx, hcell⟩
  · simp [Value.cells] at hcs
    obtain ⟨rfl, rfl, rfl⟩ := hcs
    exact ⟨[], .inl ⟨rfl, rfl, rfl, rfl⟩⟩
  · simp [Value.cells] at hcs
    obtain ⟨rfl, rfl, rfl⟩ := hcs
    simp only [if_true] at hmm
    subst hmm
    simp only [Prod.mk.injEq] at hx
    have hd' := hx.1 ▸ hd
    have h1 := sized_slice hsz ht hd' hu
    rw [be] at h1
    simp only [List.length_map, List.length_range, reachBytes] at h1
    have each : ∀ i, i < len → ∃ y : Ent, (∀ j v, y.cells[j]? = some v → W.cell? ((x.add (i * 34)).add j) = some v) ∧ y.wf := by
      intro i hi
      obtain ⟨cs', g1, g2⟩ := hcell i (by omega)
      rw [ce] at g1
      obtain ⟨_, hlen, hcl⟩ := World.cells?_some g1
      obtain ⟨xs, k, hk, hxy, _, hxl, hfs⟩ := DataW.trod_struct he g2
      have e0 := hfs 0 f0 rfl
      have e1 := hfs 1 f1 rfl
      have e2 := hfs 2 f2 rfl
      rw [o0, c0, List.getElem?_eq_getElem (by rw [hxl]; simp)] at e0
      rw [o1, c1, List.getElem?_eq_getElem (by rw [hxl]; simp)] at e1
      rw [o2, c2, List.getElem?_eq_getElem (by rw [hxl]; simp)] at e2
      obtain ⟨s, hs, hsd, _⟩ := DataW.trod_string u0 e0
      obtain ⟨z, hz, _, wz⟩ := DataW.trod_int u1 e1
      obtain ⟨ys, k2, -, -, -, ylen, yel⟩ := DataW.trod_array u2 e2
      have h32 : ((cs'.drop 2).take 32).length = 32 := by rw [List.length_take, List.length_drop]; omega
      have key : ∀ c ∈ (cs'.drop 2).take 32, ∃ n : Int, c = .int .u8 n ∧ 0 ≤ n ∧ n ≤ 255 := by
        intro c hc
        obtain ⟨q, hq, rfl⟩ := List.getElem_of_mem hc
        have h3 := yel q (by omega)
        rw [cte, List.getElem?_eq_getElem (by omega), Nat.mul_one, List.drop_eq_getElem_cons hq] at h3
        obtain ⟨n', hn', _, wn⟩ := DataW.trod_int ue h3
        have b1 : IntKind.u8.min = 0 := rfl
        have b2 : IntKind.u8.max = 255 := rfl
        simp only [Lit.wf, Bool.and_eq_true, decide_eq_true_eq] at wn
        exact ⟨n', by simpa using hn', by omega, by omega⟩
      have hid : ∃ ids : List Int, (cs'.drop 2).take 32 = ids.map (Value.int .u8) ∧ IsId ids := by
        refine ⟨((cs'.drop 2).take 32).map fun c => match c with | .int _ n => n | _ => 0, ?_, by simpa using h32, ?_⟩
        · rw [List.map_map]
          conv => lhs; rw [← List.map_id ((cs'.drop 2).take 32)]
          refine List.map_congr_left fun c hc => ?_
          obtain ⟨n', rfl, -⟩ := key c hc
          rfl
        · intro y hy
          obtain ⟨c, hc, rfl⟩ := List.mem_map.1 hy
          obtain ⟨n', rfl, b1, b2⟩ := key c hc
          exact ⟨b1, b2⟩
      obtain ⟨ids, hids, wids⟩ := hid
      have hc' : cs' = .string s :: .int .i64 z :: ids.map (Value.int .u8) := by
        match cs', hlen with
        | v0 :: v1 :: r, hr =>
          have hr' : r.length = 32 := by simpa using hr
          simp at hs hz hids
          rw [hs, hz, ← hids, List.take_of_length_le (by omega)]
      have hss : s.size ≤ 140737488351232 := by
        have hmem : (DataW.agg (xs.map (·.1)) : DataW H) ∈ (List.range len).map D := by
          refine List.mem_map.2 ⟨i, List.mem_range.2 hi, ?_⟩
          simp only [Prod.mk.injEq] at hxy
          exact hxy.1
        have hw := of_decide_eq_true (List.all_eq_true.1 hsz s.size (DataW.weights_mem_each ht hd' _ (by
          simp only [DataW.weights, hu, List.mem_cons, List.mem_append]
          refine Or.inr (Or.inl (weightsAll_mem hmem _ ?_))
          simp only [DataW.weights, he]
          match xs, hxl with
          | [y0, y1, y2], _ =>
            simp only [List.getElem_cons_zero] at hsd
            simp [DataW.weightsEach, hsd, DataW.weights])))
        simpa [reachBytes] using hw
      refine ⟨⟨s, z, ids⟩, fun j v hj => ?_, hss, wz, wids⟩
      have hj2 : cs'[j]? = some v := by rw [hc']; exact hj
      have hjl := (List.getElem?_eq_some_iff.1 hj2).1
      rw [hcl j (by omega), hj2]
    have hes : ∃ es : List Ent, es.length = len ∧ ∀ i, i < len → (∀ j v, (es.getD i default).cells[j]? = some v → W.cell? ((x.add (i * 34)).add j) = some v) ∧ (es.getD i default).wf := by
      have g : ∀ k, k ≤ len → ∃ es : List Ent, es.length = k ∧ ∀ i, i < k → (∀ j v, (es.getD i default).cells[j]? = some v → W.cell? ((x.add (i * 34)).add j) = some v) ∧ (es.getD i default).wf := by
        intro k
        induction k with
        | zero => intro _; exact ⟨[], rfl, fun i hi => absurd hi (by omega)⟩
        | succ k ih =>
          intro hk
          obtain ⟨es, hl2, hall⟩ := ih (by omega)
          obtain ⟨y, hy, wy⟩ := each k (by omega)
          refine ⟨es ++ [y], by simp [hl2], fun i hi => ?_⟩
          by_cases e : i < k
          · have : (es ++ [y]).getD i default = es.getD i default := by simp [List.getD, List.getElem?_append_left (show i < es.length by omega)]
            rw [this]; exact hall i e
          · have e2 : i = k := by omega
            subst e2
            have : (es ++ [y]).getD i default = y := by simp [List.getD, hl2]
            rw [this]; exact ⟨hy, wy⟩
      exact g len (Nat.le_refl _)
    obtain ⟨es, hl2, hall⟩ := hes
    refine ⟨es, .inr ⟨x, rfl, hl, ?_, hl2, fun i hi => (hall i hi).1, fun e he' => ?_⟩⟩
    · omega
    · obtain ⟨i, hi, rfl⟩ := List.getElem_of_mem he'
      have := (hall i (by omega)).2
      simpa [List.getD, hi] using this
end Go.Proofs.Ytmcmapgllaopmaa.Fr
