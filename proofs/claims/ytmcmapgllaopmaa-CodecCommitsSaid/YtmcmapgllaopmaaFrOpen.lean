/- Openers over parts of a datum: the sizes of each part, and what its cells are. -/
import Derived.Test.YtmcmapgllaopmaaFrInts
import Derived.Test.YtmcmapgllaopmaaFrIds
namespace Go.Proofs.Ytmcmapgllaopmaa.Fr
open Go.ChangeShapes Go.WideShapes Go.ChangeAt Go.RowKit
set_option linter.unusedVariables false

/-- each size that the datum tells is within reach -/
def WOk {H : Type} (P : Program) (t : TypeId) (d : DataW H) : Prop := ∀ n ∈ d.weights P t, n ≤ reachBytes

theorem wOk_each {H : Type} {P : Program} {ts : List TypeId} {ds : List (DataW H)} (hsz : (DataW.weightsEach P ts ds).all (· ≤ reachBytes) = true) {j : Nat} {t : TypeId} {d : DataW H} (ht : ts[j]? = some t) (hd : ds[j]? = some d) : WOk P t d :=
  fun n hn => by
    have := List.all_eq_true.1 hsz n (DataW.weights_mem_each ht hd n hn)
    simpa using this
theorem wOk_part {H : Type} {P : Program} {e : TypeId} {fs : Array Field} {xs : List (DataW H)} (he : P.underlying e = some (.struct fs)) (h : WOk P e (.agg xs)) {i : Nat} {f : Field} {d : DataW H} (hf : fs[i]? = some f) (hd : xs[i]? = some d) : WOk P f.type d := fun n hn => by
  refine h n ?_
  simp only [DataW.weights, he]
  exact DataW.weights_mem_each (j := i) (t := f.type) (by simp [hf]) hd n hn
theorem weightsAll_mem' {H : Type} {P : Program} {e : TypeId} : ∀ {l : List (DataW H)} {d : DataW H}, d ∈ l → ∀ n ∈ d.weights P e, n ∈ DataW.weightsAll P e l
  | d' :: r, d, hd, n, hn => by
    simp only [DataW.weightsAll, List.mem_append]
    rcases List.mem_cons.1 hd with rfl | h
    · exact Or.inl hn
    · exact Or.inr (weightsAll_mem' h n hn)
theorem wOk_elem {H : Type} {P : Program} {t e : TypeId} {xs ys : List (DataW H)} (hu : P.underlying t = some (.slice e)) (h : WOk P t (.slice xs ys)) {d : DataW H} (hd : d ∈ xs) : WOk P e d := fun n hn => by
  refine h n ?_
  simp only [DataW.weights, hu, List.mem_cons, List.mem_append]
  exact Or.inr (Or.inl (weightsAll_mem' hd n hn))
theorem wOk_len {H : Type} {P : Program} {t e : TypeId} {xs ys : List (DataW H)} (hu : P.underlying t = some (.slice e)) (h : WOk P t (.slice xs ys)) : (xs.length + ys.length) * P.bytesOf e ≤ reachBytes :=
  h _ (by simp [DataW.weights, hu])

theorem ints_w {H : Type} {enc : TypeId × Value → H} {P : Program} {W : World} {t e : TypeId} {k : IntKind} {b fuel : Nat} {cs : List Value} {x : DataW H × List MemPlace}
    (hu : P.underlying t = some (.slice e)) (he : P.underlying e = some (.int k)) (hc : P.cellsOf e = 1) (hb : P.bytesOf e = b)
    (hw : WOk P t x.1) (h : DataW.trod enc P W 0 (fun _ => true) true fuel t cs = some x) :
    ∃ a len cap zs, cs = [.slice a len cap] ∧ IsInts k b W a len cap zs := by
  rcases open_ints hu he hc h with ⟨rfl, _⟩ | ⟨x0, l, c, zs, rfl, _, hl, hm, hz, rfl, hcell, hwz⟩
  · exact ⟨none, 0, 0, [], rfl, .inl ⟨rfl, rfl, rfl, rfl⟩⟩
  · have hlen : zs.length = c := by simpa using hz
    have h1 := wOk_len hu hw
    rw [hb] at h1
    simp only [lits, List.length_map, List.length_take, List.length_drop, reachBytes] at h1
    rw [show min l zs.length + (zs.length - l) = c from by omega] at h1
    refine ⟨some x0, l, c, zs.take l, rfl, .inr ⟨x0, rfl, hl, h1, by simp; omega, ?_, fun n hn => hwz n (List.mem_of_mem_take hn)⟩⟩
    intro i hi
    rw [hcell i (by omega)]
    congr 2
    simp [List.getD, hi]

theorem string_w {H : Type} {enc : TypeId × Value → H} {P : Program} {W : World} {t : TypeId} {fuel : Nat} {cs : List Value} {x : DataW H × List MemPlace}
    (hu : P.underlying t = some .string) (hw : WOk P t x.1) (h : DataW.trod enc P W 0 (fun _ => true) true fuel t cs = some x) :
    ∃ s : ByteArray, cs = [.string s] ∧ s.size ≤ 140737488351232 := by
  obtain ⟨s, rfl, rfl, _⟩ := DataW.trod_string hu h
  refine ⟨s, rfl, ?_⟩
  have := hw s.data.toList.length (by simp [DataW.weights])
  simpa [reachBytes] using this

theorem id_w {H : Type} {enc : TypeId × Value → H} {P : Program} {W : World} {t e : TypeId} {fuel : Nat} {cs : List Value} {x : DataW H × List MemPlace}
    (ht : P.underlying t = some (.array 32 e)) (he : P.underlying e = some (.int .u8)) (ce : P.cellsOf e = 1) (hl : cs.length = 32)
    (h : DataW.trod enc P W 0 (fun _ => true) true fuel t cs = some x) :
    ∃ a : List Int, cs = a.map (Value.int .u8) ∧ IsId a := by
  obtain ⟨xs, m, -, -, -, hlen, hel⟩ := DataW.trod_array ht h
  have key : ∀ c ∈ cs, ∃ n : Int, c = .int .u8 n ∧ 0 ≤ n ∧ n ≤ 255 := by
    intro c hc
    obtain ⟨i, hi, rfl⟩ := List.getElem_of_mem hc
    have h1 := hel i (by omega)
    rw [ce, List.getElem?_eq_getElem (by omega)] at h1
    have h2 : (cs.drop (i * 1)).take 1 = [cs[i]] := by
      rw [Nat.mul_one, List.drop_eq_getElem_cons hi]
      rfl
    rw [h2] at h1
    obtain ⟨n, hn, _, wn⟩ := DataW.trod_int he h1
    have e1 : IntKind.u8.min = 0 := rfl
    have e2 : IntKind.u8.max = 255 := rfl
    simp only [Lit.wf, Bool.and_eq_true, decide_eq_true_eq] at wn
    exact ⟨n, by simpa using hn, by omega, by omega⟩
  refine ⟨cs.map fun c => match c with | .int _ n => n | _ => 0, ?_, by simpa using hl, ?_⟩
  · rw [List.map_map]
    conv => lhs; rw [← List.map_id cs]
    refine List.map_congr_left fun c hc => ?_
    obtain ⟨n, rfl, -⟩ := key c hc
    rfl
  · intro x hx
    obtain ⟨c, hc, rfl⟩ := List.mem_map.1 hx
    obtain ⟨n, rfl, h1, h2⟩ := key c hc
    exact ⟨h1, h2⟩

/-- an object: a number and bytes -/
theorem isObj_of {H : Type} {enc : TypeId × Value → H} {P : Program} {W : World} {r : Reach} {b0 : Nat} {t te : TypeId} {f0 f1 : Field} {v : Value} {d : DataW H} {p : List MemPlace}
    (hs : P.underlying t = some (.struct #[f0, f1])) (ct : P.cellsOf t = 2) (o0 : f0.offset = 0) (o1 : f1.offset = 1) (c0 : P.cellsOf f0.type = 1) (c1 : P.cellsOf f1.type = 1)
    (u0 : P.underlying f0.type = some (.int .i64)) (u1 : P.underlying f1.type = some (.slice te)) (ue : P.underlying te = some (.int .u8)) (ce : P.cellsOf te = 1) (be : P.bytesOf te = 1)
    (hv : Value.okWide P W r b0 t v) (hw : WOk P t d) (h : DataW.Trod enc P W 0 (fun _ => true) true t v d p) :
    ∃ k a len cap zs, v = .agg #[.int .i64 k, .slice a len cap] ∧ (Lit.int .i64 k).wf = true ∧ IsInts .u8 1 W a len cap zs := by
  unfold Value.okWide at hv
  simp only [hs] at hv
  obtain ⟨cs, rfl, hsz, -⟩ := hv
  obtain ⟨fuel, hf⟩ := h
  obtain ⟨xs, n, -, hx, -, hxl, hfs⟩ := DataW.trod_struct hs hf
  obtain ⟨l⟩ := cs
  rw [ct] at hsz
  have hl : l.length = 2 := by simpa using hsz
  have e0 := hfs 0 f0 rfl
  have e1 := hfs 1 f1 rfl
  rw [o0, c0, List.getElem?_eq_getElem (by rw [hxl]; simp)] at e0
  rw [o1, c1, List.getElem?_eq_getElem (by rw [hxl]; simp)] at e1
  simp only [Prod.mk.injEq] at hx
  obtain ⟨rfl, -⟩ := hx
  have hw1 : WOk P f1.type (xs[1]'(by rw [hxl]; simp)).1 := wOk_part (i := 1) hs hw rfl (by rw [List.getElem?_map, List.getElem?_eq_getElem (by rw [hxl]; simp)]; rfl)
  obtain ⟨z, hz, _, wz⟩ := DataW.trod_int u0 e0
  obtain ⟨a, len, cap, zs, hsl, hI⟩ := ints_w u1 ue ce be hw1 e1
  refine ⟨z, a, len, cap, zs, ?_, wz, hI⟩
  match l, hl with
  | [x0, x1], _ =>
    have hz' : [x0] = [.int .i64 z] := hz
    have hs' : [x1] = [.slice a len cap] := hsl
    simp only [List.cons.injEq, and_true] at hz' hs'
    rw [hz', hs']
end Go.Proofs.Ytmcmapgllaopmaa.Fr
