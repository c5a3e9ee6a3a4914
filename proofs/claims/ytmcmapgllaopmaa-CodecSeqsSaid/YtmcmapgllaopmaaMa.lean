/- Texts of one's own, merged: FrIds, FrOpen, FrTx, CdKit, CdNum, CdName, CdKnown, CdIds, CdEnt, CdText, CdTree, CdKnown2, CdRd, CdRead, CdTake, CdNumber, CdId, CdCheck, FrEnts, CdTr, CdParse, CdTxt, CdPc, CdFin. -/
import Derived.Test.YtmcmapgllaopmaaChecked
import Derived.WalkKit
import Derived.ProofKit
import Derived.SizedLaws
import Derived.OpenShut
import Derived.Deep.Slices
import Derived.WalkSpells
import Derived.WalkLawsBesides
import Derived.Outline
import Derived.LoopTactic
import Derived.Lib.Hide
import Derived.Deep.Light
import Derived.Deep.QuietTactic
import Derived.BigQuiet
import Derived.OwnWalk
import Derived.Below
import Derived.Deep.LoopGhost
import Derived.Lib.Strings
import Derived.Lib.Bytealg
import Derived.Lib.IndexLaws
import Derived.Laws.Externs
import Derived.RegionTactic
import Derived.BigRegion
import Derived.Deep.RegionLaw
import Derived.Deep.RegionWith
import Derived.Deep.RegionHeld3
import Derived.Deep.DeepCutAuto
import Derived.Deep.CutBlock
import Derived.ChangeKeysEq
import Derived.Laws.StructEq
import Derived.Deep.MidRow
import Derived.Lib.AppendStr
import Derived.Deep.WholeRow
import Derived.Laws.BytesString
import Derived.Lib.SlBytesConst
import Derived.Lib.BufferRead
import Derived.Deep.OwnRows
import Derived.Laws.IdiomCopy
import Derived.Laws.Rows
import Derived.Great.BuildSlice
import Derived.StillTailTactics
import Derived.Lib.ConvBytes
import Derived.Laws.AppendOwn
import Derived.Laws.OwnMore

section
namespace Go.Proofs.Ytmcmapgllaopmaa.Fr
open Go.ChangeShapes Go.WideShapes Go.ChangeAt Go.RowKit
set_option linter.unusedVariables false
def IsId (a : List Int) : Prop := a.length = 32 ∧ ∀ x ∈ a, 0 ≤ x ∧ x ≤ 255
end Go.Proofs.Ytmcmapgllaopmaa.Fr
end

section
namespace Go.Proofs.Ytmcmapgllaopmaa.Fr
open Go.ChangeShapes Go.WideShapes Go.ChangeAt Go.RowKit
set_option linter.unusedVariables false
/-- each size that the datum tells is within reach -/
def WOk {H : Type} (P : Program) (t : TypeId) (d : DataW H) : Prop := ∀ n ∈ d.weights P t, n ≤ reachBytes
theorem wOk_each {H : Type} {P : Program} {ts : List TypeId} {ds : List (DataW H)} (hsz : (DataW.weightsEach P ts ds).all (· ≤ reachBytes) = true) {j : Nat} {t : TypeId} {d : DataW H} (ht : ts[j]? = some t) (hd : ds[j]? = some d) : WOk P t d :=
  fun n hn => by
    have := List.all_eq_true.1 hsz n (DataW.weights_mem_each ht hd n hn)
    simpa using this
theorem wOk_part {H : Type} {P : Program} {e : TypeId} {fs : Array Field} {xs : List (DataW H)} (he : P.underlying e = some (.struct fs)) (h : WOk P e (.agg xs)) {i : Nat} {f : Field} {d : DataW H} (hf : fs[i]? = some f) (hd : xs[i]? = some d) : WOk P f.type d := fun n hn => by
  refine h n ?_
  simp only [DataW.weights, he]
  exact DataW.weights_mem_each (j := i) (t := f.type) (by simp [hf]) hd n hn
theorem weightsAll_mem' {H : Type} {P : Program} {e : TypeId} : ∀ {l : List (DataW H)} {d : DataW H}, d ∈ l → ∀ n ∈ d.weights P e, n ∈ DataW.weightsAll P e l
  | d' :: r, d, hd, n, hn => by
    simp only [DataW.weightsAll, List.mem_append]
    rcases List.mem_cons.1 hd with rfl | h
    · exact Or.inl hn
    · exact Or.inr (weightsAll_mem' h n hn)
theorem wOk_elem {H : Type} {P : Program} {t e : TypeId} {xs ys : List (DataW H)} (hu : P.underlying t = some (.slice e)) (h : WOk P t (.slice xs ys)) {d : DataW H} (hd : d ∈ xs) : WOk P e d := fun n hn => by
  refine h n ?_
  simp only [DataW.weights, hu, List.mem_cons, List.mem_append]
  exact Or.inr (Or.inl (weightsAll_mem' hd n hn))
theorem wOk_len {H : Type} {P : Program} {t e : TypeId} {xs ys : List (DataW H)} (hu : P.underlying t = some (.slice e)) (h : WOk P t (.slice xs ys)) : (xs.length + ys.length) * P.bytesOf e ≤ reachBytes :=
  h _ (by simp [DataW.weights, hu])
theorem string_w {H : Type} {enc : TypeId × Value → H} {P : Program} {W : World} {t : TypeId} {fuel : Nat} {cs : List Value} {x : DataW H × List MemPlace}
    (hu : P.underlying t = some .string) (hw : WOk P t x.1) (h : DataW.trod enc P W 0 (fun _ => true) true fuel t cs = some x) :
    ∃ s : ByteArray, cs = [.string s] ∧ s.size ≤ 140737488351232 := by
  obtain ⟨s, rfl, rfl, _⟩ := DataW.trod_string hu h
  refine ⟨s, rfl, ?_⟩
  have := hw s.data.toList.length (by simp [DataW.weights])
  simpa [reachBytes] using this
theorem id_w {H : Type} {enc : TypeId × Value → H} {P : Program} {W : World} {t e : TypeId} {fuel : Nat} {cs : List Value} {x : DataW H × List MemPlace}
    (ht : P.underlying t = some (.array 32 e)) (he : P.underlying e = some (.int .u8)) (ce : P.cellsOf e = 1) (hl : cs.length = 32)
    (h : DataW.trod enc P W 0 (fun _ => true) true fuel t cs = some x) :
    ∃ a : List Int, cs = a.map (Value.int .u8) ∧ IsId a := by
  obtain ⟨xs, m, -, -, -, hlen, hel⟩ := DataW.trod_array ht h
  have key : ∀ c ∈ cs, ∃ n : Int, c = .int .u8 n ∧ 0 ≤ n ∧ n ≤ 255 := by
    intro c hc
    obtain ⟨i, hi, rfl⟩ := List.getElem_of_mem hc
    have h1 := hel i (by omega)
    rw [ce, List.getElem?_eq_getElem (by omega)] at h1
    have h2 : (cs.drop (i * 1)).take 1 = [cs[i]] := by
      rw [Nat.mul_one, List.drop_eq_getElem_cons hi]
      rfl
    rw [h2] at h1
    obtain ⟨n, hn, _, wn⟩ := DataW.trod_int he h1
    have e1 : IntKind.u8.min = 0 := rfl
    have e2 : IntKind.u8.max = 255 := rfl
    simp only [Lit.wf, Bool.and_eq_true, decide_eq_true_eq] at wn
    exact ⟨n, by simpa using hn, by omega, by omega⟩
  refine ⟨cs.map fun c => match c with | .int _ n => n | _ => 0, ?_, by simpa using hl, ?_⟩
  · rw [List.map_map]
    conv => lhs; rw [← List.map_id cs]
    refine List.map_congr_left fun c hc => ?_
    obtain ⟨n, rfl, -⟩ := key c hc
    rfl
  · intro x hx
    obtain ⟨c, hc, rfl⟩ := List.mem_map.1 hx
    obtain ⟨n, rfl, h1, h2⟩ := key c hc
    exact ⟨h1, h2⟩
end Go.Proofs.Ytmcmapgllaopmaa.Fr
end

section
namespace Go.Proofs.Ytmcmapgllaopmaa.Fr
open Go.ChangeShapes Go.WideShapes Go.ChangeAt Go.RowKit
set_option linter.unusedVariables false
set_option linter.unusedSimpArgs false
/-- nil; or 'len' things of sz cells each that lie side by side, each a good one. -/
def IsSt (good : List Value → Prop) (sz b : Nat) (w : World) (a : Option Addr) (len cap : Nat) (cs : List (List Value)) : Prop :=
  (a = none ∧ len = 0 ∧ cap = 0 ∧ cs = []) ∨
  ∃ x : Addr, a = some x ∧ len ≤ cap ∧ cap * b ≤ 140737488351232 ∧ cs.length = len ∧ (∀ i, i < len → ∀ j v, (cs.getD i [])[j]? = some v → w.cell? ((x.add (i * sz)).add j) = some v) ∧ (∀ c ∈ cs, c.length = sz ∧ good c)
theorem sts_w {H : Type} {enc : TypeId × Value → H} {P : Program} {W : World} {t e : TypeId} {fuel sz b : Nat} {cs : List Value} {y : DataW H × List MemPlace} {good : List Value → Prop}
    (hu : P.underlying t = some (.slice e)) (ce : P.cellsOf e = sz) (be : P.bytesOf e = b)
    (hw : WOk P t y.1) (h : DataW.trod enc P W 0 (fun _ => true) true fuel t cs = some y)
    (each : ∀ (fu : Nat) (c : List Value) (z : DataW H × List MemPlace), c.length = sz → WOk P e z.1 → DataW.trod enc P W 0 (fun _ => true) true fu e c = some z → good c) :
    ∃ a len cap ys, cs = [.slice a len cap] ∧ IsSt good sz b W a len cap ys := by
  rcases Go.Deep.open_slice hu h with ⟨rfl, _⟩ | ⟨x, len, cap, m, n, D, Pl, rfl, _, hl, hm, hmm, hx, hcell⟩
  · exact ⟨none, 0, 0, [], rfl, .inl ⟨rfl, rfl, rfl, rfl⟩⟩
  · simp only [if_true] at hmm
    subst hmm
    rw [hx] at hw
    have h1 := wOk_len hu hw
    rw [be] at h1
    simp only [List.length_map, List.length_range, reachBytes] at h1
    rw [show len + (m - len) = m from by omega] at h1
    have key : ∀ i, i < len → ∃ q : List Value, (∀ j v, q[j]? = some v → W.cell? ((x.add (i * sz)).add j) = some v) ∧ q.length = sz ∧ good q := by
      intro i hi
      obtain ⟨cs', g1, g2⟩ := hcell i (by omega)
      rw [ce] at g1
      obtain ⟨_, hlen, hcl⟩ := World.cells?_some g1
      refine ⟨cs', fun j v hj => ?_, hlen, each _ _ _ hlen (wOk_elem hu hw (List.mem_map.2 ⟨i, List.mem_range.2 hi, rfl⟩)) g2⟩
      have hjl := (List.getElem?_eq_some_iff.1 hj).1
      rw [hcl j (by omega), hj]
    have hes : ∀ k, k ≤ len → ∃ es : List (List Value), es.length = k ∧ ∀ i, i < k → (∀ j v, (es.getD i [])[j]? = some v → W.cell? ((x.add (i * sz)).add j) = some v) ∧ (es.getD i []).length = sz ∧ good (es.getD i []) := by
      intro k
      induction k with
      | zero => intro _; exact ⟨[], rfl, fun i hi => absurd hi (by omega)⟩
      | succ k ih =>
        intro hk
        obtain ⟨es, hl2, hall⟩ := ih (by omega)
        obtain ⟨y, hy⟩ := key k (by omega)
        refine ⟨es ++ [y], by simp [hl2], fun i hi => ?_⟩
        by_cases e : i < k
        · have : (es ++ [y]).getD i [] = es.getD i [] := by simp [List.getD, List.getElem?_append_left (show i < es.length by omega)]
          rw [this]; exact hall i e
        · have e2 : i = k := by omega
          subst e2
          have : (es ++ [y]).getD i [] = y := by simp [List.getD, hl2]
          rw [this]; exact hy
    obtain ⟨es, hl2, hall⟩ := hes len (Nat.le_refl _)
    refine ⟨some x, len, _, es, rfl, .inr ⟨x, rfl, hl, by omega, hl2, fun i hi => (hall i hi).1, fun c hc => ?_⟩⟩
    obtain ⟨i, hi, rfl⟩ := List.getElem_of_mem hc
    have := (hall i (by omega)).2
    simpa [List.getD, hi] using this
theorem cut_eq (cs : List Value) (a n c : Nat) (h : a + n = c) : cs.drop a = (cs.drop a).take n ++ cs.drop c := by
  subst h
  rw [← List.drop_drop]
  exact (List.take_append_drop n (cs.drop a)).symm
/-- a step -/
def GTod (c : List Value) : Prop := ∃ (k0 : Int) (q1 : List Int), c = [.int .i64 k0] ++ (q1.map (Value.int .u8)) ∧ (Lit.int .i64 k0).wf = true ∧ IsId q1
set_option maxRecDepth 100000 in
theorem tod_w {H : Type} {enc : TypeId × Value → H} {W : World} (fuel : Nat) (cs : List Value) (y : DataW H × List MemPlace) (hl : cs.length = 33) (hw : WOk Try.prog 84 y.1) (h : DataW.trod enc Try.prog W 0 (fun _ => true) true fuel 84 cs = some y) : GTod cs := by
  obtain ⟨xs, n, -, hx, -, hxl, hfs⟩ := DataW.trod_struct Try.underlying84 h
  have z5 : xs.length = 2 := by rw [hxl]; rfl
  subst hx
  have e0 := hfs 0 _ rfl
  rw [List.getElem?_eq_getElem (by omega)] at e0
  replace e0 : DataW.trod enc Try.prog W 0 (fun _ => true) true n 3 ((cs.drop 0).take 1) = some (xs[0]'(by omega)) := e0
  obtain ⟨k0, h0, -, b0⟩ := DataW.trod_int Try.underlying3 e0
  have e1 := hfs 1 _ rfl
  rw [List.getElem?_eq_getElem (by omega)] at e1
  replace e1 : DataW.trod enc Try.prog W 0 (fun _ => true) true n 37 ((cs.drop 1).take 32) = some (xs[1]'(by omega)) := e1
  obtain ⟨q1, h1, b1⟩ := id_w Try.underlying37 Try.underlying5 (by kernel_rfl) (by rw [List.length_take, List.length_drop]; omega) e1
  refine ⟨k0, q1, ?_, b0, b1⟩
  rw [show cs = cs.drop 0 from rfl]
  rw [cut_eq cs 0 1 1 rfl, h0]
  rw [cut_eq cs 1 32 33 rfl, List.drop_of_length_le (i := 33) (by omega), List.append_nil, h1]
/-- a sequence -/
def GSeq (W : World) (c : List Value) : Prop := ∃ (k0 : Int) (s1 : ByteArray) (q2 : List Int) (q3 : List Int) (a4 : Option Addr) (n4 c4 : Nat) (y4 : List (List Value)) (k5 : Int) (k6 : Int) (b7 : Bool), c = [.int .i64 k0] ++ ([.string s1] ++ (q2.map (Value.int .u8) ++ (q3.map (Value.int .u8) ++ ([.slice a4 n4 c4] ++ ([.int .i64 k5] ++ ([.int .i64 k6] ++ ([.bool b7]))))))) ∧ (Lit.int .i64 k0).wf = true ∧ s1.size ≤ 140737488351232 ∧ IsId q2 ∧ IsId q3 ∧ IsSt GTod 33 40 W a4 n4 c4 y4 ∧ (Lit.int .i64 k5).wf = true ∧ (Lit.int .i64 k6).wf = true
set_option maxRecDepth 100000 in
theorem seq_w {H : Type} {enc : TypeId × Value → H} {W : World} (fuel : Nat) (cs : List Value) (y : DataW H × List MemPlace) (hl : cs.length = 70) (hw : WOk Try.prog 65 y.1) (h : DataW.trod enc Try.prog W 0 (fun _ => true) true fuel 65 cs = some y) : GSeq W cs := by
  obtain ⟨xs, n, -, hx, -, hxl, hfs⟩ := DataW.trod_struct Try.underlying65 h
  have z5 : xs.length = 8 := by rw [hxl]; rfl
  subst hx
  have e0 := hfs 0 _ rfl
  rw [List.getElem?_eq_getElem (by omega)] at e0
  replace e0 : DataW.trod enc Try.prog W 0 (fun _ => true) true n 3 ((cs.drop 0).take 1) = some (xs[0]'(by omega)) := e0
  obtain ⟨k0, h0, -, b0⟩ := DataW.trod_int Try.underlying3 e0
  have e1 := hfs 1 _ rfl
  rw [List.getElem?_eq_getElem (by omega)] at e1
  replace e1 : DataW.trod enc Try.prog W 0 (fun _ => true) true n 9 ((cs.drop 1).take 1) = some (xs[1]'(by omega)) := e1
  have w1 : WOk Try.prog 9 (xs[1]'(by omega)).1 := wOk_part (i := 1) Try.underlying65 hw rfl (by rw [List.getElem?_map, List.getElem?_eq_getElem (by omega)]; rfl)
  obtain ⟨s1, h1, b1⟩ := string_w Try.underlying9 w1 e1
  have e2 := hfs 2 _ rfl
  rw [List.getElem?_eq_getElem (by omega)] at e2
  replace e2 : DataW.trod enc Try.prog W 0 (fun _ => true) true n 37 ((cs.drop 2).take 32) = some (xs[2]'(by omega)) := e2
  obtain ⟨q2, h2, b2⟩ := id_w Try.underlying37 Try.underlying5 (by kernel_rfl) (by rw [List.length_take, List.length_drop]; omega) e2
  have e3 := hfs 3 _ rfl
  rw [List.getElem?_eq_getElem (by omega)] at e3
  replace e3 : DataW.trod enc Try.prog W 0 (fun _ => true) true n 37 ((cs.drop 34).take 32) = some (xs[3]'(by omega)) := e3
  obtain ⟨q3, h3, b3⟩ := id_w Try.underlying37 Try.underlying5 (by kernel_rfl) (by rw [List.length_take, List.length_drop]; omega) e3
  have e4 := hfs 4 _ rfl
  rw [List.getElem?_eq_getElem (by omega)] at e4
  replace e4 : DataW.trod enc Try.prog W 0 (fun _ => true) true n 63 ((cs.drop 66).take 1) = some (xs[4]'(by omega)) := e4
  have w4 : WOk Try.prog 63 (xs[4]'(by omega)).1 := wOk_part (i := 4) Try.underlying65 hw rfl (by rw [List.getElem?_map, List.getElem?_eq_getElem (by omega)]; rfl)
  obtain ⟨a4, n4, c4, y4, h4, b4⟩ := sts_w Try.underlying63 (by kernel_rfl) (by kernel_rfl) w4 e4 tod_w
  have e5 := hfs 5 _ rfl
  rw [List.getElem?_eq_getElem (by omega)] at e5
  replace e5 : DataW.trod enc Try.prog W 0 (fun _ => true) true n 3 ((cs.drop 67).take 1) = some (xs[5]'(by omega)) := e5
  obtain ⟨k5, h5, -, b5⟩ := DataW.trod_int Try.underlying3 e5
  have e6 := hfs 6 _ rfl
  rw [List.getElem?_eq_getElem (by omega)] at e6
  replace e6 : DataW.trod enc Try.prog W 0 (fun _ => true) true n 3 ((cs.drop 68).take 1) = some (xs[6]'(by omega)) := e6
  obtain ⟨k6, h6, -, b6⟩ := DataW.trod_int Try.underlying3 e6
  have e7 := hfs 7 _ rfl
  rw [List.getElem?_eq_getElem (by omega)] at e7
  replace e7 : DataW.trod enc Try.prog W 0 (fun _ => true) true n 4 ((cs.drop 69).take 1) = some (xs[7]'(by omega)) := e7
  obtain ⟨b7, h7, -⟩ := DataW.trod_bool Try.underlying4 e7
  refine ⟨k0, s1, q2, q3, a4, n4, c4, y4, k5, k6, b7, ?_, b0, b1, b2, b3, b4, b5, b6⟩
  rw [show cs = cs.drop 0 from rfl]
  rw [cut_eq cs 0 1 1 rfl, h0]
  rw [cut_eq cs 1 1 2 rfl, h1]
  rw [cut_eq cs 2 32 34 rfl, h2]
  rw [cut_eq cs 34 32 66 rfl, h3]
  rw [cut_eq cs 66 1 67 rfl, h4]
  rw [cut_eq cs 67 1 68 rfl, h5]
  rw [cut_eq cs 68 1 69 rfl, h6]
  rw [cut_eq cs 69 1 70 rfl, List.drop_of_length_le (i := 70) (by omega), List.append_nil, h7]
set_option maxRecDepth 100000 in
theorem isSeq_of {H : Type} {enc : TypeId × Value → H} {W : World} {r : Reach} {b0 : Nat} {v : Value} {d : DataW H} {p : List MemPlace} (hv : Value.okWide Try.prog W r b0 65 v) (hw : WOk Try.prog 65 d) (h : DataW.Trod enc Try.prog W 0 (fun _ => true) true 65 v d p) : ∃ c, v = .agg c.toArray ∧ GSeq W c := by
  unfold Value.okWide at hv
  simp only [Try.underlying65] at hv
  obtain ⟨cs, rfl, hsz, -⟩ := hv
  obtain ⟨fuel, hf⟩ := h
  obtain ⟨l⟩ := cs
  refine ⟨l, rfl, seq_w fuel l (d, p) ?_ hw hf⟩
  rw [show Try.prog.cellsOf 65 = 70 from by kernel_rfl] at hsz
  simpa using hsz
end Go.Proofs.Ytmcmapgllaopmaa.Fr
end

section
namespace Go.Proofs.Ytmcmapgllaopmaa.Cd
open Go.RowKit
set_option linter.unusedVariables false
theorem ret_int {k : IntKind} {a b : Int} (h : a = b) : Ending.returned (.int k a) = .returned (.int k b) := by rw [h]
/-- the call hands back a row of its own that holds xs; nothing below B turned -/
def OwnRet (B n : Nat) (xs : List Value) (w : World) (e : Ending) (w' : World) : Prop :=
  ∃ v', e = .returned v' ∧ w'.ownsRow B 5 1 v' n xs ∧ Below B w w'
def bv (l : List Int) : List Value := l.map (Value.int .u8)
theorem bv_one (l : List Int) : ∀ u ∈ bv l, u.oneCell' = true := by
  intro u hu
  obtain ⟨x, _, rfl⟩ := List.mem_map.1 hu
  rfl
theorem below_grown {B : Nat} {w w' : World} {v : Value} {n : Nat} {xs : List Value} (hB : B ≤ w.heap.size) (hown : w.ownsRow B 5 1 v n xs) (hg : w.grownBy w' v.ownBlock) : Below B w w' :=
  (Below.refl B w).grown hg hB (fun k hk => by
    rcases hown.2 with ⟨h, _⟩ | ⟨g', cap', cur, h, hge, _⟩
    · rw [h] at hk; simp [Value.ownBlock] at hk
    · rw [h] at hk; simp [Value.ownBlock] at hk; omega)
theorem new_cells (l : List Int) (w : World) (e : TypeId) : ∀ j u, (bv l)[j]? = some u → (w.alloc (.cells (bv l).toArray e)).cell? (Addr.add ⟨w.heap.size, 0, none⟩ j) = some u := by
  intro j u hj
  rw [show Addr.add ⟨w.heap.size, 0, none⟩ j = (⟨w.heap.size, j, none⟩ : Addr) from by simp [Addr.add]; omega, World.cell?_alloc_new]
  simpa using hj
theorem own_eq {w : World} {B e : Nat} {v : Value} {n m : Nat} {xs ys : List Value} (h : w.ownsRow B e 1 v n xs) (hx : xs = ys) (hn : n = m) : w.ownsRow B e 1 v m ys := by
  rw [← hx, ← hn]; exact h
end Go.Proofs.Ytmcmapgllaopmaa.Cd
end

section
namespace Go.Proofs.Ytmcmapgllaopmaa.Cd
open Go.RowKit
set_option linter.unusedVariables false
theorem info5 : (Try.prog.info? 5).map (fun i => (i.zero, i.size, i.bytes)) = some (some (.int .u8 0), 1, 1) := by kernel_rfl
/-- a number's k bytes, the highest first -/
def be : Nat → Int → List Int
  | 0, _ => []
  | k + 1, x => x / 2 ^ (8 * k) % 256 :: be k x
theorem be_length : ∀ k x, (be k x).length = k
  | 0, _ => rfl
  | k + 1, x => by simp [be, be_length k x]
set_option maxHeartbeats 1000000 in
theorem number_any (B : Nat) (v : Value) (n : Nat) (xs : List Value) (x : Int) (k : Nat) (w : World) (hB : B ≤ w.heap.size) (hown : w.ownsRow B 5 1 v n xs) (hn : n ≤ 140737488300000) (h0 : 0 ≤ x) (h1 : x < 18446744073709551616) (hk : k ≤ 7) :
    Calls Try.prog 51 #[v, .int .u64 x, .int .i64 k] w (OwnRet B (n + k) (xs ++ bv (be k x)) w) := by
  obtain ⟨i0, hi, hz0, hz1, hz2⟩ := info_parts info5
  have HO := Lib.hid hown
  clear hown
  have HB := Lib.hid (Below.refl B w)
  go_enter Try.func51, Try.ntmps51
  go_wp2
  go_loopw [0, 2] (fun b i wr => ∃ (m q : Nat) (ys : List Int), m + q = k ∧ i = .int .i64 ((m : Int) - 1) ∧ Hid (ys ++ be m x = be k x) ∧ Hid (wr.ownsRow B 5 1 b (n + q) (xs ++ bv ys)) ∧ Hid (Below B w wr)) (fun _ i _ => (intOf i + 1).toNat)
  case atStart => exact ⟨k, 0, [], by omega, rfl, Lib.hid rfl, Lib.hid (by simpa [bv] using HO.out), HB⟩
  case round =>
    clear HB HO
    obtain ⟨m, q, ys, hmq, rfl, HY, HO, HB⟩ := hrel
    have hsz := HB.out.size
    have hm8 : m ≤ 7 := by omega
    rcases (show m = 0 ∨ m = 1 ∨ m = 2 ∨ m = 3 ∨ m = 4 ∨ m = 5 ∨ m = 6 ∨ m = 7 from by omega) with rfl | rfl | rfl | rfl | rfl | rfl | rfl | rfl
    · go_wp2
      go_ret
      have hq : q = k := by omega
      subst hq
      refine ⟨_, rfl, own_eq HO.out ?_ rfl, HB.out⟩
      rw [← HY.out]; simp [be]
    · go_wp2_with (at_builtin; refine wpList_append_own _ rfl _ _ 23 rfl B 5 i0 (.int .u8 0) 1 1 Try.underlying23 hi hz0 hz1 hz2 rfl (by decide) _ _ _ rfl (HO.out.alloc _) ⟨wr.heap.size, 0, none⟩ 1 1 (bv [x % 256]) rfl rfl ?c1 (bv_one _) ?c3 ?c4 ?c5 ?_)
      case c1 => exact new_cells [x % 256] wr _
      case c3 => unfold maxLen; omega
      case c4 => omega
      case c5 => simp; omega
      intro v1 w1 ho hg hn2
      have HO1 : Hid (w1.ownsRow B 5 1 v1 (n + (q + 1)) (xs ++ bv (ys ++ [x % 256]))) := Lib.hid (own_eq ho (by simp [bv]) (by omega))
      have HB1 := Lib.hid (HB.out.trans (((Below.refl B wr).alloc (by omega) _).trans (below_grown (by simp; omega) (HO.out.alloc _) hg)))
      have HY1 : Hid ((ys ++ [x % 256]) ++ be 0 x = be k x) := Lib.hid (by rw [← HY.out]; simp [be])
      clear ho hg hn2 HO HB HY
      go_wp2
      go_roundw
      case rel => exact ⟨0, q + 1, _, by omega, rfl, HY1, HO1, HB1⟩
      case measure => simp [intOf]
    · go_wp2_with (at_builtin; refine wpList_append_own _ rfl _ _ 23 rfl B 5 i0 (.int .u8 0) 1 1 Try.underlying23 hi hz0 hz1 hz2 rfl (by decide) _ _ _ rfl (HO.out.alloc _) ⟨wr.heap.size, 0, none⟩ 1 1 (bv [x / 256 % 256]) rfl rfl ?c1 (bv_one _) ?c3 ?c4 ?c5 ?_)
      case c1 => exact new_cells [x / 256 % 256] wr _
      case c3 => unfold maxLen; omega
      case c4 => omega
      case c5 => simp; omega
      intro v1 w1 ho hg hn2
      have HO1 : Hid (w1.ownsRow B 5 1 v1 (n + (q + 1)) (xs ++ bv (ys ++ [x / 256 % 256]))) := Lib.hid (own_eq ho (by simp [bv]) (by omega))
      have HB1 := Lib.hid (HB.out.trans (((Below.refl B wr).alloc (by omega) _).trans (below_grown (by simp; omega) (HO.out.alloc _) hg)))
      have HY1 : Hid ((ys ++ [x / 256 % 256]) ++ be 1 x = be k x) := Lib.hid (by rw [← HY.out]; simp [be])
      clear ho hg hn2 HO HB HY
      go_wp2
      go_roundw
      case rel => exact ⟨1, q + 1, _, by omega, rfl, HY1, HO1, HB1⟩
      case measure => simp [intOf]
    · go_wp2_with (at_builtin; refine wpList_append_own _ rfl _ _ 23 rfl B 5 i0 (.int .u8 0) 1 1 Try.underlying23 hi hz0 hz1 hz2 rfl (by decide) _ _ _ rfl (HO.out.alloc _) ⟨wr.heap.size, 0, none⟩ 1 1 (bv [x / 65536 % 256]) rfl rfl ?c1 (bv_one _) ?c3 ?c4 ?c5 ?_)
      case c1 => exact new_cells [x / 65536 % 256] wr _
      case c3 => unfold maxLen; omega
      case c4 => omega
      case c5 => simp; omega
      intro v1 w1 ho hg hn2
      have HO1 : Hid (w1.ownsRow B 5 1 v1 (n + (q + 1)) (xs ++ bv (ys ++ [x / 65536 % 256]))) := Lib.hid (own_eq ho (by simp [bv]) (by omega))
      have HB1 := Lib.hid (HB.out.trans (((Below.refl B wr).alloc (by omega) _).trans (below_grown (by simp; omega) (HO.out.alloc _) hg)))
      have HY1 : Hid ((ys ++ [x / 65536 % 256]) ++ be 2 x = be k x) := Lib.hid (by rw [← HY.out]; simp [be])
      clear ho hg hn2 HO HB HY
      go_wp2
      go_roundw
      case rel => exact ⟨2, q + 1, _, by omega, rfl, HY1, HO1, HB1⟩
      case measure => simp [intOf]
    · go_wp2_with (at_builtin; refine wpList_append_own _ rfl _ _ 23 rfl B 5 i0 (.int .u8 0) 1 1 Try.underlying23 hi hz0 hz1 hz2 rfl (by decide) _ _ _ rfl (HO.out.alloc _) ⟨wr.heap.size, 0, none⟩ 1 1 (bv [x / 16777216 % 256]) rfl rfl ?c1 (bv_one _) ?c3 ?c4 ?c5 ?_)
      case c1 => exact new_cells [x / 16777216 % 256] wr _
      case c3 => unfold maxLen; omega
      case c4 => omega
      case c5 => simp; omega
      intro v1 w1 ho hg hn2
      have HO1 : Hid (w1.ownsRow B 5 1 v1 (n + (q + 1)) (xs ++ bv (ys ++ [x / 16777216 % 256]))) := Lib.hid (own_eq ho (by simp [bv]) (by omega))
      have HB1 := Lib.hid (HB.out.trans (((Below.refl B wr).alloc (by omega) _).trans (below_grown (by simp; omega) (HO.out.alloc _) hg)))
      have HY1 : Hid ((ys ++ [x / 16777216 % 256]) ++ be 3 x = be k x) := Lib.hid (by rw [← HY.out]; simp [be])
      clear ho hg hn2 HO HB HY
      go_wp2
      go_roundw
      case rel => exact ⟨3, q + 1, _, by omega, rfl, HY1, HO1, HB1⟩
      case measure => simp [intOf]
    · go_wp2_with (at_builtin; refine wpList_append_own _ rfl _ _ 23 rfl B 5 i0 (.int .u8 0) 1 1 Try.underlying23 hi hz0 hz1 hz2 rfl (by decide) _ _ _ rfl (HO.out.alloc _) ⟨wr.heap.size, 0, none⟩ 1 1 (bv [x / 4294967296 % 256]) rfl rfl ?c1 (bv_one _) ?c3 ?c4 ?c5 ?_)
      case c1 => exact new_cells [x / 4294967296 % 256] wr _
      case c3 => unfold maxLen; omega
      case c4 => omega
      case c5 => simp; omega
      intro v1 w1 ho hg hn2
      have HO1 : Hid (w1.ownsRow B 5 1 v1 (n + (q + 1)) (xs ++ bv (ys ++ [x / 4294967296 % 256]))) := Lib.hid (own_eq ho (by simp [bv]) (by omega))
      have HB1 := Lib.hid (HB.out.trans (((Below.refl B wr).alloc (by omega) _).trans (below_grown (by simp; omega) (HO.out.alloc _) hg)))
      have HY1 : Hid ((ys ++ [x / 4294967296 % 256]) ++ be 4 x = be k x) := Lib.hid (by rw [← HY.out]; simp [be])
      clear ho hg hn2 HO HB HY
      go_wp2
      go_roundw
      case rel => exact ⟨4, q + 1, _, by omega, rfl, HY1, HO1, HB1⟩
      case measure => simp [intOf]
    · go_wp2_with (at_builtin; refine wpList_append_own _ rfl _ _ 23 rfl B 5 i0 (.int .u8 0) 1 1 Try.underlying23 hi hz0 hz1 hz2 rfl (by decide) _ _ _ rfl (HO.out.alloc _) ⟨wr.heap.size, 0, none⟩ 1 1 (bv [x / 1099511627776 % 256]) rfl rfl ?c1 (bv_one _) ?c3 ?c4 ?c5 ?_)
      case c1 => exact new_cells [x / 1099511627776 % 256] wr _
      case c3 => unfold maxLen; omega
      case c4 => omega
      case c5 => simp; omega
      intro v1 w1 ho hg hn2
      have HO1 : Hid (w1.ownsRow B 5 1 v1 (n + (q + 1)) (xs ++ bv (ys ++ [x / 1099511627776 % 256]))) := Lib.hid (own_eq ho (by simp [bv]) (by omega))
      have HB1 := Lib.hid (HB.out.trans (((Below.refl B wr).alloc (by omega) _).trans (below_grown (by simp; omega) (HO.out.alloc _) hg)))
      have HY1 : Hid ((ys ++ [x / 1099511627776 % 256]) ++ be 5 x = be k x) := Lib.hid (by rw [← HY.out]; simp [be])
      clear ho hg hn2 HO HB HY
      go_wp2
      go_roundw
      case rel => exact ⟨5, q + 1, _, by omega, rfl, HY1, HO1, HB1⟩
      case measure => simp [intOf]
    · go_wp2_with (at_builtin; refine wpList_append_own _ rfl _ _ 23 rfl B 5 i0 (.int .u8 0) 1 1 Try.underlying23 hi hz0 hz1 hz2 rfl (by decide) _ _ _ rfl (HO.out.alloc _) ⟨wr.heap.size, 0, none⟩ 1 1 (bv [x / 281474976710656 % 256]) rfl rfl ?c1 (bv_one _) ?c3 ?c4 ?c5 ?_)
      case c1 => exact new_cells [x / 281474976710656 % 256] wr _
      case c3 => unfold maxLen; omega
      case c4 => omega
      case c5 => simp; omega
      intro v1 w1 ho hg hn2
      have HO1 : Hid (w1.ownsRow B 5 1 v1 (n + (q + 1)) (xs ++ bv (ys ++ [x / 281474976710656 % 256]))) := Lib.hid (own_eq ho (by simp [bv]) (by omega))
      have HB1 := Lib.hid (HB.out.trans (((Below.refl B wr).alloc (by omega) _).trans (below_grown (by simp; omega) (HO.out.alloc _) hg)))
      have HY1 : Hid ((ys ++ [x / 281474976710656 % 256]) ++ be 6 x = be k x) := Lib.hid (by rw [← HY.out]; simp [be])
      clear ho hg hn2 HO HB HY
      go_wp2
      go_roundw
      case rel => exact ⟨6, q + 1, _, by omega, rfl, HY1, HO1, HB1⟩
      case measure => simp [intOf]
end Go.Proofs.Ytmcmapgllaopmaa.Cd
end

section
namespace Go.Proofs.Ytmcmapgllaopmaa.Cd
open Go.RowKit
set_option linter.unusedVariables false
set_option maxRecDepth 100000 in
theorem sindex_any (s : ByteArray) (cv : Int) (w : World) :
    Calls Try.prog 81 #[.string s, .int .u8 cv] w fun e w' => e = .returned (.int .i64 (Lib.indexByte s.data.toList cv.toNat.toUInt8)) ∧ w' = w := by
  go_enter Try.func81, Try.ntmps81
  go_wp2
  rw [run_callFunc_extern Try.func106 (by kernel_rfl) (by kernel_rfl) (by kernel_rfl) (e := Extern.BytealgIndexByte.indexByte) (by kernel_rfl), Lib.run_indexByteString]
  simp only [Result.andThen]
  rw [Oper.upon_value]
  go_wp2
  go_ret
  exact ⟨rfl, rfl⟩
/-- may a text stand in a tree? -/
def NmOk (s : ByteArray) : Prop := s.toList ≠ [] ∧ (s.size : Int) ≤ 40 ∧ s.toList ≠ [46] ∧ s.toList ≠ [46, 46] ∧ (47 : UInt8) ∉ s.data.toList ∧ (0 : UInt8) ∉ s.data.toList
instance (s : ByteArray) : Decidable (NmOk s) := by unfold NmOk; infer_instance
theorem idx_mem (l : List UInt8) (c : UInt8) : Lib.indexByte l c < 0 ↔ c ∉ l := by
  constructor
  · intro h hm
    have h1 := Lib.indexByte_ge l c
    obtain ⟨k, hk, rfl⟩ := List.mem_iff_getElem.1 hm
    exact Lib.indexByte_none (show Lib.indexByte l l[k] = -1 by omega) k (List.getElem?_eq_getElem hk)
  · intro h
    by_cases h1 : Lib.indexByte l c < 0
    · exact h1
    · obtain ⟨o, ho⟩ := Int.eq_ofNat_of_zero_le (show 0 ≤ Lib.indexByte l c by omega)
      exact absurd (List.mem_of_getElem? (Lib.indexByte_some ho).1) h
set_option maxRecDepth 100000 in
theorem name_any (s : ByteArray) (w : World) (hs : s.size ≤ maxLen) :
    Calls Try.prog 35 #[.string s] w fun e w' => e = .returned (.bool (decide (NmOk s))) ∧ w' = w := by
  by_cases h1 : s.toList = []
  · have hn : decide (NmOk s) = false := decide_eq_false (fun h => h.1 h1)
    rw [hn]
    go_enter Try.func35, Try.ntmps35
    go_wp2_with fail
    go_ret
    exact ⟨rfl, rfl⟩
  by_cases h2 : (s.size : Int) ≤ 40
  rotate_left 1
  · have hn : decide (NmOk s) = false := decide_eq_false (fun h => h2 h.2.1)
    rw [hn]
    go_enter Try.func35, Try.ntmps35
    go_wp2_with fail
    go_ret
    exact ⟨rfl, rfl⟩
  by_cases h3 : s.toList = [46]
  · have hn : decide (NmOk s) = false := decide_eq_false (fun h => h.2.2.1 h3)
    rw [hn]
    go_enter Try.func35, Try.ntmps35
    go_wp2_with fail
    go_ret
    exact ⟨rfl, rfl⟩
  by_cases h4 : s.toList = [46, 46]
  · have hn : decide (NmOk s) = false := decide_eq_false (fun h => h.2.2.2.1 h4)
    rw [hn]
    go_enter Try.func35, Try.ntmps35
    go_wp2_with fail
    go_ret
    exact ⟨rfl, rfl⟩
  have e1 : s.toList.isEmpty = false := by simpa using h1
  have e2 : decide (40 < (s.size : Int)) = false := by simp; omega
  have e3 : (s.toList == [46]) = false := by simpa using h3
  have e4 : (s.toList == [46, 46]) = false := by simpa using h4
  by_cases h5 : Lib.indexByte s.data.toList (47 : Int).toNat.toUInt8 < 0
  rotate_left 1
  · have hn : decide (NmOk s) = false := decide_eq_false (fun h => h5 ((idx_mem _ _).2 h.2.2.2.2.1))
    have hd : decide (Lib.indexByte s.data.toList (47 : Int).toNat.toUInt8 < 0) = false := decide_eq_false h5
    rw [hn]
    clear hn h1 h2 h3 h4 h5
    generalize hX : Lib.indexByte s.data.toList (47 : Int).toNat.toUInt8 = X at *
    go_enter Try.func35, Try.ntmps35
    go_wp2_with fail
    refine (sindex_any s 47 w).mono ?_
    rintro e w1 ⟨rfl, rfl⟩
    rw [hX]
    go_wp2_with fail
    go_ret
    exact ⟨rfl, rfl⟩
  have hd : decide (Lib.indexByte s.data.toList (47 : Int).toNat.toUInt8 < 0) = true := decide_eq_true h5
  have hn : decide (NmOk s) = decide (Lib.indexByte s.data.toList (0 : Int).toNat.toUInt8 < 0) := by
    rw [decide_eq_decide]
    constructor
    · intro h
      exact (idx_mem _ _).2 h.2.2.2.2.2
    · intro h
      exact ⟨h1, h2, h3, h4, (idx_mem _ _).1 h5, (idx_mem _ _).1 h⟩
  rw [hn]
  clear hn h1 h2 h3 h4 h5
  generalize hX : Lib.indexByte s.data.toList (47 : Int).toNat.toUInt8 = X at *
  generalize hY : Lib.indexByte s.data.toList (0 : Int).toNat.toUInt8 = Y at *
  go_enter Try.func35, Try.ntmps35
  go_wp2_with fail
  refine (sindex_any s 47 w).mono ?_
  rintro e w1 ⟨rfl, rfl⟩
  rw [hX]
  go_wp2_with fail
  refine (sindex_any s 0 _).mono ?_
  rintro e w2 ⟨rfl, rfl⟩
  rw [hY]
  go_wp2_with fail
  go_ret
  exact ⟨rfl, rfl⟩
end Go.Proofs.Ytmcmapgllaopmaa.Cd
end

section
namespace Go.Proofs.Ytmcmapgllaopmaa.Cd
open Go.RowKit
set_option linter.unusedVariables false
theorem below_drewN {B : Nat} {a w : World} (h : Below B a w) (n : Nat) : Below B a (w.drewN n) := ⟨h.os, h.tape, h.output, h.size, h.block⟩
theorem al_lt (w : World) (o : Obj) : w.heap.size < (w.alloc o).heap.size := by show w.heap.size < (w.heap.push o).size; simp
theorem al_le (w : World) (o : Obj) : w.heap.size ≤ (w.alloc o).heap.size := Nat.le_of_lt (al_lt w o)
theorem al_cell (w : World) (cs : Array Value) (t : TypeId) (i : Nat) (v : Value) (h : cs[i]? = some v) : (w.alloc (.cells cs t)).cell? ⟨w.heap.size, i, none⟩ = some v := by
  rw [World.cell?_alloc_new]; exact h
/-- a cell of a new block, and behind what turned nothing below -/
theorem al_cell_b {w w' : World} {cs : Array Value} {t : TypeId} (hb : Below (w.alloc (.cells cs t)).heap.size (w.alloc (.cells cs t)) w') (i : Nat) (v : Value) (h : cs[i]? = some v) : w'.cell? ⟨w.heap.size, i, none⟩ = some v :=
  (hb.cell (p := ⟨w.heap.size, i, none⟩) (al_lt w _)).trans (al_cell w cs t i v h)
theorem al_keep {w : World} {a : Addr} {v : Value} (h : w.cell? a = some v) (o : Obj) : (w.alloc o).cell? a = some v :=
  (World.cell?_alloc_some w a o (by rw [h]; rfl)).trans h
theorem al_below {w w' : World} {o : Obj} (hb : Below (w.alloc o).heap.size (w.alloc o) w') : Below w.heap.size w w' :=
  ((Below.refl w.heap.size w).alloc (Nat.le_refl _) o).trans (hb.mono (al_le w o))
theorem own_lit (w : World) (l : List Int) (hl : l.length ≤ maxLen) : (w.alloc (.cells (bv l).toArray 5)).ownsRow w.heap.size 5 1 (.slice (some ⟨w.heap.size, 0, none⟩) l.length l.length) l.length (bv l) :=
  ⟨by simp [bv], .inr ⟨w.heap.size, l.length, (bv l).toArray, rfl, Nat.le_refl _, by show (w.heap.push _)[w.heap.size]? = _; simp, Nat.le_refl _, hl, by simp [bv], by rw [Nat.mul_one, List.take_of_length_le (by simp [bv])]⟩⟩
theorem own_base {w : World} {B B' e sz n : Nat} {v : Value} {xs : List Value} (h : w.ownsRow B e sz v n xs) (hB : B' ≤ B) : w.ownsRow B' e sz v n xs := by
  refine ⟨h.1, ?_⟩
  rcases h.2 with h2 | ⟨g, cap, cur, hv, hb, r⟩
  · exact .inl h2
  · exact .inr ⟨g, cap, cur, hv, Nat.le_trans hB hb, r⟩
theorem own_open {w : World} {B e sz n : Nat} {v : Value} {xs : List Value} (h : w.ownsRow B e sz v n xs) (hn : 0 < n) : ∃ g c, v = .slice (some ⟨g, 0, none⟩) n c ∧ n ≤ c ∧ c ≤ maxLen := by
  rcases h.2 with ⟨_, h2⟩ | ⟨g, cap, cur, hv, hb, _, h1, h2, _⟩
  · omega
  · exact ⟨g, cap, hv, h1, h2⟩
set_option maxRecDepth 100000 in
theorem ended_nil (g : Nat) (w : World) (h0 : w.cell? ⟨g, 0, none⟩ = some (.slice none 0 0)) (h1 : w.cell? ⟨g, 1, none⟩ = some (.int .i64 0)) :
    Calls Try.prog 44 #[.pointer (some ⟨g, 0, none⟩)] w fun e w' => e = .returned (.bool true) ∧ Below w.heap.size w w' := by
  have HB := Lib.hid (Below.refl w.heap.size w)
  go_enter Try.func44, Try.ntmps44
  go_wp2
  go_quiet (fail)
  go_wp2
  go_ret
  exact ⟨rfl, below_drewN HB.out _⟩
set_option maxRecDepth 100000 in
theorem parseTree_nil (w : World) :
    Calls Try.prog 14 #[.slice none 0 0] w fun e w' => e = .returned (.tuple #[.slice none 0 0, .int .i64 0]) ∧ Below w.heap.size w w' := by
  go_enter Try.func14, Try.ntmps14
  go_wp2_with fail
  go_loopw [9] (fun s wr => s = undef ∧ wr = w.alloc (.cells #[.slice none 0 0, .int .i64 0, .int .i64 0, .slice none 0 0] 96)) (fun _ _ => 0)
  case atStart => exact ⟨rfl, rfl⟩
  case round =>
    obtain ⟨rfl, rfl⟩ := hrel
    go_wp2_with fail
    refine (ended_nil _ _ (al_cell _ _ _ 0 _ rfl) (al_cell _ _ _ 1 _ rfl)).mono ?_
    rintro e w1 ⟨rfl, hb⟩
    have hc : w1.cell? ⟨w.heap.size, 3, none⟩ = some (.slice none 0 0) := al_cell_b hb 3 _ rfl
    have HB := Lib.hid (al_below hb)
    clear hb
    go_wp2_with fail
    go_ret2
    exact ⟨rfl, HB.out⟩
set_option maxRecDepth 100000 in
theorem check_tree_nil (w : World) :
    Calls Try.prog 57 #[.agg #[.int .i64 2, .slice none 0 0]] w fun e w' => e = .returned (.tuple #[.int .u8 116, .int .i64 0]) ∧ Below w.heap.size w w' := by
  go_enter Try.func57, Try.ntmps57
  go_wp2_with fail
  refine (parseTree_nil _).mono ?_
  rintro e w1 ⟨rfl, hb⟩
  have HB := Lib.hid (al_below hb)
  clear hb
  go_wp2_with fail
  go_ret2
  exact ⟨rfl, HB.out⟩
set_option maxRecDepth 100000 in
theorem encodeObj_tree_nil (w : World) :
    Calls Try.prog 22 #[.agg #[.int .i64 2, .slice none 0 0]] w fun e w' => ∃ v, e = .returned (.tuple #[v, .int .i64 0]) ∧ w'.ownsRow w.heap.size 5 1 v 5 (bv [116, 0, 0, 0, 0]) ∧ Below w.heap.size w w' := by
  go_enter Try.func22, Try.ntmps22
  go_wp2_with fail
  refine (check_tree_nil _).mono ?_
  rintro e w1 ⟨rfl, hb⟩
  have HB := Lib.hid (al_below hb)
  have hc0 := al_cell_b hb 1 _ rfl
  have hlt : w.heap.size < w1.heap.size := Nat.lt_of_lt_of_le (al_lt w _) hb.size
  have hc : ∀ o, (w1.alloc o).cell? ⟨w.heap.size, 1, none⟩ = some (.slice none 0 0) := al_keep hc0
  clear hb
  go_wp2_with fail
  have hsz := HB.out.size
  refine (number_any w1.heap.size _ 1 (bv [116]) 0 4 _ (al_le w1 _) (own_lit w1 [116] (by decide)) (by omega) (by omega) (by omega) (by omega)).mono ?_
  rintro e w2 ⟨v, rfl, ho, hb2⟩
  have hb3 := ((Below.refl w1.heap.size w1).alloc (Nat.le_refl _) (.cells (bv [116]).toArray 5)).trans hb2
  have HB2 := Lib.hid (HB.out.trans (hb3.mono hsz))
  obtain ⟨g, c, rfl, hc1, hc2⟩ := own_open ho (by omega)
  have HO := Lib.hid (own_base ho hsz)
  have hc3 : w2.cell? ⟨w.heap.size, 1, none⟩ = some (.slice none 0 0) := (hb3.cell (p := ⟨w.heap.size, 1, none⟩) hlt).trans hc0
  clear hb2 hb3 ho hc hc0
  go_wp2_with fail
  go_ret2
  exact ⟨_, rfl, HO.out, HB2.out⟩
end Go.Proofs.Ytmcmapgllaopmaa.Cd
end

section
namespace Go.Proofs.Ytmcmapgllaopmaa.Cd
open Go.RowKit
set_option linter.unusedVariables false
theorem items_eq (d : Nat) (xs ys : List Int) (w : World) : ∀ is : List Nat, (∀ i ∈ is, i < xs.length ∧ i < ys.length) →
    (Op.eqItems (d + 1) 5 1 (bv xs).toArray (bv ys).toArray is).run Try.prog w = .ok (is.all fun i => xs.getD i 0 == ys.getD i 0) w
  | [], _ => rfl
  | i :: is, h => by
    obtain ⟨h1, h2⟩ := h i (List.mem_cons_self ..)
    have ih := items_eq d xs ys w is (fun j hj => h j (List.mem_cons_of_mem _ hj))
    have p1 := run_part_plain (P := Try.prog) w (e := 5) (by kernel_rfl) (xs := (bv xs).toArray) (off := i * 1) (v := .int .u8 (xs.getD i 0)) (by simp [bv, h1])
    have p2 := run_part_plain (P := Try.prog) w (e := 5) (by kernel_rfl) (xs := (bv ys).toArray) (off := i * 1) (v := .int .u8 (ys.getD i 0)) (by simp [bv, h2])
    simp only [Op.eqItems, Sem.run_bind, p1, p2, Result.andThen_ok, run_equalIn_int w d 5 .u8 .u8 _ _ Try.underlying5, List.all_cons]
    cases hb : xs.getD i 0 == ys.getD i 0
    · simp
    · simpa [hb] using ih
theorem all_range (xs ys : List Int) (n : Nat) (hx : xs.length = n) (hy : ys.length = n) : ((List.range n).all fun i => xs.getD i 0 == ys.getD i 0) = decide (xs = ys) := by
  rw [Bool.eq_iff_iff, List.all_eq_true, decide_eq_true_eq]
  constructor
  · intro h
    refine List.ext_getElem (by omega) fun i h1 h2 => ?_
    have := h i (List.mem_range.2 (by omega))
    simpa [h1, h2] using this
  · rintro rfl i _
    simp
/-- two Ids are compared -/
theorem ids_eq (a b : List Int) (ha : a.length = 32) (hb : b.length = 32) (w : World) :
    (Op.equalIn 10000 37 (.agg (bv a).toArray) (.agg (bv b).toArray)).run Try.prog w = .ok (decide (a = b)) w := by
  obtain ⟨i, hi⟩ := info_of_underlying (P := Try.prog) Try.underlying5
  rw [run_equalIn_array w 9999 (n := 32) (e := 5) (bv a).toArray (bv b).toArray Try.underlying37 hi, show Try.prog.cellsOf 5 = 1 from by kernel_rfl]
  rw [items_eq 9998 a b w _ (fun i hi => by have := List.mem_range.1 hi; omega), all_range a b 32 ha hb]
/-- is an Id none? -/
theorem ids_none (a : List Int) (ha : a.length = 32) (w : World) :
    (Op.equalIn 10000 37 (.agg (bv a).toArray) (.agg (bv (List.replicate 32 0)).toArray)).run Try.prog w = .ok (decide (a = List.replicate 32 0)) w := ids_eq a _ ha (by simp) w
end Go.Proofs.Ytmcmapgllaopmaa.Cd
end

section
namespace Go.Proofs.Ytmcmapgllaopmaa.Cd
open Go.RowKit
set_option linter.unusedVariables false
theorem nm_a : NmOk ⟨#[97]⟩ := by
  unfold NmOk
  rw [Lib.toList_data]
  decide
theorem nm_a' : decide (NmOk ⟨#[97]⟩) = true := decide_eq_true nm_a
/-- an entry's cells -/
def ent (s : ByteArray) (k : Int) (ids : List Int) : List Value := .string s :: .int .i64 k :: bv ids
theorem ent_cells (s : ByteArray) (k : Int) (ids : List Int) : (Value.agg (ent s k ids).toArray).cells = (ent s k ids).toArray := rfl
theorem ent_range (s : ByteArray) (k : Int) (ids : List Int) (w : World) (t : TypeId) : (w.alloc (.cells (ent s k ids).toArray t)).rangeAt w.heap.size 0 (ent s k ids) := by
  intro j v hv
  rw [Nat.zero_add, World.cell?_alloc_new]
  simpa using hv
theorem ent_range2 (s : ByteArray) (k : Int) (ids : List Int) (w : World) (t : TypeId) : (w.alloc (.cells (ent s k ids).toArray t)).rangeAt w.heap.size 2 (bv ids) := by
  intro j v hv
  rw [World.cell?_alloc_new]
  rw [show 2 + j = j + 1 + 1 from by omega]
  simpa [ent] using hv
set_option maxRecDepth 100000 in
theorem checkEntry_one (g0 c0 : Nat) (ids : List Int) (hids : ids.length = 32) (hne : ids ≠ List.replicate 32 0) (w : World) :
    Calls Try.prog 40 #[.agg (ent ⟨#[97]⟩ 1 ids).toArray, .slice (some ⟨g0, 0, none⟩) 0 c0] w fun e w' => e = .returned (.int .i64 0) ∧ Below w.heap.size w w' := by
  have hq : ∀ W, (Op.equalIn 10000 37 (.agg (bv ids).toArray) (.agg #[.int .u8 0, .int .u8 0, .int .u8 0, .int .u8 0, .int .u8 0, .int .u8 0, .int .u8 0, .int .u8 0, .int .u8 0, .int .u8 0, .int .u8 0, .int .u8 0, .int .u8 0, .int .u8 0, .int .u8 0, .int .u8 0, .int .u8 0, .int .u8 0, .int .u8 0, .int .u8 0, .int .u8 0, .int .u8 0, .int .u8 0, .int .u8 0, .int .u8 0, .int .u8 0, .int .u8 0, .int .u8 0, .int .u8 0, .int .u8 0, .int .u8 0, .int .u8 0])).run Try.prog W = .ok false W := fun W => (ids_none ids hids W).trans (by rw [decide_eq_false hne])
  have hcl := ent_cells ⟨#[97]⟩ 1 ids
  have h0 := al_cell w (ent ⟨#[97]⟩ 1 ids).toArray 87 0 (.string ⟨#[97]⟩) rfl
  have h1 := al_cell w (ent ⟨#[97]⟩ 1 ids).toArray 87 1 (.int .i64 1) rfl
  have HR := Lib.hid (ent_range2 ⟨#[97]⟩ 1 ids w 87)
  have HL := Lib.hid (show (Try.prog.info? 37).map (·.size) = some (bv ids).length by rw [bv, List.length_map, hids]; kernel_rfl)
  generalize hE : ent ⟨#[97]⟩ 1 ids = E at *
  have HE := Lib.hid hE
  clear hE hids hne
  have HA := Lib.hid ((Below.refl w.heap.size w).alloc (Nat.le_refl _) (.cells E.toArray 87))
  go_enter Try.func40, Try.ntmps40
  go_wp2_with fail
  refine (name_any ⟨#[97]⟩ _ (by decide)).mono ?_
  rintro e w1 ⟨rfl, rfl⟩
  rw [nm_a']
  go_wp2_with (refine wpList_load_mid rfl _ _ rfl w.heap.size 2 rfl (bv ids) _ HR.out Try.underlying37 rfl HL.out ?_)
  go_quiet (fail)
  go_wp2
  go_ret
  exact ⟨rfl, below_drewN HA.out _⟩
end Go.Proofs.Ytmcmapgllaopmaa.Cd
end

section
namespace Go.Proofs.Ytmcmapgllaopmaa.Cd
open Go.RowKit
set_option linter.unusedVariables false
set_option maxHeartbeats 1000000 in
theorem text_any (B : Nat) (v : Value) (n : Nat) (xs : List Value) (s : ByteArray) (k : Nat) (w : World) (hB : B ≤ w.heap.size) (hown : w.ownsRow B 5 1 v n xs) (hn : n ≤ 140730000000000) (hs : s.size ≤ 1000000000) (hk : k ≤ 7) :
    Calls Try.prog 41 #[v, .string s, .int .i64 k] w (OwnRet B (n + k + s.size) (xs ++ (bv (be k s.size) ++ Lib.strCells s)) w) := by
  obtain ⟨i0, hi, hz0, hz1, hz2⟩ := info_parts info5
  have hmx : (140737488355328 : Nat) ≤ maxLen := by unfold maxLen; omega
  have HO := Lib.hid hown

  clear hown
  go_enter Try.func41, Try.ntmps41
  go_wp2_with fail
  refine (number_any B v n xs s.size k w hB HO.out (by omega) (by omega) (by omega) hk).mono ?_
  rintro e w1 ⟨v1, rfl, ho1, hb1⟩
  have HB1 := Lib.hid hb1
  have HO1 := Lib.hid ho1
  have hsz := hb1.size
  clear ho1 hb1
  go_wp2_with (at_builtin; refine Lib.wpList_append_own_string _ rfl _ _ _ _ rfl B 5 i0 Try.underlying23 Try.underlying9 hi hz0 hz1 hz2 _ _ _ rfl HO1.out s rfl (by omega) (by omega) (by omega) ?_)
  intro v' w' ho hg hv
  have HB' := Lib.hid (HB1.out.trans (below_grown (by omega) HO1.out hg))
  have HO' := Lib.hid ho
  clear ho hg hv
  go_wp2
  go_ret
  exact ⟨_, rfl, HO'.out, HB'.out⟩
end Go.Proofs.Ytmcmapgllaopmaa.Cd
end

section
namespace Go.Proofs.Ytmcmapgllaopmaa.Cd
open Go.RowKit
set_option linter.unusedVariables false
theorem own_none (w : World) (B : Nat) : w.ownsRow B 5 1 (.slice none 0 0) 0 (bv []) := ⟨rfl, .inl ⟨rfl, rfl⟩⟩
theorem frz_new (w : World) (z : Array Value) (t : TypeId) (j : Nat) : (w.alloc (.cells z t)).frozen? ⟨w.heap.size, j, none⟩ = false := by
  have h : (w.alloc (.cells z t)).heap[w.heap.size]? = some (.cells z t (0, 0)) := by show (w.heap.push _)[w.heap.size]? = _; simp
  simp only [World.frozen?, h]
  simp
theorem range_ent {w : World} {b : Nat} {s : ByteArray} {k : Int} {ids : List Int} (h : w.rangeAt b 0 (ent s k ids)) : w.cell? ⟨b, 0, none⟩ = some (.string s) ∧ w.cell? ⟨b, 1, none⟩ = some (.int .i64 k) ∧ w.rangeAt b 2 (bv ids) :=
  ⟨h 0 _ rfl, h 1 _ rfl, fun j v hv => by
    have := h (j + 2) v hv
    rw [Nat.zero_add, Nat.add_comm] at this
    exact this⟩
theorem range_below {B : Nat} {w w' : World} (hb : Below B w w') {b o : Nat} {cs : List Value} (h : w.rangeAt b o cs) (hB : b < B) : w'.rangeAt b o cs :=
  fun j v hv => (hb.cell (p := ⟨b, o + j, none⟩) hB).trans (h j v hv)
theorem there_new (w : World) (z : Array Value) (t : TypeId) (n : Nat) (h : n ≤ z.size) : (w.alloc (.cells z t)).there w.heap.size 0 n := by
  intro j hj
  constructor
  · rw [Nat.zero_add, World.cell?_alloc_new]
    simp; omega
  · rw [Nat.zero_add]
    exact frz_new w z t j
theorem below_setCells {B : Nat} {a : World} (b : Nat) (hb : B ≤ b) : ∀ (vs : List Value) (o : Nat) (w : World), Below B a w → Below B a (w.setCells b o vs)
  | [], _, _, h => h
  | v :: vs, o, w, h => below_setCells b hb vs (o + 1) _ (h.setCell (p := ⟨b, o, none⟩) hb v)
set_option maxRecDepth 100000 in
set_option maxHeartbeats 1000000 in
theorem encodeTree_one (g : Nat) (ids : List Int) (hids : ids.length = 32) (hne : ids ≠ List.replicate 32 0) (w : World) (hg : g < w.heap.size) (hr : w.rangeAt g 0 (ent ⟨#[97]⟩ 1 ids)) :
    Calls Try.prog 12 #[.slice (some ⟨g, 0, none⟩) 1 1] w fun e w' => ∃ v, e = .returned (.tuple #[v, .int .i64 0]) ∧ w'.ownsRow w.heap.size 5 1 v 35 (bv (1 :: 1 :: 97 :: ids)) ∧ Below w.heap.size w w' := by
  obtain ⟨i0, hi, hz0, hz1, hz2⟩ := info_parts info5
  have hcl := ent_cells ⟨#[97]⟩ 1 ids
  have HL := Lib.hid (show (Try.prog.info? 87).map (·.size) = some (ent ⟨#[97]⟩ 1 ids).length by rw [ent, List.length_cons, List.length_cons, bv, List.length_map, hids]; kernel_rfl)
  have HR := Lib.hid hr
  clear hr
  have H1 := Lib.hid (show (ent ⟨#[97]⟩ 1 ids).toArray.all (·.oneCell') = true by
    refine all_oneCell_toArray fun v hv => ?_
    rcases List.mem_cons.1 hv with rfl | hv
    · rfl
    · rcases List.mem_cons.1 hv with rfl | hv
      · rfl
      · exact bv_one _ _ hv)
  have HS : Hid ((Try.prog.info? 87).map (·.size) = some (ent ⟨#[97]⟩ 1 ids).toArray.size) := Lib.hid (by rw [List.size_toArray]; exact HL.out)
  have hsz := Lib.hid (show (ent ⟨#[97]⟩ 1 ids).toArray.size ≤ 34 by rw [List.size_toArray, ent, List.length_cons, List.length_cons, bv, List.length_map, hids]; omega)
  generalize hE : ent ⟨#[97]⟩ 1 ids = E at *
  go_enter Try.func12, Try.ntmps12
  go_wp2_with fail
  go_loopw [4, 13] (fun b i wr => (b = .slice none 0 0 ∧ i = .int .i64 0 ∧ wr = w) ∨ (∃ v, b = v ∧ i = .int .i64 1 ∧ Hid (wr.ownsRow w.heap.size 5 1 v 35 (bv (1 :: 1 :: 97 :: ids))) ∧ Hid (Below w.heap.size w wr))) (fun _ i _ => 1 - (intOf i).toNat)
  case atStart => exact .inl ⟨rfl, rfl, rfl⟩
  case round =>
    rcases hrel with ⟨rfl, rfl, rfl⟩ | ⟨v, rfl, rfl, HO, HB⟩
    rotate_left 1
    · go_wp2
      go_ret2
      exact ⟨_, rfl, HO.out, HB.out⟩
    go_wp2_with (first
      | (refine wpList_load_mid rfl _ _ rfl g 0 rfl E _ HR.out Try.underlying87 rfl HL.out ?_)
      | (refine wpList_store_mid rfl _ _ _ rfl wr.heap.size 0 E.toArray rfl rfl (there_new wr _ _ _ hsz.out) HS.out H1.out ?_; generalize hX : World.setCells _ _ _ _ = wX; have HX := Lib.hid hX; clear hX))
    have hRX : wX.rangeAt wr.heap.size 0 E := by
      rw [← HX.out]
      exact World.rangeAt_setCells_same _ _ _ _ (there_new wr _ _ _ hsz.out)
    have HBX : Hid (Below wr.heap.size wr wX) := by
      rw [← HX.out]
      exact below_setCells _ (Nat.le_refl _) _ _ _ ((Below.refl _ _).alloc (Nat.le_refl _) _)
    have hlt : wr.heap.size < wX.heap.size := by
      rw [← HX.out]
      exact Nat.lt_of_lt_of_le (al_lt wr _) (below_setCells (B := 0) _ (Nat.zero_le _) _ _ _ (Below.refl 0 _)).size
    clear HX
    have HSa : Hid (wX.drew.rangeAt wr.heap.size 0 E) := Lib.hid ((World.rangeAt_drew _ _ _ _).2 hRX)
    have HBD : Hid (Below wr.heap.size wr wX.drew) := Lib.hid HBX.out.drew
    have hlt2 : wr.heap.size < wX.drew.heap.size := hlt
    clear hRX
    have hEE := HL.out
    refine wp_region_noPanic ?_
    refine wp_region_held_drew (S := (fun wS => wS.rangeAt wr.heap.size 0 E)) (by kernel_rfl) ?_ (fun hHeld => ?_)
    · ((try dsimp only); exact HSa.out)
    refine' wpAnyH_take (i := 0) (oi := { dst := some 18, op := Op.load 87 (Operand.tmp 6), type := 87, pos := "tree.go:12", after := #[], guard := none }) (v := _) rfl (by kernel_rfl) (by kernel_rfl) (by kernel_rfl) (fun _ _ _ h => h) (yieldsIf_load_mid (by rfl) _ _ rfl _ _ rfl E _ (fun w hSw => hSw) Try.underlying87 rfl HL.out) (by assumption) ?_
    (try simp only [Act.put, List.setIfInBounds_toArray, List.set_cons_zero, List.set_cons_succ])
    refine wpAnyH_take (i := 1) (oi := { dst := some 19, op := Op.move (Operand.tmp 0), type := 22, pos := "tree.go:12", after := #[], guard := none }) (v := ?_) rfl (by kernel_rfl) (by kernel_rfl) (by kernel_rfl) (fun _ _ _ h => h) (Or.inl ⟨by rfl, ?_⟩) (by assumption) ?_
    rotate_left 1
    · ((intro w hSw; (try dsimp only at hSw); go_simp) <;> with_reducible rfl)
    (try simp only [Act.put, List.setIfInBounds_toArray, List.set_cons_zero, List.set_cons_succ])
    refine wpAnyH_take (i := 2) (oi := { dst := some 20, op := Op.move (Operand.tmp 5), type := 3, pos := "tree.go:12", after := #[], guard := none }) (v := ?_) rfl (by kernel_rfl) (by kernel_rfl) (by kernel_rfl) (fun _ _ _ h => h) (Or.inl ⟨by rfl, ?_⟩) (by assumption) ?_
    rotate_left 1
    · ((intro w hSw; (try dsimp only at hSw); go_simp) <;> with_reducible rfl)
    (try simp only [Act.put, List.setIfInBounds_toArray, List.set_cons_zero, List.set_cons_succ])
    refine wpAnyH_take (i := 3) (oi := { dst := some 21, op := Op.slice 22 (Operand.tmp 19) none (some (Operand.tmp 20)) none, type := 22, pos := "tree.go:12", after := #[{ on := 1, ground := Ground.data }, { on := 2, ground := Ground.data }], guard := none }) (v := ?_) rfl (by kernel_rfl) (by kernel_rfl) (by kernel_rfl) (fun _ _ _ h => h) (Or.inl ⟨by rfl, ?_⟩) (by assumption) ?_
    rotate_left 1
    · ((intro w hSw; (try dsimp only at hSw); go_simp) <;> with_reducible rfl)
    (try simp only [Act.put, List.setIfInBounds_toArray, List.set_cons_zero, List.set_cons_succ])
    refine wpAnyH_ready (rs := [4]) (by kernel_rfl) (by simp) ?_
    refine AllReadyH.cons (o := { dst := some 22, op := Op.call { callee := Callee.value (Operand.func 40), args := #[Operand.tmp 18, Operand.tmp 21], argTypes := #[87, 22] }, type := 25, pos := "tree.go:12", after := #[{ on := 0, ground := Ground.data }, { on := 3, ground := Ground.data }], guard := none }) rfl (fun K hK => ?_) ?_
    · go_simp
      rw [← hE]
      refine (checkEntry_one _ _ ids hids hne _).mono ?_
      rintro e w7 ⟨rfl, hb7⟩
      rw [hE]
      have HB7 := Lib.hid (HBD.out.trans (hb7.mono (Nat.le_of_lt hlt2)))
      have HSa := Lib.hid (range_below hb7 HSa.out hlt2)
      have hsz7 := hb7.size
      clear hb7
      (try go_wp2_with fail)
      refine hK.out _ _ ?_ (fun hNew => ?_)
      · ((try dsimp only); exact HSa.out)
      clear hK K hHeld
      have hHeld := hNew
      clear hNew
      (try simp only [Act.put, List.setIfInBounds_toArray, List.set_cons_zero, List.set_cons_succ])
      refine wpAnyH_take (i := 5) (oi := { dst := some 7, op := Op.assign (Operand.tmp 22), type := 25, pos := "tree.go:12", after := #[{ on := 4, ground := Ground.data }, { on := 4, ground := Ground.chain }, { on := 0, ground := Ground.phase }, { on := 1, ground := Ground.phase }, { on := 2, ground := Ground.phase }, { on := 3, ground := Ground.phase }, { on := 4, ground := Ground.phase }], guard := none }) (v := ?_) rfl (by kernel_rfl) (by kernel_rfl) (by kernel_rfl) (fun _ _ _ h => h) (Or.inl ⟨by rfl, ?_⟩) (by assumption) ?_
      rotate_left 1
      · ((intro w hSw; (try dsimp only at hSw); go_simp) <;> with_reducible rfl)
      (try simp only [Act.put, List.setIfInBounds_toArray, List.set_cons_zero, List.set_cons_succ])
      refine wpAnyH_done (by kernel_rfl) ?_ _
      refine NoPanic.normal ?_
      have hEE := HSa.out
      rw [← hE] at hEE
      obtain ⟨hc0, hc1, hr2⟩ := range_ent hEE
      have hszw := HB7.out.size
      have hltw : wr.heap.size < w7.heap.size := Nat.lt_of_lt_of_le hlt2 hsz7
      have HR2 := Lib.hid hr2
      have HC0 := Lib.hid hc0
      clear hEE hc0 hr2
      go_wp2_with (at_builtin; refine wpList_append_own _ rfl _ _ 23 rfl w7.heap.size 5 i0 (.int .u8 0) 1 1 Try.underlying23 hi hz0 hz1 hz2 rfl (by decide) _ 0 (bv []) rfl (own_none _ _) ⟨w7.heap.size, 0, none⟩ 1 1 (bv [1]) rfl rfl ?c1 (bv_one _) ?c3 ?c4 ?c5 ?_)
      case c1 => exact new_cells [1] w7 _
      case c3 => unfold maxLen; omega
      case c4 => omega
      case c5 => exact al_le w7 _
      intro v8 w8 ho8 hg8 hnil8
      have hb78 : Below w7.heap.size w7 w8 := ((Below.refl w7.heap.size w7).alloc (Nat.le_refl _) (.cells (bv [1]).toArray 5)).trans (below_grown (al_le w7 _) (own_none _ _) hg8)
      have HB8 := Lib.hid (HB7.out.trans (hb78.mono hszw))
      have hc8 : w8.cell? ⟨wr.heap.size, 0, none⟩ = some (.string ⟨#[97]⟩) := (hb78.cell (p := ⟨wr.heap.size, 0, none⟩) hltw).trans HC0.out
      have HR8 := Lib.hid (range_below hb78 HR2.out hltw)
      have HO8 := Lib.hid ho8
      have hsz8 := hb78.size
      clear ho8 hg8 hnil8 hb78 hc1
      go_wp2_with fail
      refine (text_any w7.heap.size v8 _ _ ⟨#[97]⟩ 1 w8 hsz8 HO8.out (by omega) (by decide) (by omega)).mono ?_
      rintro e w9 ⟨v9, rfl, ho9, hb9⟩
      have HB9 := Lib.hid (HB8.out.trans (hb9.mono hszw))
      have hsz79 := Nat.le_trans hsz8 hb9.size
      have HO9 := Lib.hid ho9
      clear ho9 hc8
      have HR9 : Hid (∀ j u, (bv ids)[j]? = some u → w9.cell? (Addr.add ⟨wr.heap.size, 2, none⟩ j) = some u) := Lib.hid (fun j u hj => by
        rw [Addr.add_mid]
        exact (hb9.cell (p := ⟨wr.heap.size, 2 + j, none⟩) hltw).trans (HR8.out j u hj))
      have hsz9 := hb9.size
      clear hb9
      go_wp2_with (at_builtin; refine wpList_append_own _ rfl _ _ 23 rfl w7.heap.size 5 i0 (.int .u8 0) 1 1 Try.underlying23 hi hz0 hz1 hz2 rfl (by decide) _ _ _ rfl HO9.out ⟨wr.heap.size, 2, none⟩ 32 32 (bv ids) rfl (by rw [bv, List.length_map, hids]) HR9.out (bv_one _) ?c3 ?c4 ?c5 ?_)
      case c3 => show _ ≤ maxLen; rw [show (ByteArray.mk #[97]).size = 1 from rfl]; unfold maxLen; omega
      case c4 => rw [show (ByteArray.mk #[97]).size = 1 from rfl]; omega
      case c5 => exact hsz79
      intro v10 w10 ho10 hg10 hnil10
      have HO10 := Lib.hid (own_base (own_eq (ys := bv (1 :: 1 :: 97 :: ids)) (m := 35) ho10 (by simp [bv, be, Lib.strCells]) (by rfl)) hszw)
      have HB10 := Lib.hid (HB9.out.trans ((below_grown hsz79 HO9.out hg10).mono hszw))
      clear ho10 hg10 hnil10
      go_wp2_with fail
      go_roundw
      case rel => exact .inr ⟨_, rfl, by go_num, HO10, HB10⟩
      case measure => simp [intOf]
    exact AllReadyH.nil
end Go.Proofs.Ytmcmapgllaopmaa.Cd
end

section
namespace Go.Proofs.Ytmcmapgllaopmaa.Cd
open Go.RowKit
set_option linter.unusedVariables false
/-- bytes as text -/
def sb (l : List Int) : ByteArray := l.foldl (fun r n => r.push (UInt8.ofNat n.toNat)) ByteArray.empty
theorem conv_cells (w : World) (a : Addr) (l : List Int) (cap n : Nat) (hn : l.length = n) (h : ∀ j u, (bv l)[j]? = some u → w.cell? (a.add j) = some u) :
    (convert 23 9 (.slice (some a) n cap)).run Try.prog w = .ok (.string (sb l)) w := by
  rw [run_convert_bytes_string w _ _ 5 (some a) n cap Try.underlying23 Try.underlying5 Try.underlying9]
  have hl := run_loadCells_list (P := Try.prog) w a (bv l) h
  have e : (bv l).length = n := by simp [bv, hn]
  rw [e] at hl
  exact run_bytesToString w a n cap l hl
/-- the first m bytes of a row of one's own, as text -/
theorem conv_own {w : World} {B g n C : Nat} {l : List Int} (h : w.ownsRow B 5 1 (.slice (some ⟨g, 0, none⟩) n C) n (bv l)) (m : Nat) (hm : m ≤ n) :
    (convert 23 9 (.slice (some ⟨g, 0, none⟩) m C)).run Try.prog w = .ok (.string (sb (l.take m))) w := by
  have hl : l.length = n := by have := h.1; simpa [bv] using this
  refine conv_cells w _ (l.take m) C m (by rw [List.length_take]; omega) ?_
  intro j u hj
  obtain ⟨hj1, hj2⟩ := List.getElem?_eq_some_iff.1 hj
  rw [bv, List.length_map, List.length_take] at hj1
  rw [show Addr.add ⟨g, 0, none⟩ j = (⟨g, j, none⟩ : Addr) from by simp [Addr.add]; omega, h.cellAt j (by omega), ← hj]
  simp [bv, show j < m by omega]
theorem own_keep {w w' : World} {B e sz n : Nat} {v : Value} {xs : List Value} (h : w.ownsRow B e sz v n xs) (hb : Below w.heap.size w w') : w'.ownsRow B e sz v n xs := by
  refine ⟨h.1, ?_⟩
  rcases h.2 with h2 | ⟨g, cap, cur, hv, hB, hh, r⟩
  · exact .inl h2
  · exact .inr ⟨g, cap, cur, hv, hB, (hb.block g (by
      rcases Nat.lt_or_ge g w.heap.size with h3 | h3
      · exact h3
      · rw [Array.getElem?_eq_none h3] at hh; simp at hh)).trans hh, r⟩
theorem q1 : ((sb [116, 0, 0, 0, 0]).toList == [116, 0, 0, 0, 0]) = true := by rw [Lib.toList_data]; decide
theorem q2 : ((sb [1, 1, 97, 7]).toList == [1, 1, 97, 7]) = true := by rw [Lib.toList_data]; decide
set_option maxRecDepth 100000 in
set_option maxHeartbeats 1000000 in
theorem known_any (w : World) : Calls Try.prog 11 #[] w fun e w' => e = .returned (.bool true) ∧ Below w.heap.size w w' := by
  have hq1 := q1
  have hq2 := q2
  go_enter Try.func11, Try.ntmps11
  go_wp2_with fail
  refine (encodeObj_tree_nil w).mono ?_
  rintro e w1 ⟨v1, rfl, ho1, hb1⟩
  have HO1 := Lib.hid ho1
  have HB1 := Lib.hid hb1
  have hsz1 := hb1.size
  clear ho1 hb1
  go_wp2_with fail
  refine (encodeTree_one w1.heap.size (7 :: List.replicate 31 0) (by decide) (by decide) _ (al_lt w1 _) (ent_range ⟨#[97]⟩ 1 (7 :: List.replicate 31 0) w1 87)).mono ?_
  rintro e w2 ⟨v2, rfl, ho2, hb2⟩
  have hb2' : Below w1.heap.size w1 w2 := al_below hb2
  have HB2 := Lib.hid (HB1.out.trans (hb2'.mono hsz1))
  have ho1 := own_keep HO1.out hb2'
  obtain ⟨g1, c1, rfl, hc1, hd1⟩ := own_open ho1 (by omega)
  obtain ⟨g2, c2, rfl, hc2, hd2⟩ := own_open ho2 (by omega)
  have hv1 := conv_own ho1 5 (by omega)
  have hv2 := conv_own ho2 4 (by omega)
  rw [show List.take 5 [116, 0, 0, 0, 0] = [(116 : Int), 0, 0, 0, 0] from rfl] at hv1
  rw [show List.take 4 (1 :: 1 :: 97 :: 7 :: List.replicate 31 0) = [(1 : Int), 1, 97, 7] from rfl] at hv2
  clear ho1 ho2 hb2 hb2' HO1
  go_wp2
  go_ret
  exact ⟨rfl, HB2.out⟩
end Go.Proofs.Ytmcmapgllaopmaa.Cd
end

section
namespace Go.Proofs.Ytmcmapgllaopmaa.Cd
open Go.RowKit
set_option linter.unusedVariables false
/-- a row that is stored whole -/
theorem row_setCells (b : Nat) (t : TypeId) (n : Nat) : ∀ (vs : List Value) (o : Nat) (w : World) (f : Nat → Value), w.rowIs b t n f → (w.setCells b o vs).rowIs b t n (fun j => if o ≤ j ∧ j < o + vs.length then vs.getD (j - o) undef else f j)
  | [], o, w, f, h => h.congr fun j hj => by rw [if_neg (by simp)]
  | v :: vs, o, w, f, h => by
    refine (row_setCells b t n vs (o + 1) _ _ (h.set o v)).congr fun j hj => ?_
    by_cases e : j = o
    · subst e
      rw [if_neg (by omega), if_pos rfl, if_pos (by simp)]
      simp
    · by_cases e2 : o + 1 ≤ j ∧ j < o + 1 + vs.length
      · rw [if_pos e2, if_pos (by simp; omega)]
        have : j - o = (j - (o + 1)) + 1 := by omega
        rw [this]
        simp
      · rw [if_neg e2, if_neg e, if_neg (by simp; omega)]
theorem row_new (w : World) (z : Array Value) (t : TypeId) : (w.alloc (.cells z t)).rowIs w.heap.size t z.size (fun i => z.getD i undef) :=
  ⟨z, by show (w.heap.push _)[w.heap.size]? = _; simp, rfl, fun i hi => by simp [hi]⟩
/-- a row's block, its cells told by a list -/
theorem row_block {w : World} {b : Nat} {t : TypeId} {n : Nat} {f : Nat → Value} (h : w.rowIs b t n f) (l : List Value) (hl : l.length = n) (hf : ∀ i, i < n → f i = l.getD i undef) : w.heap[b]? = some (.cells l.toArray t (0, 0)) := by
  obtain ⟨c, hb, hn, hc⟩ := h
  have : c = l.toArray := by
    apply Array.ext_getElem?
    intro i
    by_cases hi : i < n
    · rw [hc i hi, hf i hi]
      simp [hl, hi]
    · rw [Array.getElem?_eq_none (by omega), Array.getElem?_eq_none (by simp; omega)]
  rw [hb, this]
theorem row_stored {w : World} {b : Nat} {t : TypeId} {n : Nat} {f : Nat → Value} (h : w.rowIs b t n f) (vs : List Value) (hl : vs.length = n) : (w.setCells b 0 vs).heap[b]? = some (.cells vs.toArray t (0, 0)) :=
  row_block (row_setCells b t n vs 0 w f h) vs hl (fun i hi => by rw [if_pos (by omega), Nat.sub_zero])
/-- bytes laid over the waiting ones -/
def layF (F : Nat → Value) (o : Nat) (vs : List Value) : Nat → Value := fun j => if o ≤ j ∧ j < o + vs.length then vs.getD (j - o) undef else F j
theorem row_lay {w : World} {b : Nat} {t : TypeId} {n : Nat} {F : Nat → Value} (h : w.rowIs b t n F) (o : Nat) (vs : List Value) : (w.setCells b o vs).rowIs b t n (layF F o vs) := row_setCells b t n vs o w F h
theorem zeros_at (N i : Nat) (h : i < N) : (bv (List.replicate N 0)).toArray.getD i undef = .int .u8 0 := by simp [bv, h]
theorem row_apart {b E : Nat} {t : TypeId} {n : Nat} {F : Nat → Value} (hne : b ≠ E) : ∀ (vs : List Value) (o : Nat) (w : World), w.rowIs b t n F → (w.setCells E o vs).rowIs b t n F
  | [], _, _, h => h
  | v :: vs, o, w, h => row_apart hne vs (o + 1) _ (h.setOther hne v)
theorem bv_len (l : List Int) : (bv l).length = l.length := by rw [bv, List.length_map]
theorem row_zeros (w : World) (N : Nat) (t : TypeId) : (w.alloc (.cells (bv (List.replicate N 0)).toArray t)).rowIs w.heap.size t N (fun _ => .int .u8 0) := by
  have h := row_new w (bv (List.replicate N 0)).toArray t
  have hl : (bv (List.replicate N 0)).toArray.size = N := by simp [bv]
  rw [hl] at h
  exact h.congr fun i hi => zeros_at N i hi
theorem wp_copy_mid {w : World} {o : Oper} {a : Act} {K : Act → World → Prop} {Q : Exit → Act → World → Prop} (d s : Operand)
    (ho : o.op = .call { callee := .builtin .copy, args := #[d, s], argTypes := #[23, 23] })
    (dp sp : Option Addr) (dLen dCap sLen sCap : Nat) (hd : a.eval d = .slice dp dLen dCap) (hs : a.eval s = .slice sp sLen sCap)
    (g off : Nat) (cs : List Value) (hn : cs.length = Nat.min sLen dLen)
    (hpos : 0 < cs.length → dp = some ⟨g, off, none⟩ ∧ ∃ ad, sp = some ad ∧ ∀ j v, cs[j]? = some v → w.cell? (ad.add j) = some v)
    (hc : ∀ j, j < cs.length → (w.cell? ⟨g, off + j, none⟩).isSome = true) (hf : ∀ j, j < cs.length → w.frozen? ⟨g, off + j, none⟩ = false) (h1 : ∀ v ∈ cs, v.oneCell' = true)
    (h : K (a.put o.dst (goInt cs.length)) (w.setCells g off cs)) : o.wp Try.prog a w K Q := by
  have hz : (Try.prog.info? 5).map (·.size) = some 1 := by kernel_rfl
  by_cases h0 : cs.length = 0
  · obtain rfl : cs = [] := List.eq_nil_of_length_eq_zero h0
    have hrun := run_copy_none (P := Try.prog) w 23 23 o.type 5 dp sp dLen dCap sLen sCap Try.underlying23 hz (by simpa using hn.symm)
    unfold Oper.wp
    simp [execOp, ho, resolve, invoke, builtin, hd, hs, hrun, Result.andThen]
    exact h
  · obtain ⟨rfl, ad, rfl, hsrc⟩ := hpos (by omega)
    have hrun := run_copy_cells (P := Try.prog) w 23 23 o.type 5 g off dLen dCap ad sLen sCap cs Try.underlying23 hz hn hsrc hc hf h1
    unfold Oper.wp
    simp [execOp, ho, resolve, invoke, builtin, hd, hs, hrun, Result.andThen]
    exact h
/-- a slice of bytes that is read -/
structure RdB (w : World) (A : Option Addr) (n C : Nat) (l : List Int) : Prop where
  len : l.length = n
  cap : n ≤ C
  max : C ≤ 9223372036854775807
  big : n ≤ 140737488355328
  none : A = none → C = 0
  byte : ∀ i, i < n → 0 ≤ l.getD i 0 ∧ l.getD i 0 ≤ 255
  cell : ∀ x, A = some x → (0 < n → x.block < w.heap.size) ∧ ∀ i, i < n → w.cell? (x.add i) = some (.int .u8 (l.getD i 0))
theorem RdB.below {w w' : World} {A : Option Addr} {n C : Nat} {l : List Int} (h : RdB w A n C l) (hb : Below w.heap.size w w') : RdB w' A n C l :=
  ⟨h.len, h.cap, h.max, h.big, h.none, h.byte, fun x hx => by
    obtain ⟨h1, h2⟩ := h.cell x hx
    refine ⟨fun h0 => Nat.lt_of_lt_of_le (h1 h0) hb.size, fun i hi => ?_⟩
    rw [hb.cell (p := x.add i) (by have : (x.add i).block = x.block := by unfold Addr.add; split <;> rfl
                                   rw [this]; exact h1 (by omega))]
    exact h2 i hi⟩
theorem own_slice' {w : World} {B e sz n : Nat} {v : Value} {xs : List Value} (h : w.ownsRow B e sz v n xs) : ∃ A c, v = .slice A n c := by
  rcases h.2 with ⟨rfl, rfl⟩ | ⟨g, cap, cur, rfl, _⟩ <;> exact ⟨_, _, rfl⟩
theorem RdB.of_own {w : World} {B g n C : Nat} {l : List Int} (h : w.ownsRow B 5 1 (.slice (some ⟨g, 0, Option.none⟩) n C) n (bv l)) (hn : n ≤ 140737488355328) (hb : ∀ i, i < n → 0 ≤ l.getD i 0 ∧ l.getD i 0 ≤ 255) : RdB w (some ⟨g, 0, Option.none⟩) n C l := by
  have h1 := h.1
  rw [bv, List.length_map] at h1
  rcases h.2 with ⟨hv, _⟩ | ⟨g', cap, cur, hv, hg, hh, hc1, hc2, hc3, ht⟩
  · simp at hv
  · simp only [Value.slice.injEq, Option.some.injEq, Addr.mk.injEq, and_true, true_and] at hv
    obtain ⟨rfl, rfl⟩ := hv
    refine ⟨by omega, hc1, hc2, hn, (fun hn => by cases hn), hb, fun x hx => ?_⟩
    obtain rfl := Option.some.inj hx
    have hl : g < w.heap.size := by
      rcases Nat.lt_or_ge g w.heap.size with h | h
      · exact h
      · rw [Array.getElem?_eq_none h] at hh; simp at hh
    refine ⟨fun _ => hl, fun i hi => ?_⟩
    rw [show Addr.add ⟨g, 0, Option.none⟩ i = (⟨g, i, Option.none⟩ : Addr) from by simp [Addr.add]; omega, World.ownsRow.cellAt h i (by omega)]
    simp [bv, show i < l.length by omega]
theorem RdB.nil (w : World) : RdB w Option.none 0 0 [] := ⟨rfl, Nat.le_refl _, by omega, by omega, fun _ => rfl, fun i hi => absurd hi (by omega), fun x hx => by cases hx⟩
/-- any own row of bytes is read -/
theorem RdB.of_own' {w : World} {B n : Nat} {v : Value} {l : List Int} (h : w.ownsRow B 5 1 v n (bv l)) (hn : n ≤ 140737488355328) (hb : ∀ i, i < n → 0 ≤ l.getD i 0 ∧ l.getD i 0 ≤ 255) : ∃ A C, v = .slice A n C ∧ RdB w A n C l := by
  rcases h.2 with ⟨rfl, rfl⟩ | ⟨g, cap, cur, rfl, hg, hh, hc1, hc2, hc3, ht⟩
  · have h1 := h.1
    have : l = [] := List.eq_nil_of_length_eq_zero (by simpa [bv] using h1)
    subst this
    exact ⟨Option.none, 0, rfl, RdB.nil w⟩
  · exact ⟨_, _, rfl, RdB.of_own h hn hb⟩
/-- where its first cell lies -/
theorem RdB.at {w : World} {A : Option Addr} {n C : Nat} {l : List Int} (h : RdB w A n C l) (h0 : 0 < n) : ∃ g o, A = some ⟨g, o, Option.none⟩ ∧ g < w.heap.size ∧ ∀ i, i < n → w.cell? ⟨g, o + i, Option.none⟩ = some (.int .u8 (l.getD i 0)) := by
  cases hA : A with
  | none => have := h.none hA; have := h.cap; omega
  | some x =>
    obtain ⟨h1, h2⟩ := h.cell x hA
    obtain ⟨b, off, spot⟩ := x
    have hspot : spot = Option.none := by simpa [Addr.add] using World.cell?_spot (h2 0 h0)
    subst hspot
    exact ⟨b, off, rfl, h1 h0, fun i hi => by rw [← h2 i hi]; congr 1; simp [Addr.add]⟩
theorem RdB.of_own2 {w : World} {B n : Nat} {A : Option Addr} {C : Nat} {l : List Int} (h : w.ownsRow B 5 1 (.slice A n C) n (bv l)) (hn : n ≤ 140737488355328) (hb : ∀ i, i < n → 0 ≤ l.getD i 0 ∧ l.getD i 0 ≤ 255) : RdB w A n C l := by
  obtain ⟨A2, C2, he, hr⟩ := RdB.of_own' h hn hb
  simp only [Value.slice.injEq, true_and] at he
  obtain ⟨rfl, rfl⟩ := he
  exact hr
theorem conv_rd {w : World} {A : Option Addr} {n C : Nat} {l : List Int} (h : RdB w A n C l) : (convert 23 9 (.slice A n C)).run Try.prog w = .ok (.string (sb l)) w := by
  cases A with
  | none =>
    have hc := h.none rfl
    have hn : n = 0 := by have := h.cap; omega
    subst hn
    obtain rfl : l = [] := List.eq_nil_of_length_eq_zero h.len
    exact Lib.run_convert_nil_bytes w _ _ 5 C Try.underlying23 Try.underlying5 Try.underlying9
  | some a =>
    obtain ⟨h1, h2⟩ := h.cell a rfl
    have hl := h.len
    refine conv_cells w a l C n h.len ?_
    intro j u hj
    obtain ⟨hj1, hj2⟩ := List.getElem?_eq_some_iff.1 hj
    rw [bv, List.length_map] at hj1
    rw [h2 j (by omega), ← hj]
    simp [bv, hj1]
theorem wpList_append_rd (w : World) {ops : Array Oper} {rest : List Oper} {o : Oper} {a : Act} {Q : Exit → Act → World → Prop} (hgd : o.guard = none) (s x : Operand)
    (ho : o.op = .call { callee := .builtin .append, args := #[s, x], argTypes := #[23, 23] })
    (B : Nat) (v : Value) (n : Nat) (d : List Int) (hs : a.eval s = v) (hown : w.ownsRow B 5 1 v n (bv d))
    (A : Option Addr) (m c : Nat) (l : List Int) (hx : a.eval x = .slice A m c) (hsl : RdB w A m c l)
    (hbytes : (n + m) * 1 ≤ 140737488355328) (hbase : B ≤ w.heap.size)
    (h : ∀ A' C' w', w'.ownsRow B 5 1 (.slice A' (n + m) C') (n + m) (bv (d ++ l)) → Below B w w' → wpList Try.prog ops Q rest (a.put o.dst (.slice A' (n + m) C')) w') :
    wpList Try.prog ops Q (o :: rest) a w := by
  refine wpList_plain hgd fun K hK => ?_
  obtain ⟨i0, hi, hz0, hz1, hz2⟩ := info_parts info5
  have key : ∃ A' C' w', (Builtin.append_ #[23, 23] o.type #[v, .slice A m c]).run Try.prog w = .ok (.slice A' (n + m) C') w' ∧ w'.ownsRow B 5 1 (.slice A' (n + m) C') (n + m) (bv (d ++ l)) ∧ Below B w w' := by
    cases A with
    | none =>
      have hc := hsl.none rfl
      have hm : m = 0 := by have := hsl.cap; omega
      subst hm hc
      obtain rfl : l = [] := List.eq_nil_of_length_eq_zero hsl.len
      obtain ⟨A', C', rfl⟩ := own_slice' hown
      refine ⟨A', C', w, run_append_owned_none (P := Try.prog) w B 23 o.type 5 i0 1 Try.underlying23 hi _ _ _ hown, ?_, Below.refl B w⟩
      rw [List.append_nil]
      exact hown
    | some y =>
      obtain ⟨-, hcc⟩ := hsl.cell y rfl
      have hll := hsl.len
      have hnw : ∀ j u, (bv l)[j]? = some u → w.cell? (y.add j) = some u := by
        intro j u hj
        have hj1 := (List.getElem?_eq_some_iff.1 hj).1
        rw [bv, List.length_map, hll] at hj1
        rw [hcc j hj1, ← hj]
        simp [bv, hll, hj1]
      obtain ⟨v', w', hr, h2, h3, h4⟩ := run_append_own (P := Try.prog) w B 23 o.type 5 i0 (.int .u8 0) 1 1 Try.underlying23 hi hz0 hz1 hz2 rfl (by decide) v n (bv d) hown y m c (bv l) (by rw [bv, List.length_map, hll]; omega) hnw (bv_one l) (by unfold maxLen; omega) hbytes hbase
      obtain ⟨A', C', rfl⟩ := own_slice' h2
      exact ⟨A', C', w', hr, by rw [show bv (d ++ l) = bv d ++ bv l from by simp [bv]]; exact h2, below_grown hbase hown h3⟩
  obtain ⟨A', C', w', hr, h2, h3⟩ := key
  unfold Oper.wp execOp
  simp only [ho, resolve, invoke, builtin, Sem.run_bind, Sem.run_pure, Result.andThen_ok, List.map_toArray, List.map_cons, List.map_nil, hs, hx, hr]
  exact hK _ _ (h A' C' w' h2 h3)
end Go.Proofs.Ytmcmapgllaopmaa.Cd
end

section
namespace Go.Proofs.Ytmcmapgllaopmaa.Cd
open Go.RowKit
set_option linter.unusedVariables false
/-- the reader's cells: what it goes through, where it is, what failed; E: the cells behind -/
def rG (A : Option Addr) (L C at' : Nat) (f : Int) (E : Nat → Value) : Nat → Value
  | 0 => .slice A L C
  | 1 => .int .i64 (at' : Int)
  | 2 => .int .i64 f
  | j + 3 => E (j + 3)
/-- a reader at 'at', over the bytes l -/
structure Rdr (w : World) (R N : Nat) (t : TypeId) (A : Option Addr) (L C : Nat) (l : List Int) (at' : Nat) (f : Int) (E : Nat → Value) : Prop where
  row : w.rowIs R t N (rG A L C at' f E)
  hN : 3 ≤ N
  rd : RdB w A L C l
  apart : ∀ x, A = some x → 0 < L → x.block ≠ R
  le : at' ≤ L
theorem cell_grown {w w' : World} {R : Nat} (hg : w.grownBy w' (some R)) {p : Addr} (hp : p.block < w.heap.size) (hne : p.block ≠ R) : w'.cell? p = w.cell? p := by
  have h := hg.block p.block hp (fun e => hne (Option.some.inj e))
  unfold World.cell?
  rw [h]
theorem RdB.grown {w w' : World} {A : Option Addr} {n C : Nat} {l : List Int} {R : Nat} (h : RdB w A n C l) (hg : w.grownBy w' (some R)) (hne : ∀ x, A = some x → 0 < n → x.block ≠ R) : RdB w' A n C l :=
  ⟨h.len, h.cap, h.max, h.big, h.none, h.byte, fun x hx => by
    obtain ⟨h1, h2⟩ := h.cell x hx
    refine ⟨fun h0 => Nat.lt_of_lt_of_le (h1 h0) hg.size, fun i hi => ?_⟩
    have hb : (x.add i).block = x.block := by unfold Addr.add; split <;> rfl
    rw [cell_grown hg (by rw [hb]; exact h1 (by omega)) (by rw [hb]; exact hne x hx (by omega))]
    exact h2 i hi⟩
theorem grown_set (w : World) (R i : Nat) (v : Value) : w.grownBy (w.setCell ⟨R, i, none⟩ v) (some R) :=
  ⟨rfl, rfl, rfl, by simp [World.setCell], fun k hk hne => Below.heap_setCell w ⟨R, i, none⟩ v k (fun e => hne (by rw [e]))⟩
theorem grown_trans {a b c : World} {H : Nat} (h : a.grownBy b (some H)) (k : b.grownBy c (some H)) : a.grownBy c (some H) :=
  ⟨k.os.trans h.os, k.tape.trans h.tape, k.output.trans h.output, Nat.le_trans h.size k.size, fun i hi hne => (k.block i (Nat.lt_of_lt_of_le hi h.size) hne).trans (h.block i hi hne)⟩
theorem Rdr.setF {w : World} {R N : Nat} {t : TypeId} {A : Option Addr} {L C : Nat} {l : List Int} {at' : Nat} {f : Int} {E : Nat → Value} (h : Rdr w R N t A L C l at' f E) (g : Int) : Rdr (w.setCell ⟨R, 2, none⟩ (.int .i64 g)) R N t A L C l at' g E :=
  ⟨(h.row.set 2 _).congr (fun j _ => by
    match j with
    | 0 => rfl
    | 1 => rfl
    | 2 => rfl
    | j + 3 => rfl), h.hN, h.rd.grown (grown_set w R 2 _) h.apart, h.apart, h.le⟩
theorem Rdr.setAt {w : World} {R N : Nat} {t : TypeId} {A : Option Addr} {L C : Nat} {l : List Int} {at' : Nat} {f : Int} {E : Nat → Value} (h : Rdr w R N t A L C l at' f E) (a : Nat) (ha : a ≤ L) : Rdr (w.setCell ⟨R, 1, none⟩ (.int .i64 (a : Int))) R N t A L C l a f E :=
  ⟨(h.row.set 1 _).congr (fun j _ => by
    match j with
    | 0 => rfl
    | 1 => rfl
    | 2 => rfl
    | j + 3 => rfl), h.hN, h.rd.grown (grown_set w R 1 _) h.apart, h.apart, ha⟩
theorem Rdr.drewN {w : World} {R N : Nat} {t : TypeId} {A : Option Addr} {L C : Nat} {l : List Int} {at' : Nat} {f : Int} {E : Nat → Value} (h : Rdr w R N t A L C l at' f E) (n : Nat) : Rdr (w.drewN n) R N t A L C l at' f E :=
  ⟨h.row, h.hN, ⟨h.rd.len, h.rd.cap, h.rd.max, h.rd.big, h.rd.none, h.rd.byte, h.rd.cell⟩, h.apart, h.le⟩
theorem Rdr.below {w w' : World} {R N : Nat} {t : TypeId} {A : Option Addr} {L C : Nat} {l : List Int} {at' : Nat} {f : Int} {E : Nat → Value} (h : Rdr w R N t A L C l at' f E) (hb : Below w.heap.size w w') : Rdr w' R N t A L C l at' f E :=
  ⟨h.row.of_block (hb.block R h.row.lt), h.hN, h.rd.below hb, h.apart, h.le⟩
theorem Rdr.c0 {w : World} {R N : Nat} {t : TypeId} {A : Option Addr} {L C : Nat} {l : List Int} {at' : Nat} {f : Int} {E : Nat → Value} (h : Rdr w R N t A L C l at' f E) : w.cell? ⟨R, 0, none⟩ = some (.slice A L C) := h.row.cell (by have := h.hN; omega)
theorem Rdr.c1 {w : World} {R N : Nat} {t : TypeId} {A : Option Addr} {L C : Nat} {l : List Int} {at' : Nat} {f : Int} {E : Nat → Value} (h : Rdr w R N t A L C l at' f E) : w.cell? ⟨R, 1, none⟩ = some (.int .i64 (at' : Int)) := h.row.cell (by have := h.hN; omega)
theorem Rdr.c2 {w : World} {R N : Nat} {t : TypeId} {A : Option Addr} {L C : Nat} {l : List Int} {at' : Nat} {f : Int} {E : Nat → Value} (h : Rdr w R N t A L C l at' f E) : w.cell? ⟨R, 2, none⟩ = some (.int .i64 f) := h.row.cell (by have := h.hN; omega)
/-- what failed first -/
def fl (f e : Int) : Int := if f = 0 then e else f
theorem fail_any (R N : Nat) (t : TypeId) (A : Option Addr) (L C : Nat) (l : List Int) (at' : Nat) (f e : Int) (E : Nat → Value) (w : World) (h : Rdr w R N t A L C l at' f E) :
    Calls Try.prog 85 #[.pointer (some ⟨R, 0, none⟩), .int .i64 e] w fun e' w' => e' = .returned (.tuple #[]) ∧ Rdr w' R N t A L C l at' (fl f e) E ∧ w.grownBy w' (some R) := by
  have hc := h.c2
  have hf := h.row.frozen 2
  have HS := Lib.hid (h.setF e)
  have H := Lib.hid h
  have HG := Lib.hid (grown_set w R 2 (.int .i64 e))
  have HG0 := Lib.hid (World.grownBy.refl w (some R))
  clear h
  by_cases h0 : f = 0
  · have e1 : fl f e = e := by unfold fl; rw [if_pos h0]
    rw [e1]
    have hd : (f == 0) = true := by simp [h0]
    clear e1 h0
    go_enter Try.func85, Try.ntmps85
    go_wp2
    go_end0
    exact ⟨rfl, HS.out, HG.out⟩
  · have e1 : fl f e = f := by unfold fl; rw [if_neg h0]
    rw [e1]
    have hd : (f == 0) = false := by simp [h0]
    clear e1 h0
    go_enter Try.func85, Try.ntmps85
    go_wp2
    go_end0
    exact ⟨rfl, H.out, HG0.out⟩
theorem ok_any (R N : Nat) (t : TypeId) (A : Option Addr) (L C : Nat) (l : List Int) (at' : Nat) (f : Int) (E : Nat → Value) (w : World) (h : Rdr w R N t A L C l at' f E) :
    Calls Try.prog 46 #[.pointer (some ⟨R, 0, none⟩)] w fun e' w' => e' = .returned (.bool (f == 0)) ∧ w' = w := by
  have hc := h.c2
  clear h
  go_enter Try.func46, Try.ntmps46
  go_wp2
  go_ret
  exact ⟨rfl, rfl⟩
end Go.Proofs.Ytmcmapgllaopmaa.Cd
end

section
namespace Go.Proofs.Ytmcmapgllaopmaa.Cd
open Go.RowKit
set_option linter.unusedVariables false
def tkF (f : Int) (at' L n : Nat) : Int := if f = 0 ∧ L - at' < n then 14 else f
def tkA (f : Int) (at' L n : Nat) : Nat := if tkF f at' L n = 0 then at' + n else at'
def tkL (f : Int) (l : List Int) (at' L n : Nat) : List Int := if tkF f at' L n = 0 then (l.drop at').take n else []
/-- the bytes told, and the reader behind -/
def TakeRet (R N : Nat) (t : TypeId) (A : Option Addr) (L C : Nat) (l : List Int) (at' : Nat) (f : Int) (E : Nat → Value) (n : Nat) (w : World) (e : Ending) (w' : World) : Prop :=
  ∃ A' C', e = .returned (.slice A' (tkL f l at' L n).length C') ∧ RdB w' A' (tkL f l at' L n).length C' (tkL f l at' L n) ∧ (∀ K : Nat, (∀ x, A = some x → 0 < L → x.block ≠ K) → ∀ x, A' = some x → 0 < (tkL f l at' L n).length → x.block ≠ K) ∧
    Rdr w' R N t A L C l (tkA f at' L n) (tkF f at' L n) E ∧ w.grownBy w' (some R)
theorem tk_no {f : Int} (h : f ≠ 0) (l : List Int) (at' L n : Nat) : tkF f at' L n = f ∧ tkA f at' L n = at' ∧ tkL f l at' L n = [] := by
  have e : tkF f at' L n = f := by unfold tkF; rw [if_neg (fun hh => h hh.1)]
  refine ⟨e, ?_, ?_⟩
  · unfold tkA; rw [e, if_neg h]
  · unfold tkL; rw [e, if_neg h]
theorem tk_cut {f : Int} (h : f = 0) (l : List Int) (at' L n : Nat) (hn : L - at' < n) : tkF f at' L n = 14 ∧ tkA f at' L n = at' ∧ tkL f l at' L n = [] := by
  have e : tkF f at' L n = 14 := by unfold tkF; rw [if_pos ⟨h, hn⟩]
  refine ⟨e, ?_, ?_⟩
  · unfold tkA; rw [e, if_neg (by decide)]
  · unfold tkL; rw [e, if_neg (by decide)]
theorem tk_yes {f : Int} (h : f = 0) (l : List Int) (at' L n : Nat) (hn : n ≤ L - at') : tkF f at' L n = 0 ∧ tkA f at' L n = at' + n ∧ tkL f l at' L n = (l.drop at').take n := by
  have e : tkF f at' L n = 0 := by unfold tkF; rw [if_neg (fun hh => by omega), h]
  refine ⟨e, ?_, ?_⟩
  · unfold tkA; rw [e, if_pos rfl]
  · unfold tkL; rw [e, if_pos rfl]
theorem takeRet_of {R N : Nat} {t : TypeId} {A : Option Addr} {L C : Nat} {l : List Int} {at' : Nat} {f : Int} {E : Nat → Value} {n : Nat} {w : World} {e : Ending} {w' : World} {f2 : Int} {a2 : Nat} {l2 : List Int} (h : tkF f at' L n = f2 ∧ tkA f at' L n = a2 ∧ tkL f l at' L n = l2)
    {A' : Option Addr} {C' m : Nat} (hm : l2.length = m) (he : e = .returned (.slice A' m C')) (hr : RdB w' A' m C' l2) (hne : ∀ K : Nat, (∀ x, A = some x → 0 < L → x.block ≠ K) → ∀ x, A' = some x → 0 < m → x.block ≠ K) (hR : Rdr w' R N t A L C l a2 f2 E) (hg : w.grownBy w' (some R)) : TakeRet R N t A L C l at' f E n w e w' := by
  obtain ⟨rfl, rfl, rfl⟩ := h
  subst hm
  exact ⟨A', C', he, hr, hne, hR, hg⟩
theorem add_at (g o i p : Nat) (h : p = o + i) : Addr.add ⟨g, o, none⟩ i = (⟨g, p, none⟩ : Addr) := by
  unfold Addr.add
  subst h
  by_cases hz : i = 0
  · rw [if_pos hz, hz]; rfl
  · rw [if_neg hz]
theorem add_add' (x : Addr) (i j : Nat) : (x.add i).add j = x.add (i + j) := by
  unfold Addr.add
  by_cases hi : i = 0
  · subst hi; simp
  · by_cases hj : j = 0
    · subst hj; simp
    · simp [hi, hj, Nat.add_assoc]
theorem add_block (x : Addr) (i : Nat) : (x.add i).block = x.block := by unfold Addr.add; split <;> rfl
/-- a cut of bytes that are read -/
theorem rd_cut {w : World} {A : Option Addr} {L C : Nat} {l : List Int} (h : RdB w A L C l) (at' n : Nat) (hn : n ≤ L - at') (ha : at' ≤ L) (A' : Option Addr) (hA : A' = if C = at' then A else A.map (fun x => x.add at')) : RdB w A' n (C - at') ((l.drop at').take n) := by
  have hl := h.len
  have hc := h.cap
  have hm := h.max
  have hbg := h.big
  refine ⟨by rw [List.length_take, List.length_drop]; omega, by omega, by omega, by omega, ?_, ?_, ?_⟩
  · intro he
    rw [hA] at he
    by_cases e : C = at'
    · omega
    · rw [if_neg e] at he
      cases A with
      | none => have := h.none rfl; omega
      | some x => cases he
  · intro i hi
    have := h.byte (at' + i) (by omega)
    simpa [List.getD, hi] using this
  · intro x hx
    by_cases hz : n = 0
    · exact ⟨fun h0 => absurd h0 (by omega), fun i hi => absurd hi (by omega)⟩
    · rw [hA, if_neg (by omega)] at hx
      cases A with
      | none => cases hx
      | some y =>
        obtain rfl := Option.some.inj hx
        obtain ⟨h1, h2⟩ := h.cell y rfl
        refine ⟨fun _ => by rw [add_block]; exact h1 (by omega), fun i hi => ?_⟩
        rw [add_add', h2 (at' + i) (by omega)]
        simp [List.getD, hi]
theorem cut_apart {A : Option Addr} {L C R : Nat} (h : ∀ x, A = some x → 0 < L → x.block ≠ R) (at' n : Nat) (hn : n ≤ L - at') (A' : Option Addr) (hA : A' = if C = at' then A else A.map (fun x => x.add at')) : ∀ x, A' = some x → 0 < n → x.block ≠ R := by
  intro x hx h0
  rw [hA] at hx
  by_cases e : C = at'
  · rw [if_pos e] at hx; exact h x hx (by omega)
  · rw [if_neg e] at hx
    cases A with
    | none => cases hx
    | some y =>
      obtain rfl := Option.some.inj hx
      rw [add_block]; exact h y rfl (by omega)
theorem rd_empty (w : World) : RdB w none 0 0 [] := RdB.nil w
set_option maxHeartbeats 1000000 in
theorem take_any (R N : Nat) (t : TypeId) (A : Option Addr) (L C : Nat) (l : List Int) (at' : Nat) (f : Int) (E : Nat → Value) (n : Nat) (w : World) (h : Rdr w R N t A L C l at' f E) (hn : n ≤ 140737488355328) :
    Calls Try.prog 83 #[.pointer (some ⟨R, 0, none⟩), .int .i64 n] w (TakeRet R N t A L C l at' f E n w) := by
  have H := Lib.hid h
  have hle := h.le
  have hbig := h.rd.big
  have hcap := h.rd.cap
  have hmax := h.rd.max
  have hc0 := h.c0
  have hc1 := h.c1
  have HG0 := Lib.hid (World.grownBy.refl w (some R))
  have HOk := Lib.hid (fun (W : World) (g : Int) (a : Nat) (h : Rdr W R N t A L C l a g E) => ok_any R N t A L C l a g E W h)
  clear h
  by_cases h0 : f = 0
  · subst h0
    have HO1 : Hid (∀ n, Calls Try.prog 46 #[.pointer (some ⟨R, 0, none⟩)] (w.drewN n) fun e' w' => e' = .returned (.bool true) ∧ w' = w.drewN n) := Lib.hid (fun n => HOk.out _ 0 at' (H.out.drewN n))
    by_cases hcut : L - at' < n
    · have HT := Lib.hid (tk_cut (f := 0) rfl l at' L n hcut)
      have hdc : decide ((L : Int) - (at' : Int) < (n : Int)) = true := by simp; omega
      have HF := Lib.hid (fun k => fail_any R N t A L C l at' 0 14 E (w.drewN k) (H.out.drewN k))
      go_enter Try.func83, Try.ntmps83
      go_wp2_with fail
      go_quiet ((go_at_call 46; with_reducible exact Calls.quiet_of_same (HO1.out _)))
      go_wp2_with fail
      refine (HF.out _).mono ?_
      rintro e w1 ⟨rfl, hR, hg⟩
      have HR := Lib.hid hR
      have HG := Lib.hid (show w.grownBy w1 (some R) from ⟨hg.os, hg.tape, hg.output, hg.size, hg.block⟩)
      have HK : Hid (Calls Try.prog 46 #[.pointer (some ⟨R, 0, none⟩)] w1 fun e' w' => e' = .returned (.bool false) ∧ w' = w1) := Lib.hid (HOk.out w1 14 at' hR)
      clear hR hg HF HO1 HOk
      go_wp2_with fail
      refine HK.out.mono ?_
      rintro e w' ⟨rfl, rfl⟩
      go_wp2_with fail
      go_ret
      exact takeRet_of HT.out (m := 0) rfl rfl (rd_empty _) (fun K _ x hx => by cases hx) HR.out HG.out
    · have HT := Lib.hid (tk_yes (f := 0) rfl l at' L n (by omega))
      have hdc : decide ((L : Int) - (at' : Int) < (n : Int)) = false := by simp; omega
      have HK : Hid (∀ k, Calls Try.prog 46 #[.pointer (some ⟨R, 0, none⟩)] (w.drewN k) fun e' w' => e' = .returned (.bool true) ∧ w' = w.drewN k) := HO1
      obtain ⟨a2, ha2⟩ : ∃ a2, a2 = at' + n := ⟨_, rfl⟩
      have i1 : (at' : Int) + (n : Int) = (a2 : Int) := by omega
      have i2 : (a2 : Int) - (n : Int) = (at' : Int) := by omega
      have z1 : (0 : Int) ≤ (a2 : Int) := by omega
      have z2 : (a2 : Int) ≤ (L : Int) := by omega
      have z3 : (a2 : Int) ≤ (C : Int) := by omega
      have z4 : (at' : Int) ≤ (a2 : Int) := by omega
      have w1' : IntKind.i64.wrap (a2 : Int) = (a2 : Int) := IntWalk.i64_in _ (by omega)
      have w2' : IntKind.i64.wrap (at' : Int) = (at' : Int) := IntWalk.i64_in _ (by omega)
      have HF := Lib.hid (H.out.row.frozen 1)
      have HS := Lib.hid (fun k => (H.out.drewN k).setAt a2 (by omega))
      have HGs := Lib.hid (fun k => show w.grownBy ((w.drewN k).setCell ⟨R, 1, none⟩ (.int .i64 (a2 : Int))) (some R) from ⟨(grown_set (w.drewN k) R 1 _).os, (grown_set (w.drewN k) R 1 _).tape, (grown_set (w.drewN k) R 1 _).output, (grown_set (w.drewN k) R 1 _).size, (grown_set (w.drewN k) R 1 _).block⟩)
      have hfz : w.frozen? ⟨R, 1, none⟩ = false := HF.out
      have HA2 := Lib.hid ha2
      clear HF HOk ha2
      go_enter Try.func83, Try.ntmps83
      go_wp2_with fail
      go_quiet ((go_at_call 46; with_reducible exact Calls.quiet_of_same (HO1.out _)))
      go_wp2_with fail
      refine (HK.out _).mono ?_
      rintro e w' ⟨rfl, rfl⟩
      go_wp2_with fail
      have HS2 := Lib.hid (HS.out nq)
      have HG2 := Lib.hid (HGs.out nq)
      have hc0' := (HS.out nq).c0
      have hc1' := (HS.out nq).c1
      obtain ⟨A2, hA2⟩ : ∃ A2, A2 = (if C = at' then A else A.map (fun x => x.add at')) := ⟨_, rfl⟩
      have HRd := Lib.hid (rd_cut HS2.out.rd at' n (by omega) hle A2 hA2)
      have HNe := Lib.hid (fun (K : Nat) (hK : ∀ x, A = some x → 0 < L → x.block ≠ K) => cut_apart hK at' n (by omega) A2 hA2)
      have hcut2 := hA2.symm
      clear hA2 HS HGs hc0 hc1 H hfz HG0 HO1 HK
      generalize World.setCell _ _ _ = W at *
      go_quiet (fail)
      go_wp2_with fail
      go_ret
      have hm : a2 - at' = n := by have := HA2.out; omega
      have hT := HT.out
      rw [← HA2.out] at hT
      refine takeRet_of hT (m := a2 - at') ?_ rfl ?_ ?_ (HS2.out.drewN _) ⟨HG2.out.os, HG2.out.tape, HG2.out.output, HG2.out.size, HG2.out.block⟩
      · rw [hm]; exact HRd.out.len
      · rw [hm]; exact ⟨HRd.out.len, HRd.out.cap, HRd.out.max, HRd.out.big, HRd.out.none, HRd.out.byte, HRd.out.cell⟩
      · rw [hm]; exact HNe.out
  · have HT := Lib.hid (tk_no h0 l at' L n)
    have hd : (f == 0) = false := by simp [h0]
    have HO1 : Hid (∀ n, Calls Try.prog 46 #[.pointer (some ⟨R, 0, none⟩)] (w.drewN n) fun e' w' => e' = .returned (.bool false) ∧ w' = w.drewN n) := Lib.hid (fun n => by
      have h := HOk.out _ f at' (H.out.drewN n)
      rw [hd] at h
      exact h)
    clear h0 hd HOk
    go_enter Try.func83, Try.ntmps83
    go_wp2_with fail
    go_quiet ((go_at_call 46; with_reducible exact Calls.quiet_of_same (HO1.out _)))
    go_wp2_with fail
    refine (HO1.out _).mono ?_
    rintro e w' ⟨rfl, rfl⟩
    go_wp2_with fail
    go_ret
    exact takeRet_of HT.out (m := 0) rfl rfl (rd_empty _) (fun K _ x hx => by cases hx) (H.out.drewN _) ⟨HG0.out.os, HG0.out.tape, HG0.out.output, HG0.out.size, HG0.out.block⟩
end Go.Proofs.Ytmcmapgllaopmaa.Cd
end

section
namespace Go.Proofs.Ytmcmapgllaopmaa.Cd
open Go.RowKit
set_option linter.unusedVariables false
/-- a number out of bytes -/
def nv (l : List Int) : Int := l.foldl (fun x c => x * 256 + c) 0
theorem nv_snoc (l : List Int) (c : Int) : nv (l ++ [c]) = nv l * 256 + c := by simp [nv]
theorem nv_bound : ∀ (k : Nat) (l : List Int), l.length ≤ k → (∀ i, i < l.length → 0 ≤ l.getD i 0 ∧ l.getD i 0 ≤ 255) → 0 ≤ nv l ∧ nv l < 256 ^ k := by
  intro k
  induction k with
  | zero =>
    intro l hl _
    obtain rfl : l = [] := List.eq_nil_of_length_eq_zero (by omega)
    simp [nv]
  | succ k ih =>
    intro l hl hb
    rcases List.eq_nil_or_concat l with rfl | ⟨m, c, rfl⟩
    · refine ⟨by simp [nv], ?_⟩
      show (0 : Int) < 256 ^ (k + 1)
      exact Int.pow_pos (by decide)
    · rw [List.concat_eq_append] at *
      have h1 := ih m (by simp at hl; omega) (fun i hi => by
        have := hb i (by simp; omega)
        simpa [List.getD, List.getElem?_append_left hi] using this)
      have h2 := hb m.length (by simp)
      have h3 : (m ++ [c]).getD m.length 0 = c := by simp [List.getD]
      rw [h3] at h2
      rw [nv_snoc, Int.pow_succ]
      omega
theorem bits_or_i64_nat (a b : Nat) (ha : a < 2 ^ 62) (hb : b < 2 ^ 62) : bits .or .i64 (a : Int) (b : Int) = ((a ||| b : Nat) : Int) := by
  have hx : a ||| b < 2 ^ 62 := Nat.or_lt_two_pow ha hb
  have h1 : (BitVec.ofInt 64 (a : Int)).toNat = a := by
    rw [BitVec.ofInt_natCast, BitVec.toNat_ofNat]; exact Nat.mod_eq_of_lt (by omega)
  have h2 : (BitVec.ofInt 64 (b : Int)).toNat = b := by
    rw [BitVec.ofInt_natCast, BitVec.toNat_ofNat]; exact Nat.mod_eq_of_lt (by omega)
  show IntKind.i64.wrap ((BitVec.ofInt 64 (a : Int) ||| BitVec.ofInt 64 (b : Int)).toNat : Int) = _
  rw [BitVec.toNat_or, h1, h2]
  exact IntWalk.i64_in _ (by omega)
theorem or_low (x c : Int) (h0 : 0 ≤ x) (h1 : x < 16777216) (h2 : 0 ≤ c) (h3 : c ≤ 255) : bits .or .i64 (x * 256) c = x * 256 + c := by
  obtain ⟨a, rfl⟩ : ∃ a : Nat, x = a := ⟨x.toNat, by omega⟩
  obtain ⟨b, rfl⟩ : ∃ b : Nat, c = b := ⟨c.toNat, by omega⟩
  have e : ((a : Int) * 256) = ((a * 256 : Nat) : Int) := by simp
  rw [e, bits_or_i64_nat _ _ (by omega) (by omega)]
  have h := Nat.shiftLeft_add_eq_or_of_lt (show b < 2 ^ 8 by omega) a
  rw [Nat.shiftLeft_eq] at h
  have h2 : a * 256 ||| b = a * 256 + b := h.symm
  rw [h2]
  simp
/-- a reader's answer v, and the reader behind -/
def NumRet (R N : Nat) (t : TypeId) (A : Option Addr) (L C : Nat) (l : List Int) (at' : Nat) (f : Int) (E : Nat → Value) (n : Nat) (v : Value) (w : World) (e : Ending) (w' : World) : Prop :=
  e = .returned v ∧ Rdr w' R N t A L C l (tkA f at' L n) (tkF f at' L n) E ∧ w.grownBy w' (some R)
theorem nv_small (l : List Int) (k : Nat) (hk : k < 4) (hl : l.length ≤ k) (hb : ∀ i, i < l.length → 0 ≤ l.getD i 0 ∧ l.getD i 0 ≤ 255) : 0 ≤ nv l ∧ nv l < 16777216 := by
  have h := nv_bound 3 l (by omega) hb
  exact h
theorem take_getD (l : List Int) (k i : Nat) (h : i < k) : (l.take k).getD i 0 = l.getD i 0 := by simp [List.getD, h]
theorem nv_step (l : List Int) (k : Nat) (h : k < l.length) : nv (l.take (k + 1)) = nv (l.take k) * 256 + l.getD k 0 := by
  rw [List.take_succ_eq_append_getElem h, nv_snoc]
  simp [List.getD, h]
set_option maxHeartbeats 1000000 in
theorem number_r (R N : Nat) (t : TypeId) (A : Option Addr) (L C : Nat) (l : List Int) (at' : Nat) (f : Int) (E : Nat → Value) (n : Nat) (w : World) (h : Rdr w R N t A L C l at' f E) (hn : n ≤ 4) :
    Calls Try.prog 62 #[.pointer (some ⟨R, 0, none⟩), .int .i64 n] w (NumRet R N t A L C l at' f E n (.int .i64 (nv (tkL f l at' L n))) w) := by
  have HT := Lib.hid (take_any R N t A L C l at' f E n w h (by omega))
  have hlen : (tkL f l at' L n).length ≤ 4 := by
    unfold tkL
    split
    · rw [List.length_take]; omega
    · simp
  clear h
  generalize hT : tkL f l at' L n = T at *
  go_enter Try.func62, Try.ntmps62
  go_wp2_with fail
  refine HT.out.mono ?_
  rintro e w1 ⟨A', C', rfl, hrd, hne, hR, hg⟩
  rw [hT] at hrd hne ⊢
  have HRd := Lib.hid hrd
  have HR := Lib.hid hR
  have HG := Lib.hid hg
  have hcap := hrd.cap
  have hmax := hrd.max
  clear hrd hne hR hg HT hT
  go_wp2_with fail
  go_loop [5, 12] (fun s5 s12 => ∃ k : Nat, s5 = .int .i64 (nv (T.take k)) ∧ s12 = .int .i64 k ∧ k ≤ T.length) (fun _ s12 => T.length - (intOf s12).toNat)
  case atStart => exact ⟨0, rfl, rfl, Nat.zero_le _⟩
  case round =>
    obtain ⟨k, rfl, rfl, hk⟩ := hrel
    by_cases hlt : k < T.length
    · obtain ⟨g, o, rfl, hgl, hcc⟩ := HRd.out.at (by omega)
      have hc : w1.cell? ⟨g, o + k, none⟩ = some (.int .u8 (T.getD k 0)) := hcc k hlt
      have hb := HRd.out.byte k hlt
      have hb0 := hb.1
      have hb1 := hb.2
      have hn3 := nv_small (T.take k) k (by omega) (by rw [List.length_take]; omega) (fun i hi => by
        rw [List.length_take] at hi
        rw [take_getD T k i (by omega)]
        exact HRd.out.byte i (by omega))
      have hx0 := hn3.1
      have hx1 := hn3.2
      have hor := or_low (nv (T.take k)) (T.getD k 0) hx0 hx1 hb0 hb1
      rw [← nv_step T k hlt] at hor
      have HX := Lib.hid (show nv (T.take (k + 1)) = nv (T.take (k + 1)) from rfl)
      have hk0 : (0 : Int) ≤ (k : Int) := by omega
      have hkl : (k : Int) < (T.length : Int) := by omega
      clear hcc hb hn3 HX
      generalize hY : nv (T.take (k + 1)) = Y at *
      have HY := Lib.hid hY
      clear hY
      generalize nv (T.take k) = X at *
      generalize T.getD k 0 = c at *
      go_wp2_with fail
      go_round
      case rel => exact ⟨k + 1, by rw [HY.out], by go_num, by omega⟩
      case measure => simp [intOf]; omega
    · have HX : Hid (nv (T.take k) = nv T) := Lib.hid (by rw [List.take_of_length_le (by omega)])
      have hd : decide ((k : Int) < (T.length : Int)) = false := by simp; omega
      generalize nv (T.take k) = X at *
      go_wp2_with fail
      go_ret
      exact ⟨ret_int HX.out, HR.out, HG.out⟩
set_option maxHeartbeats 1000000 in
theorem byte_r (R N : Nat) (t : TypeId) (A : Option Addr) (L C : Nat) (l : List Int) (at' : Nat) (f : Int) (E : Nat → Value) (w : World) (h : Rdr w R N t A L C l at' f E) :
    Calls Try.prog 61 #[.pointer (some ⟨R, 0, none⟩)] w (NumRet R N t A L C l at' f E 1 (.int .u8 (nv (tkL f l at' L 1))) w) := by
  have HT := Lib.hid (number_r R N t A L C l at' f E 1 w h (by omega))
  have hb : 0 ≤ nv (tkL f l at' L 1) ∧ nv (tkL f l at' L 1) ≤ 255 := by
    unfold tkL
    split
    · have h2 := nv_bound 1 ((l.drop at').take 1) (by rw [List.length_take]; omega) (fun i hi => by
        rw [List.length_take, List.length_drop] at hi
        rw [take_getD _ _ _ (by omega)]
        have := h.rd.byte (at' + i) (by have := h.rd.len; omega)
        simpa [List.getD] using this)
      have : (256 : Int) ^ 1 = 256 := by decide
      omega
    · exact ⟨by decide, by decide⟩
  obtain ⟨b0, b1⟩ := hb
  clear h
  generalize nv (tkL f l at' L 1) = X at *
  go_enter Try.func61, Try.ntmps61
  go_wp2_with fail
  refine HT.out.mono ?_
  rintro e w1 ⟨rfl, hR, hg⟩
  have HR := Lib.hid hR
  have HG := Lib.hid hg
  clear hR hg HT
  go_wp2_with fail
  go_ret
  exact ⟨rfl, HR.out, HG.out⟩
end Go.Proofs.Ytmcmapgllaopmaa.Cd
end

section
namespace Go.Proofs.Ytmcmapgllaopmaa.Cd
open Go.RowKit
set_option linter.unusedVariables false
theorem step_copy_mid {w : World} {ops : Array Oper} {o : Oper} {a : Act} {K : Act → World → Prop} {Q : Exit → Act → World → Prop} {E : Prop} (hgd : o.guard = none) (d s : Operand)
    (ho : o.op = .call { callee := .builtin .copy, args := #[d, s], argTypes := #[23, 23] })
    (dp sp : Option Addr) (dLen dCap sLen sCap : Nat) (hd : a.eval d = .slice dp dLen dCap) (hs : a.eval s = .slice sp sLen sCap)
    (g off : Nat) (cs : List Value) (hn : cs.length = Nat.min sLen dLen)
    (hpos : 0 < cs.length → dp = some ⟨g, off, none⟩ ∧ ∃ ad, sp = some ad ∧ ∀ j v, cs[j]? = some v → w.cell? (ad.add j) = some v)
    (hc : ∀ j, j < cs.length → (w.cell? ⟨g, off + j, none⟩).isSome = true) (hf : ∀ j, j < cs.length → w.frozen? ⟨g, off + j, none⟩ = false) (h1 : ∀ v ∈ cs, v.oneCell' = true)
    (h : K (a.put o.dst (goInt cs.length)) (w.setCells g off cs)) : if Region.wanted o (yielded ops a.tmps) = true then Oper.wp Try.prog o a w K Q else E := by
  have hw : Region.wanted o (yielded ops a.tmps) = true := by simp [Region.wanted, hgd]
  rw [if_pos hw]
  exact wp_copy_mid d s ho dp sp dLen dCap sLen sCap hd hs g off cs hn hpos hc hf h1 h
/-- an Id out of bytes; noughts where there are none -/
def idv (T : List Int) : List Int := T ++ List.replicate (32 - T.length) 0
theorem idv_len (T : List Int) (h : T.length ≤ 32) : (idv T).length = 32 := by simp [idv]; omega
theorem lay_idv (T : List Int) (h : T.length ≤ 32) (j : Nat) (hj : j < 32) : layF (fun _ => .int .u8 0) 0 (bv T) j = .int .u8 ((idv T).getD j 0) := by
  rw [layF, bv_len]
  by_cases h1 : j < T.length
  · rw [if_pos (by omega), Nat.sub_zero]
    simp [bv, idv, List.getD, h1, List.getElem?_append_left]
  · rw [if_neg (by omega)]
    simp [idv, List.getD, List.getElem?_append_right (show T.length ≤ j by omega), show j - T.length < 32 - T.length by omega]
/-- what a copy of bytes that are read into a new Id asks -/
theorem copy_of {w : World} {I n C : Nat} {t : TypeId} {A : Option Addr} {T : List Int} {F : Nat → Value} (hr : w.rowIs I t 32 F) (h : RdB w A n C T) (hn : T.length ≤ 32) :
    (0 < (bv T).length → (some ⟨I, 0, none⟩ : Option Addr) = some ⟨I, 0, none⟩ ∧ ∃ ad, A = some ad ∧ ∀ j v, (bv T)[j]? = some v → w.cell? (ad.add j) = some v) ∧
    (∀ j, j < (bv T).length → (w.cell? ⟨I, 0 + j, none⟩).isSome = true) ∧ (∀ j, j < (bv T).length → w.frozen? ⟨I, 0 + j, none⟩ = false) := by
  have hl := h.len
  refine ⟨fun h0 => ⟨rfl, ?_⟩, fun j hj => ?_, fun j _ => hr.frozen _⟩
  · rw [bv_len] at h0
    cases hA : A with
    | none => have := h.none hA; have := h.cap; omega
    | some x =>
      obtain ⟨-, h2⟩ := h.cell x hA
      refine ⟨x, rfl, fun j v hj => ?_⟩
      have hjl := (List.getElem?_eq_some_iff.1 hj).1
      rw [bv_len] at hjl
      rw [h2 j (by omega), ← hj]
      simp [bv, hjl]
  · rw [bv_len] at hj
    rw [hr.cell (show 0 + j < 32 by omega)]; rfl
structure CpI (w : World) (I : Nat) (A : Option Addr) (T : List Int) : Prop where
  pos : 0 < (bv T).length → (some ⟨I, 0, none⟩ : Option Addr) = some ⟨I, 0, none⟩ ∧ ∃ ad, A = some ad ∧ ∀ j v, (bv T)[j]? = some v → w.cell? (ad.add j) = some v
  here : ∀ j, j < (bv T).length → (w.cell? ⟨I, 0 + j, none⟩).isSome = true
  free : ∀ j, j < (bv T).length → w.frozen? ⟨I, 0 + j, none⟩ = false
theorem grown_laid {a : World} {H E : Nat} (hE : a.heap.size ≤ E) : ∀ (vs : List Value) (o : Nat) (w : World), a.grownBy w (some H) → a.grownBy (w.setCells E o vs) (some H)
  | [], _, _, h => h
  | v :: vs, o, w, h => grown_laid hE vs (o + 1) _ ⟨h.os, h.tape, h.output, by simpa [World.setCell] using h.size, fun i hi hne => (Below.heap_setCell w ⟨E, o, none⟩ v i (by show i ≠ E; omega)).trans (h.block i hi hne)⟩
/-- cells are laid elsewhere than in the reader's block and in what it goes through -/
theorem Rdr.laid {R N : Nat} {t : TypeId} {A : Option Addr} {L C : Nat} {l : List Int} {at' : Nat} {f : Int} {E : Nat → Value} {X : Nat} (hX : X ≠ R) : ∀ (vs : List Value) (o : Nat) (w : World), (∀ x, A = some x → 0 < L → x.block ≠ X) → Rdr w R N t A L C l at' f E → Rdr (w.setCells X o vs) R N t A L C l at' f E
  | [], _, _, _, h => h
  | v :: vs, o, w, ha, h => Rdr.laid hX vs (o + 1) _ ha ⟨h.row.setOther (a := ⟨X, o, none⟩) (fun e => hX e.symm) v, h.hN, h.rd.grown (grown_set w X o v) ha, h.apart, h.le⟩
set_option maxRecDepth 100000 in
theorem zero32 (w : World) : (zeroValue 37).run Try.prog w = .ok (.agg (bv (List.replicate 32 0)).toArray) w := by rfl
set_option maxRecDepth 100000 in
set_option maxHeartbeats 2000000 in
theorem id_r (R N : Nat) (t : TypeId) (A : Option Addr) (L C : Nat) (l : List Int) (at' : Nat) (f : Int) (E : Nat → Value) (w : World) (h : Rdr w R N t A L C l at' f E) :
    Calls Try.prog 84 #[.pointer (some ⟨R, 0, none⟩)] w (NumRet R N t A L C l at' f E 32 (.agg (bv (idv (tkL f l at' L 32))).toArray) w) := by
  have hRl := h.row.lt
  have H := Lib.hid h
  have hlen : (tkL f l at' L 32).length ≤ 32 := by
    unfold tkL
    split
    · rw [List.length_take]; omega
    · simp
  have HAp : Hid ((∀ x, A = some x → 0 < L → x.block ≠ w.heap.size) ∧ (∀ x, A = some x → 0 < L → x.block ≠ w.heap.size + 1)) := Lib.hid ⟨fun x hx h0 => by have := (h.rd.cell x hx).1 h0; omega, fun x hx h0 => by have := (h.rd.cell x hx).1 h0; omega⟩
  clear h
  have hz1 := zero32
  generalize hZ1 : (bv (List.replicate 32 0)).toArray = Z1 at *
  have HZ1 := Lib.hid hZ1
  clear hZ1
  go_enter Try.func84, Try.ntmps84
  go_upto_region 1 with (fail)
  have HO1 : Hid ((w.alloc (.cells Z1 37)).rowIs w.heap.size 37 32 (fun _ => .int .u8 0)) := Lib.hid (by rw [← HZ1.out]; exact row_zeros w 32 _)
  have hs1 := al_lt w (.cells Z1 37)
  have HB1 := Lib.hid ((Below.refl w.heap.size w).alloc (Nat.le_refl _) (.cells Z1 37))
  generalize hw1 : w.alloc (.cells Z1 37) = w1 at *
  have hIs : w1.heap.size = w.heap.size + 1 := by rw [← hw1]; show (w.heap.push _).size = _; simp
  clear hw1
  rw [← hIs] at HAp
  clear hIs
  generalize hO : w.heap.size = O at *
  have HOw := Lib.hid hO
  clear hO
  go_upto_region 2 with (fail)
  have HO2 := Lib.hid (World.rowIs.alloc HO1.out (.cells Z1 37))
  have HB2 := Lib.hid (HB1.out.alloc (Nat.le_of_lt hs1) (.cells Z1 37))
  have HI2 : Hid ((w1.alloc (.cells Z1 37)).rowIs w1.heap.size 37 32 (fun _ => .int .u8 0)) := Lib.hid (by rw [← HZ1.out]; exact row_zeros w1 32 _)
  have hs2 := al_lt w1 (.cells Z1 37)
  clear HO1 HB1
  generalize w1.alloc (.cells Z1 37) = w2 at *
  generalize w1.heap.size = I at *
  have HR2 : Hid (Rdr w2 R N t A L C l at' f E) := Lib.hid (H.out.below (by rw [HOw.out]; exact HB2.out))
  have HT := Lib.hid (take_any R N t A L C l at' f E 32 w2.drew (HR2.out.drewN 1) (by omega))
  have HO3 := Lib.hid (World.rowIs.drew HO2.out)
  have HI3 := Lib.hid (World.rowIs.drew HI2.out)
  have HB3 : Hid (Below O w w2.drew) := Lib.hid HB2.out.drew
  generalize hTT : tkL f l at' L 32 = T at *
  clear HO2 HI2 HB2 HR2 H
  go_region_held3 (fun _ => True) (trivial) (first
    | (go_at_call 83
       refine HT.out.mono ?_
       rintro e w3 ⟨A', C', rfl, hrd, hne, hR, hg⟩
       rw [hTT] at hrd hne ⊢
       have HRd := Lib.hid hrd
       have HR := Lib.hid hR
       have HG := Lib.hid hg
       have HO4 := Lib.hid (World.rowIs.of_block HO3.out (hg.block O HO3.out.lt (fun e => by have := Option.some.inj e; omega)))
       have HI4 := Lib.hid (World.rowIs.of_block HI3.out (hg.block I HI3.out.lt (fun e => by have := Option.some.inj e; omega)))
       have HMn : Hid ((bv T).length = Nat.min T.length 32) := Lib.hid (by rw [bv_len]; exact (Nat.min_eq_left hlen).symm)
       have HCp : Hid (CpI w3 I A' T) := Lib.hid ⟨(copy_of HI4.out HRd.out hlen).1, (copy_of HI4.out HRd.out hlen).2.1, (copy_of HI4.out HRd.out hlen).2.2⟩
       clear hrd hne hR hg)
    | (refine step_copy_mid rfl (.tmp 4) (.tmp 6) rfl (some ⟨I, 0, none⟩) A' 32 32 T.length C' rfl rfl I 0 (bv T) HMn.out HCp.out.pos HCp.out.here HCp.out.free (bv_one T) ?_))
  have hdl := idv_len T hlen
  have hbl : (bv (idv T)).length = 32 := by rw [bv_len, hdl]
  have HRg : Hid ((w3.setCells I 0 (bv T)).rangeAt I 0 (bv (idv T))) := Lib.hid (fun j v hj => by
    have hl := (List.getElem?_eq_some_iff.1 hj).1
    rw [hbl] at hl
    rw [Nat.zero_add, (row_lay HI4.out 0 (bv T)).cell hl, lay_idv T hlen j hl, ← hj]
    simp [bv, hdl, hl])
  have HSz : Hid ((Try.prog.info? 37).map (·.size) = some (bv (idv T)).length) := Lib.hid (by rw [hbl]; kernel_rfl)
  have HSz2 : Hid ((Try.prog.info? 37).map (·.size) = some (bv (idv T)).toArray.size) := Lib.hid (by rw [List.size_toArray]; exact HSz.out)
  have HOne := Lib.hid (all_oneCell_toArray (bv_one (idv T)))
  have HO5 : Hid ((w3.setCells I 0 (bv T)).rowIs O 37 32 (fun _ => .int .u8 0)) := Lib.hid (row_apart (by omega) (bv T) 0 w3 HO4.out)
  have HTh : Hid ((w3.setCells I 0 (bv T)).there O 0 (bv (idv T)).toArray.size) := Lib.hid (fun j hj => by
    rw [List.size_toArray, hbl] at hj
    rw [Nat.zero_add]
    exact ⟨by rw [HO5.out.cell hj]; rfl, HO5.out.frozen _⟩)
  have HSt := Lib.hid (row_stored HO5.out (bv (idv T)) hbl)
  have hg3 := HG.out
  have HGx : Hid (w.grownBy ((w3.setCells I 0 (bv T)).setCells O 0 (bv (idv T))) (some R)) := Lib.hid (by
    have hb3 : Below O w w2.drew := HB3.out
    have hz : O ≤ w2.drew.heap.size := by have := HO3.out.lt; omega
    have h0 : w.grownBy w2.drew (some R) := ⟨hb3.os, hb3.tape, hb3.output, by rw [HOw.out]; exact hz, fun i hi _ => hb3.block i (by rw [← HOw.out]; exact hi)⟩
    have h1 := grown_trans h0 hg3
    exact grown_laid (by have := HOw.out; omega) (bv (idv T)) 0 _ (grown_laid (by have := HOw.out; omega) (bv T) 0 w3 h1))
  have HRx : Hid (Rdr ((w3.setCells I 0 (bv T)).setCells O 0 (bv (idv T))) R N t A L C l (tkA f at' L 32) (tkF f at' L 32) E) := Lib.hid (Rdr.laid (by omega) (bv (idv T)) 0 _ HAp.out.1 (Rdr.laid (by omega) (bv T) 0 w3 HAp.out.2 HR.out))
  clear hg3 hbl hdl HMn HCp HI4 HO4 HO5 HR HG HB3 HRd HO3 HI3
  generalize bv T = TL at *
  generalize bv (idv T) = DL at *
  go_wp2_with (first
    | (refine wpList_load_mid rfl _ _ rfl I 0 rfl DL _ HRg.out Try.underlying37 rfl HSz.out ?_)
    | (refine wpList_store_mid rfl _ _ _ rfl O 0 DL.toArray rfl rfl HTh.out HSz2.out HOne.out ?_))
  refine bodyPost_ret (results_cell_row rfl _ _ O _ _ _ _ rfl HSt.out Try.underlying37 rfl HSz2.out) rfl ?_
  exact ⟨rfl, HRx.out, HGx.out⟩
end Go.Proofs.Ytmcmapgllaopmaa.Cd
end

section
namespace Go.Proofs.Ytmcmapgllaopmaa.Cd
open Go.RowKit
set_option linter.unusedVariables false
/-- is a text at or ahead of another one? -/
def leS (a b : ByteArray) : Bool := Op.bytesLess a.toList b.toList || a.toList == b.toList
/-- why an entry may not stand behind one ahead -/
def ce (k : Int) (nm : ByteArray) (ids : List Int) (prev : Option ByteArray) : Int :=
  if k < 1 ∨ 4 < k then 3 else if ¬ NmOk nm then 7 else if ids = List.replicate 32 0 then 1 else match prev with
    | some q => if leS nm q = true then 18 else 0
    | none => 0
end Go.Proofs.Ytmcmapgllaopmaa.Cd
end

section
namespace Go.Proofs.Ytmcmapgllaopmaa.Fr
open Go.ChangeShapes Go.WideShapes Go.ChangeAt Go.RowKit
set_option linter.unusedVariables false
/-- an entry -/
structure Ent where
  name : ByteArray
  kind : Int
  id : List Int
def Ent.cells (x : Ent) : List Value := .string x.name :: .int .i64 x.kind :: x.id.map (Value.int .u8)
def Ent.wf (x : Ent) : Prop := x.name.size ≤ 140737488351232 ∧ (Lit.int .i64 x.kind).wf = true ∧ IsId x.id
instance : Inhabited Ent := ⟨⟨ByteArray.empty, 0, List.replicate 32 0⟩⟩
end Go.Proofs.Ytmcmapgllaopmaa.Fr
end

section
namespace Go.Proofs.Ytmcmapgllaopmaa.Cd
open Go.RowKit
set_option linter.unusedVariables false
/-- the tree's reader stays where elsewhere is written -/
theorem Rdr.setX {w : World} {R N : Nat} {t : TypeId} {A : Option Addr} {L C : Nat} {l : List Int} {at' : Nat} {f : Int} {E : Nat → Value} (h : Rdr w R N t A L C l at' f E) (X i : Nat) (v : Value) (hX : X ≠ R) (ha : ∀ x, A = some x → 0 < L → x.block ≠ X) : Rdr (w.setCell ⟨X, i, none⟩ v) R N t A L C l at' f E :=
  ⟨h.row.setOther (a := ⟨X, i, none⟩) (fun e => hX e.symm) v, h.hN, h.rd.grown (grown_set w X i v) ha, h.apart, h.le⟩
theorem own_grown {w w' : World} {B e sz n : Nat} {v : Value} {xs : List Value} {k : Nat} (h : w.ownsRow B e sz v n xs) (hg : w.grownBy w' (some k)) (hk : v.ownBlock ≠ some k) : w'.ownsRow B e sz v n xs := by
  refine h.kept hg ?_
  cases hv : v.ownBlock with
  | none => exact .inl rfl
  | some j => exact .inr fun e => hk (by rw [hv]; exact e)
theorem grown_cells_of {a : World} {X : Nat} : ∀ (vs : List Value) (o : Nat) (w : World), a.grownBy w (some X) → a.grownBy (w.setCells X o vs) (some X)
  | [], _, _, h => h
  | v :: vs, o, w, h => grown_cells_of vs (o + 1) _ (grown_trans h (grown_set w X o v))
theorem grown_cells (w : World) (X : Nat) (vs : List Value) (o : Nat) : w.grownBy (w.setCells X o vs) (some X) := grown_cells_of vs o w (World.grownBy.refl w (some X))
/-- behind whatever turned nothing below B -/
theorem Rdr.belowB {w w' : World} {R N : Nat} {t : TypeId} {A : Option Addr} {L C : Nat} {l : List Int} {at' : Nat} {f : Int} {E : Nat → Value} {B : Nat} (h : Rdr w R N t A L C l at' f E) (hb : Below B w w') (hR : R < B) (hA : ∀ x, A = some x → 0 < L → x.block < B) : Rdr w' R N t A L C l at' f E :=
  ⟨h.row.of_block (hb.block R hR), h.hN, ⟨h.rd.len, h.rd.cap, h.rd.max, h.rd.big, h.rd.none, h.rd.byte, fun x hx => by
    obtain ⟨h1, h2⟩ := h.rd.cell x hx
    refine ⟨fun h0 => Nat.lt_of_lt_of_le (h1 h0) hb.size, fun i hi => ?_⟩
    have e : (x.add i).block = x.block := add_block x i
    rw [hb.cell (p := x.add i) (by rw [e]; exact hA x hx (by omega))]
    exact h2 i hi⟩, h.apart, h.le⟩
theorem fold_data (l : List Int) : ∀ r : ByteArray, (l.foldl (fun r n => r.push (UInt8.ofNat n.toNat)) r).data.toList = r.data.toList ++ l.map (fun n => UInt8.ofNat n.toNat) := by
  induction l with
  | nil => intro r; simp
  | cons x l ih =>
    intro r
    rw [List.foldl_cons, ih]
    simp [ByteArray.push]
theorem sb_data (l : List Int) : (sb l).data.toList = l.map (fun n => UInt8.ofNat n.toNat) := by
  rw [sb, fold_data]; simp
theorem sb_size (l : List Int) : (sb l).size = l.length := by
  have h := congrArg List.length (sb_data l)
  simpa using h
end Go.Proofs.Ytmcmapgllaopmaa.Cd
end

section
namespace Go.Proofs.Ytmcmapgllaopmaa.Cd
open Go.RowKit
set_option linter.unusedVariables false
theorem ended_any (R N : Nat) (t : TypeId) (A : Option Addr) (L C : Nat) (l : List Int) (at' : Nat) (f : Int) (E : Nat → Value) (w : World) (h : Rdr w R N t A L C l at' f E) (b : Bool) (hb : ((at' : Int) == (L : Int)) = b) :
    Calls Try.prog 44 #[.pointer (some ⟨R, 0, none⟩)] w fun e w' => e = .returned (.bool b) ∧ Below w.heap.size w w' := by
  have HB := Lib.hid (Below.refl w.heap.size w)
  have h0 := h.c0
  have h1 := h.c1
  clear h
  go_enter Try.func44, Try.ntmps44
  go_wp2
  go_quiet (fail)
  go_wp2
  go_ret
  exact ⟨rfl, below_drewN HB.out _⟩
end Go.Proofs.Ytmcmapgllaopmaa.Cd
end

section
namespace Go.Proofs.Ytmcmapgllaopmaa.Cd
open Go.RowKit
set_option linter.unusedVariables false
/-- the length told -/
def txM (f : Int) (l : List Int) (at' L n : Nat) : Nat := (nv (tkL f l at' L n)).toNat
/-- what failed when the length is known -/
def tx2 (f : Int) (l : List Int) (at' L n most : Nat) : Int := if most < txM f l at' L n then fl (tkF f at' L n) 5 else tkF f at' L n
def txF (f : Int) (l : List Int) (at' L n most : Nat) : Int := tkF (tx2 f l at' L n most) (tkA f at' L n) L (txM f l at' L n)
def txA (f : Int) (l : List Int) (at' L n most : Nat) : Nat := tkA (tx2 f l at' L n most) (tkA f at' L n) L (txM f l at' L n)
def txS (f : Int) (l : List Int) (at' L n most : Nat) : ByteArray := sb (tkL (tx2 f l at' L n most) l (tkA f at' L n) L (txM f l at' L n))
/-- the text told, and the reader behind -/
def TxtRet (R N : Nat) (t : TypeId) (A : Option Addr) (L C : Nat) (l : List Int) (at' : Nat) (f : Int) (E : Nat → Value) (n most : Nat) (w : World) (e : Ending) (w' : World) : Prop :=
  e = .returned (.string (txS f l at' L n most)) ∧ Rdr w' R N t A L C l (txA f l at' L n most) (txF f l at' L n most) E ∧ w.grownBy w' (some R)
theorem nv_tkL (f : Int) (l : List Int) (at' L n : Nat) (hn : n < 4) (hl : l.length = L) (hb : ∀ i, i < L → 0 ≤ l.getD i 0 ∧ l.getD i 0 ≤ 255) : 0 ≤ nv (tkL f l at' L n) ∧ nv (tkL f l at' L n) < 16777216 := by
  unfold tkL
  split
  · refine nv_small _ n hn (by rw [List.length_take]; omega) (fun i hi => ?_)
    rw [List.length_take, List.length_drop] at hi
    rw [take_getD _ _ _ (by omega)]
    have := hb (at' + i) (by omega)
    simpa [List.getD] using this
  · exact ⟨by decide, by decide⟩
set_option maxRecDepth 100000 in
theorem text_r (R N : Nat) (t : TypeId) (A : Option Addr) (L C : Nat) (l : List Int) (at' : Nat) (f : Int) (E : Nat → Value) (n most : Nat) (w : World) (h : Rdr w R N t A L C l at' f E) (hn : n < 4) :
    Calls Try.prog 89 #[.pointer (some ⟨R, 0, none⟩), .int .i64 n, .int .i64 most] w (TxtRet R N t A L C l at' f E n most w) := by
  have HNu := Lib.hid (number_r R N t A L C l at' f E n w h (by omega))
  obtain ⟨b0, b1⟩ := nv_tkL f l at' L n hn h.rd.len h.rd.byte
  have hm : nv (tkL f l at' L n) = ((txM f l at' L n : Nat) : Int) := by unfold txM; omega
  have hmb : txM f l at' L n < 16777216 := by omega
  rw [hm] at HNu
  clear hm b0 b1 h
  obtain ⟨m, hM⟩ : ∃ m, m = txM f l at' L n := ⟨_, rfl⟩
  rw [← hM] at HNu hmb
  have HM := Lib.hid hM
  clear hM
  go_enter Try.func89, Try.ntmps89
  go_wp2_with fail
  refine HNu.out.mono ?_
  rintro e w1 ⟨rfl, hR, hg⟩
  by_cases hl : most < m
  · have hd : most < m := hl
    have HFm := Lib.hid (fail_any R N t A L C l _ _ 5 _ w1 hR)
    have HG := Lib.hid hg
    have H2 : Hid (tx2 f l at' L n most = fl (tkF f at' L n) 5) := Lib.hid (by unfold tx2; rw [← HM.out, if_pos hl])
    clear hR hg HNu hl
    go_wp2_with fail
    refine HFm.out.mono ?_
    rintro e w2 ⟨rfl, hR2, hg2⟩
    have HT := Lib.hid (take_any R N t A L C l _ _ _ m w2 hR2 (by omega))
    have HG2 := Lib.hid (grown_trans HG.out hg2)
    clear hR2 hg2 HG HFm
    go_wp2_with fail
    refine HT.out.mono ?_
    rintro e w3 ⟨A', C', rfl, hrd, -, hR3, hg3⟩
    have cv := conv_rd hrd
    have HR3 := Lib.hid hR3
    have HG3 := Lib.hid (grown_trans HG2.out hg3)
    clear hrd hR3 hg3 HT HG2
    go_wp2_with fail
    go_ret
    unfold TxtRet txS txA txF
    rw [H2.out, ← HM.out]
    exact ⟨rfl, HR3.out, HG3.out⟩
  · have hd : ¬ most < m := hl
    have HG := Lib.hid hg
    have H2 : Hid (tx2 f l at' L n most = tkF f at' L n) := Lib.hid (by unfold tx2; rw [← HM.out, if_neg hl])
    have HT := Lib.hid (take_any R N t A L C l _ _ _ m w1 hR (by omega))
    clear hR hg HNu hl
    go_wp2_with fail
    refine HT.out.mono ?_
    rintro e w3 ⟨A', C', rfl, hrd, -, hR3, hg3⟩
    have cv := conv_rd hrd
    have HR3 := Lib.hid hR3
    have HG3 := Lib.hid (grown_trans HG.out hg3)
    clear hrd hR3 hg3 HT HG
    go_wp2_with fail
    go_ret
    unfold TxtRet txS txA txF
    rw [H2.out, ← HM.out]
    exact ⟨rfl, HR3.out, HG3.out⟩
/-- what failed when nothing may be left -/
def enF (f : Int) (at' L : Nat) : Int := if at' = L then f else fl f 15
set_option maxRecDepth 100000 in
theorem end_any (R N : Nat) (t : TypeId) (A : Option Addr) (L C : Nat) (l : List Int) (at' : Nat) (f : Int) (E : Nat → Value) (w : World) (h : Rdr w R N t A L C l at' f E) :
    Calls Try.prog 90 #[.pointer (some ⟨R, 0, none⟩)] w fun e w' => e = .returned (.tuple #[]) ∧ Rdr w' R N t A L C l at' (enF f at' L) E ∧ w.grownBy w' (some R) := by
  have HR := Lib.hid h
  by_cases he : at' = L
  · have HEn := Lib.hid (ended_any R N t A L C l at' f E w h true (by simp [he]))
    have H2 : Hid (enF f at' L = f) := Lib.hid (if_pos he)
    clear h he
    go_enter Try.func90, Try.ntmps90
    go_wp2_with fail
    refine HEn.out.mono ?_
    rintro e w1 ⟨rfl, hb⟩
    have HR1 := Lib.hid (HR.out.below hb)
    have HG1 : Hid (w.grownBy w1 (some R)) := Lib.hid ⟨hb.os, hb.tape, hb.output, hb.size, fun i hi _ => hb.block i hi⟩
    clear hb HR HEn
    go_wp2_with fail
    go_end0
    rw [H2.out]
    exact ⟨rfl, HR1.out, HG1.out⟩
  · have HEn := Lib.hid (ended_any R N t A L C l at' f E w h false (by simp; omega))
    have H2 : Hid (enF f at' L = fl f 15) := Lib.hid (if_neg he)
    clear h he
    go_enter Try.func90, Try.ntmps90
    go_wp2_with fail
    refine HEn.out.mono ?_
    rintro e w1 ⟨rfl, hb⟩
    have HFm := Lib.hid (fail_any R N t A L C l at' f 15 E w1 (HR.out.below hb))
    have HG1 : Hid (w.grownBy w1 (some R)) := Lib.hid ⟨hb.os, hb.tape, hb.output, hb.size, fun i hi _ => hb.block i hi⟩
    clear hb HR HEn
    go_wp2_with fail
    refine HFm.out.mono ?_
    rintro e w2 ⟨rfl, hR, hg⟩
    have HR2 := Lib.hid hR
    have HG2 := Lib.hid (grown_trans HG1.out hg)
    clear hR hg HFm HG1
    go_wp2_with fail
    go_end0
    rw [H2.out]
    exact ⟨rfl, HR2.out, HG2.out⟩
end Go.Proofs.Ytmcmapgllaopmaa.Cd
end

section
namespace Go.Proofs.Ytmcmapgllaopmaa.Cd
open Go.RowKit
set_option linter.unusedVariables false
theorem results_cell2 {P : Program} {fn : Func} {p q : Tmp} {ty : TypeId} (h : fn.results = #[.cell p ty, .tmp q]) (tmps : Array Value) (w : World) (g : Nat) (t : TypeId) (cs : Array Value) (fr : Nat × Nat) (d : TypeDesc)
    (hp : tmps.getD p undef = .pointer (some ⟨g, 0, none⟩)) (hg : w.heap[g]? = some (.cells cs t fr))
    (hu : P.underlying ty = some d) (hd : (match d with | .struct _ | .array _ _ => true | _ => false) = true) (hi : (P.info? ty).map (·.size) = some cs.size) (v : Value) (hv : tmps.getD q undef = v) :
    (results fn tmps).run P w = .ok (.tuple #[.agg cs, v]) w := by
  have hp' : tmps[p]?.getD undef = .pointer (some ⟨g, 0, none⟩) := by simpa using hp
  have hv' : tmps[q]?.getD undef = v := by simpa using hv
  simp [results, h, hp', hv', asAddr, run_loadVar_row w g t ty cs fr d hg hu hd hi]
theorem step_store_mid {ops : Array Oper} {o : Oper} {a : Act} {w : World} {K : Act → World → Prop} {Q : Exit → Act → World → Prop} {E : Prop} (hgd : o.guard = none) (ty : TypeId) (x y : Operand) (ho : o.op = .store ty x y)
    (b off : Nat) (cells : Array Value) (hx : a.eval x = .pointer (some ⟨b, off, none⟩)) (hy : a.eval y = .agg cells)
    (ht : w.there b off cells.size) (hi : (Try.prog.info? ty).map (·.size) = some cells.size) (h1 : cells.all (·.oneCell') = true)
    (h : K (a.put o.dst undef) (w.setCells b off cells.toList)) : if Region.wanted o (yielded ops a.tmps) = true then Oper.wp Try.prog o a w K Q else E := by
  have hw : Region.wanted o (yielded ops a.tmps) = true := by simp [Region.wanted, hgd]
  rw [if_pos hw]
  exact wp_store_mid ty x y ho b off cells hx hy ht hi h1 h
/-- a pointer's block's cells, all of them, stored: what the store and the result ask -/
structure Fin (w0 : World) (B : Nat) (w : World) (O : Nat) (ty : TypeId) (D : List Value) : Prop where
  there : w.there O 0 D.toArray.size
  size : (Try.prog.info? ty).map (·.size) = some D.toArray.size
  one : D.toArray.all (·.oneCell') = true
  stored : (w.setCells O 0 D).heap[O]? = some (.cells D.toArray ty (0, 0))
  bel : Below B w0 (w.setCells O 0 D)
theorem below_cells {B O : Nat} {w0 : World} (hO : B ≤ O) : ∀ (vs : List Value) (o : Nat) (w : World), Below B w0 w → Below B w0 (w.setCells O o vs)
  | [], _, _, h => h
  | v :: vs, o, w, h => below_cells hO vs (o + 1) _ (h.setCell (p := ⟨O, o, none⟩) hO v)
theorem _root_.Go.World.rangeAt.lt_of {w : World} {b o : Nat} {cs : List Value} (h : w.rangeAt b o cs) (h0 : 0 < cs.length) : b < w.heap.size := by
  obtain ⟨v, hv⟩ : ∃ v, cs[0]? = some v := ⟨cs[0], List.getElem?_eq_getElem h0⟩
  have := h 0 v hv
  exact block_lt_of_cell this
end Go.Proofs.Ytmcmapgllaopmaa.Cd
end

section
namespace Go.Proofs.Ytmcmapgllaopmaa.Cd
open Go.RowKit
set_option linter.unusedVariables false
theorem Fin.mkN {w0 w : World} {B O n : Nat} {t : TypeId} {D : List Value} {f : Nat → Value} (hi : (Try.prog.info? t).map (·.size) = some n) (hl : D.length = n) (h1 : ∀ v ∈ D, v.oneCell' = true) (hr : w.rowIs O t n f) (hb : Below B w0 w) (hO : B ≤ O) : Fin w0 B w O t D :=
  ⟨fun j hj => by
    rw [List.size_toArray, hl] at hj
    rw [Nat.zero_add]
    exact ⟨by rw [hr.cell hj]; rfl, hr.frozen _⟩, by rw [List.size_toArray, hl]; exact hi, all_oneCell_toArray h1, row_stored hr D hl, below_cells hO D 0 w hb⟩
theorem infoId : (Try.prog.info? 37).map (·.size) = some 32 := by kernel_rfl
/-- a value of many cells laid in a block of its own -/
theorem lay_new (w : World) (t : TypeId) (n : Nat) (Z : Array Value) (D : List Value) (hi : (Try.prog.info? t).map (·.size) = some n) (hZ : Z.size = n) (hl : D.length = n) (h1 : ∀ v ∈ D, v.oneCell' = true) :
    Fin w w.heap.size (w.alloc (.cells Z t)) w.heap.size t D ∧ ((w.alloc (.cells Z t)).setCells w.heap.size 0 D).rangeAt w.heap.size 0 D := by
  have hr := row_new w Z t
  rw [hZ] at hr
  have hf := Fin.mkN (f := fun i => Z.getD i undef) hi hl h1 hr ((Below.refl w.heap.size w).alloc (Nat.le_refl _) (.cells Z t)) (Nat.le_refl _)
  exact ⟨hf, World.rangeAt_setCells_same _ _ _ _ (by have := hf.there; rwa [List.size_toArray] at this)⟩
end Go.Proofs.Ytmcmapgllaopmaa.Cd
end
