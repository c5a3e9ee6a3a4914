/- Texts of one's own, merged: FrInts, FrIds, FrOpen, CdKit, CdNum, CdName, CdKnown, CdIds, CdEnt, CdText, CdTree, CdKnown2, CdRd, CdRead. -/
import Derived.Test.YtmcmapgllaopmaaChecked
import Derived.WalkKit
import Derived.ProofKit
import Derived.SizedLaws
import Derived.OpenShut
import Derived.WalkSpells
import Derived.WalkLawsBesides
import Derived.Outline
import Derived.LoopTactic
import Derived.Lib.Hide
import Derived.Deep.Light
import Derived.Deep.QuietTactic
import Derived.BigQuiet
import Derived.OwnWalk
import Derived.Below
import Derived.Deep.LoopGhost
import Derived.Lib.Strings
import Derived.Lib.Bytealg
import Derived.Lib.IndexLaws
import Derived.Laws.Externs
import Derived.RegionTactic
import Derived.BigRegion
import Derived.Deep.RegionLaw
import Derived.Deep.RegionWith
import Derived.Deep.RegionHeld3
import Derived.Deep.DeepCutAuto
import Derived.Deep.CutBlock
import Derived.ChangeKeysEq
import Derived.Laws.StructEq
import Derived.Deep.MidRow
import Derived.Lib.AppendStr
import Derived.Deep.WholeRow
import Derived.Laws.BytesString
import Derived.Lib.SlBytesConst
import Derived.Lib.BufferRead
import Derived.Deep.OwnRows
import Derived.Laws.IdiomCopy
import Derived.Laws.Rows

section
/- What a walk is told of a slice of integers that came in, out of the form's own reading and its reach. -/
namespace Go.Proofs.Ytmcmapgllaopmaa.Fr
open Go.ChangeShapes Go.WideShapes Go.ChangeAt Go.RowKit
set_option linter.unusedVariables false

/-- nil; or 'len' numbers in cells that lie side by side; b bytes each. -/
def IsInts (k : IntKind) (b : Nat) (w : World) (a : Option Addr) (len cap : Nat) (zs : List Int) : Prop :=
  (a = none ∧ len = 0 ∧ cap = 0 ∧ zs = []) ∨
  ∃ x : Addr, a = some x ∧ len ≤ cap ∧ cap * b ≤ 140737488351232 ∧ zs.length = len ∧ (∀ i, i < len → w.cell? (x.add i) = some (.int k (zs.getD i 0))) ∧ (∀ n ∈ zs, (Lit.int k n).wf = true)

theorem isInts_of {H : Type} {enc : TypeId × Value → H} {P : Program} {W : World} {t e : TypeId} {k : IntKind} {b : Nat} {a : Option Addr} {len cap : Nat} {d : DataW H} {p : List MemPlace}
    (hu : P.underlying t = some (.slice e)) (he : P.underlying e = some (.int k)) (hc : P.cellsOf e = 1) (hb : P.bytesOf e = b)
    {ts : List TypeId} {ds : List (DataW H)} (hsz : (DataW.weightsEach P ts ds).all (· ≤ reachBytes) = true) {j : Nat} (ht : ts[j]? = some t) (hd : ds[j]? = some d)
    (h : DataW.Trod enc P W 0 (fun _ => true) true t (.slice a len cap) d p) :
    ∃ zs, IsInts k b W a len cap zs := by
  obtain ⟨fuel, hf⟩ := h
  rcases open_ints hu he hc hf with ⟨hcs, _⟩ | ⟨x, l, c, zs, hcs, _, hl, hm, hz, hx, hcell, hwz⟩
  · simp [Value.cells] at hcs
    obtain ⟨rfl, rfl, rfl⟩ := hcs
    exact ⟨[], .inl ⟨rfl, rfl, rfl, rfl⟩⟩
  · simp [Value.cells] at hcs
    obtain ⟨rfl, rfl, rfl⟩ := hcs
    simp only [Prod.mk.injEq] at hx
    have hlen : zs.length = cap := by simpa using hz
    have h1 := sized_slice hsz ht (hx.1 ▸ hd) hu
    rw [hb] at h1
    simp only [lits, List.length_map, List.length_take, List.length_drop, reachBytes] at h1
    rw [show min len zs.length + (zs.length - len) = cap from by omega] at h1
    refine ⟨zs.take len, .inr ⟨x, rfl, hl, h1, by simp; omega, ?_, fun n hn => hwz n (List.mem_of_mem_take hn)⟩⟩
    intro i hi
    rw [hcell i (by omega)]
    congr 2
    simp [List.getD, hi]
end Go.Proofs.Ytmcmapgllaopmaa.Fr
end

section
/- What a walk is told of an Id (an array of 32 bytes) that came in by value. -/
namespace Go.Proofs.Ytmcmapgllaopmaa.Fr
open Go.ChangeShapes Go.WideShapes Go.ChangeAt Go.RowKit
set_option linter.unusedVariables false

def IsId (a : List Int) : Prop := a.length = 32 ∧ ∀ x ∈ a, 0 ≤ x ∧ x ≤ 255

theorem isId_of {H : Type} {enc : TypeId × Value → H} {P : Program} {W : World} {r : Reach} {b0 : Nat} {t e : TypeId} {v : Value} {d : DataW H} {p : List MemPlace}
    (ht : P.underlying t = some (.array 32 e)) (he : P.underlying e = some (.int .u8)) (ce : P.cellsOf e = 1) (ct : P.cellsOf t = 32)
    (hv : Value.okWide P W r b0 t v) (h : DataW.Trod enc P W 0 (fun _ => true) true t v d p) :
    ∃ a, v = .agg (a.map (Value.int .u8)).toArray ∧ IsId a := by
  unfold Value.okWide at hv
  simp only [ht] at hv
  obtain ⟨cs, rfl, hsz, -⟩ := hv
  obtain ⟨fuel, hf⟩ := h
  obtain ⟨xs, m, -, -, -, hlen, hel⟩ := DataW.trod_array ht hf
  obtain ⟨l⟩ := cs
  rw [ct] at hsz
  have hsl : l.length = 32 := by simpa using hsz
  have key : ∀ c ∈ l, ∃ n : Int, c = .int .u8 n ∧ 0 ≤ n ∧ n ≤ 255 := by
    intro c hc
    obtain ⟨i, hi, rfl⟩ := List.getElem_of_mem hc
    have h1 := hel i (by omega)
    rw [ce, List.getElem?_eq_getElem (by omega)] at h1
    have h2 : (((Value.agg ⟨l⟩).cells.toList).drop (i * 1)).take 1 = [l[i]] := by
      show (l.drop (i * 1)).take 1 = _
      rw [Nat.mul_one, List.drop_eq_getElem_cons hi]
      rfl
    rw [h2] at h1
    obtain ⟨n, hn, _, wn⟩ := DataW.trod_int he h1
    have e1 : IntKind.u8.min = 0 := rfl
    have e2 : IntKind.u8.max = 255 := rfl
    simp only [Lit.wf, Bool.and_eq_true, decide_eq_true_eq] at wn
    exact ⟨n, by simpa using hn, by omega, by omega⟩
  refine ⟨l.map fun c => match c with | .int _ n => n | _ => 0, ?_, by simpa using hsl, ?_⟩
  · congr 2
    rw [List.map_map]
    have : l.map (fun c => c) = l := by simp
    conv => lhs; rw [← this]
    refine List.map_congr_left fun c hc => ?_
    obtain ⟨n, rfl, -⟩ := key c hc
    rfl
  · intro x hx
    obtain ⟨c, hc, rfl⟩ := List.mem_map.1 hx
    obtain ⟨n, rfl, h1, h2⟩ := key c hc
    exact ⟨h1, h2⟩
end Go.Proofs.Ytmcmapgllaopmaa.Fr
end

section
/- Openers over parts of a datum: the sizes of each part, and what its cells are. -/
namespace Go.Proofs.Ytmcmapgllaopmaa.Fr
open Go.ChangeShapes Go.WideShapes Go.ChangeAt Go.RowKit
set_option linter.unusedVariables false

/-- each size that the datum tells is within reach -/
def WOk {H : Type} (P : Program) (t : TypeId) (d : DataW H) : Prop := ∀ n ∈ d.weights P t, n ≤ reachBytes

theorem wOk_each {H : Type} {P : Program} {ts : List TypeId} {ds : List (DataW H)} (hsz : (DataW.weightsEach P ts ds).all (· ≤ reachBytes) = true) {j : Nat} {t : TypeId} {d : DataW H} (ht : ts[j]? = some t) (hd : ds[j]? = some d) : WOk P t d :=
  fun n hn => by
    have := List.all_eq_true.1 hsz n (DataW.weights_mem_each ht hd n hn)
    simpa using this
theorem wOk_part {H : Type} {P : Program} {e : TypeId} {fs : Array Field} {xs : List (DataW H)} (he : P.underlying e = some (.struct fs)) (h : WOk P e (.agg xs)) {i : Nat} {f : Field} {d : DataW H} (hf : fs[i]? = some f) (hd : xs[i]? = some d) : WOk P f.type d := fun n hn => by
  refine h n ?_
  simp only [DataW.weights, he]
  exact DataW.weights_mem_each (j := i) (t := f.type) (by simp [hf]) hd n hn
theorem weightsAll_mem' {H : Type} {P : Program} {e : TypeId} : ∀ {l : List (DataW H)} {d : DataW H}, d ∈ l → ∀ n ∈ d.weights P e, n ∈ DataW.weightsAll P e l
  | d' :: r, d, hd, n, hn => by
    simp only [DataW.weightsAll, List.mem_append]
    rcases List.mem_cons.1 hd with rfl | h
    · exact Or.inl hn
    · exact Or.inr (weightsAll_mem' h n hn)
theorem wOk_elem {H : Type} {P : Program} {t e : TypeId} {xs ys : List (DataW H)} (hu : P.underlying t = some (.slice e)) (h : WOk P t (.slice xs ys)) {d : DataW H} (hd : d ∈ xs) : WOk P e d := fun n hn => by
  refine h n ?_
  simp only [DataW.weights, hu, List.mem_cons, List.mem_append]
  exact Or.inr (Or.inl (weightsAll_mem' hd n hn))
theorem wOk_len {H : Type} {P : Program} {t e : TypeId} {xs ys : List (DataW H)} (hu : P.underlying t = some (.slice e)) (h : WOk P t (.slice xs ys)) : (xs.length + ys.length) * P.bytesOf e ≤ reachBytes :=
  h _ (by simp [DataW.weights, hu])

theorem ints_w {H : Type} {enc : TypeId × Value → H} {P : Program} {W : World} {t e : TypeId} {k : IntKind} {b fuel : Nat} {cs : List Value} {x : DataW H × List MemPlace}
    (hu : P.underlying t = some (.slice e)) (he : P.underlying e = some (.int k)) (hc : P.cellsOf e = 1) (hb : P.bytesOf e = b)
    (hw : WOk P t x.1) (h : DataW.trod enc P W 0 (fun _ => true) true fuel t cs = some x) :
    ∃ a len cap zs, cs = [.slice a len cap] ∧ IsInts k b W a len cap zs := by
  rcases open_ints hu he hc h with ⟨rfl, _⟩ | ⟨x0, l, c, zs, rfl, _, hl, hm, hz, rfl, hcell, hwz⟩
  · exact ⟨none, 0, 0, [], rfl, .inl ⟨rfl, rfl, rfl, rfl⟩⟩
  · have hlen : zs.length = c := by simpa using hz
    have h1 := wOk_len hu hw
    rw [hb] at h1
    simp only [lits, List.length_map, List.length_take, List.length_drop, reachBytes] at h1
    rw [show min l zs.length + (zs.length - l) = c from by omega] at h1
    refine ⟨some x0, l, c, zs.take l, rfl, .inr ⟨x0, rfl, hl, h1, by simp; omega, ?_, fun n hn => hwz n (List.mem_of_mem_take hn)⟩⟩
    intro i hi
    rw [hcell i (by omega)]
    congr 2
    simp [List.getD, hi]

theorem string_w {H : Type} {enc : TypeId × Value → H} {P : Program} {W : World} {t : TypeId} {fuel : Nat} {cs : List Value} {x : DataW H × List MemPlace}
    (hu : P.underlying t = some .string) (hw : WOk P t x.1) (h : DataW.trod enc P W 0 (fun _ => true) true fuel t cs = some x) :
    ∃ s : ByteArray, cs = [.string s] ∧ s.size ≤ 140737488351232 := by
  obtain ⟨s, rfl, rfl, _⟩ := DataW.trod_string hu h
  refine ⟨s, rfl, ?_⟩
  have := hw s.data.toList.length (by simp [DataW.weights])
  simpa [reachBytes] using this

theorem id_w {H : Type} {enc : TypeId × Value → H} {P : Program} {W : World} {t e : TypeId} {fuel : Nat} {cs : List Value} {x : DataW H × List MemPlace}
    (ht : P.underlying t = some (.array 32 e)) (he : P.underlying e = some (.int .u8)) (ce : P.cellsOf e = 1) (hl : cs.length = 32)
    (h : DataW.trod enc P W 0 (fun _ => true) true fuel t cs = some x) :
    ∃ a : List Int, cs = a.map (Value.int .u8) ∧ IsId a := by
  obtain ⟨xs, m, -, -, -, hlen, hel⟩ := DataW.trod_array ht h
  have key : ∀ c ∈ cs, ∃ n : Int, c = .int .u8 n ∧ 0 ≤ n ∧ n ≤ 255 := by
    intro c hc
    obtain ⟨i, hi, rfl⟩ := List.getElem_of_mem hc
    have h1 := hel i (by omega)
    rw [ce, List.getElem?_eq_getElem (by omega)] at h1
    have h2 : (cs.drop (i * 1)).take 1 = [cs[i]] := by
      rw [Nat.mul_one, List.drop_eq_getElem_cons hi]
      rfl
    rw [h2] at h1
    obtain ⟨n, hn, _, wn⟩ := DataW.trod_int he h1
    have e1 : IntKind.u8.min = 0 := rfl
    have e2 : IntKind.u8.max = 255 := rfl
    simp only [Lit.wf, Bool.and_eq_true, decide_eq_true_eq] at wn
    exact ⟨n, by simpa using hn, by omega, by omega⟩
  refine ⟨cs.map fun c => match c with | .int _ n => n | _ => 0, ?_, by simpa using hl, ?_⟩
  · rw [List.map_map]
    conv => lhs; rw [← List.map_id cs]
    refine List.map_congr_left fun c hc => ?_
    obtain ⟨n, rfl, -⟩ := key c hc
    rfl
  · intro x hx
    obtain ⟨c, hc, rfl⟩ := List.mem_map.1 hx
    obtain ⟨n, rfl, h1, h2⟩ := key c hc
    exact ⟨h1, h2⟩

/-- an object: a number and bytes -/
theorem isObj_of {H : Type} {enc : TypeId × Value → H} {P : Program} {W : World} {r : Reach} {b0 : Nat} {t te : TypeId} {f0 f1 : Field} {v : Value} {d : DataW H} {p : List MemPlace}
    (hs : P.underlying t = some (.struct #[f0, f1])) (ct : P.cellsOf t = 2) (o0 : f0.offset = 0) (o1 : f1.offset = 1) (c0 : P.cellsOf f0.type = 1) (c1 : P.cellsOf f1.type = 1)
    (u0 : P.underlying f0.type = some (.int .i64)) (u1 : P.underlying f1.type = some (.slice te)) (ue : P.underlying te = some (.int .u8)) (ce : P.cellsOf te = 1) (be : P.bytesOf te = 1)
    (hv : Value.okWide P W r b0 t v) (hw : WOk P t d) (h : DataW.Trod enc P W 0 (fun _ => true) true t v d p) :
    ∃ k a len cap zs, v = .agg #[.int .i64 k, .slice a len cap] ∧ (Lit.int .i64 k).wf = true ∧ IsInts .u8 1 W a len cap zs := by
  unfold Value.okWide at hv
  simp only [hs] at hv
  obtain ⟨cs, rfl, hsz, -⟩ := hv
  obtain ⟨fuel, hf⟩ := h
  obtain ⟨xs, n, -, hx, -, hxl, hfs⟩ := DataW.trod_struct hs hf
  obtain ⟨l⟩ := cs
  rw [ct] at hsz
  have hl : l.length = 2 := by simpa using hsz
  have e0 := hfs 0 f0 rfl
  have e1 := hfs 1 f1 rfl
  rw [o0, c0, List.getElem?_eq_getElem (by rw [hxl]; simp)] at e0
  rw [o1, c1, List.getElem?_eq_getElem (by rw [hxl]; simp)] at e1
  simp only [Prod.mk.injEq] at hx
  obtain ⟨rfl, -⟩ := hx
  have hw1 : WOk P f1.type (xs[1]'(by rw [hxl]; simp)).1 := wOk_part (i := 1) hs hw rfl (by rw [List.getElem?_map, List.getElem?_eq_getElem (by rw [hxl]; simp)]; rfl)
  obtain ⟨z, hz, _, wz⟩ := DataW.trod_int u0 e0
  obtain ⟨a, len, cap, zs, hsl, hI⟩ := ints_w u1 ue ce be hw1 e1
  refine ⟨z, a, len, cap, zs, ?_, wz, hI⟩
  match l, hl with
  | [x0, x1], _ =>
    have hz' : [x0] = [.int .i64 z] := hz
    have hs' : [x1] = [.slice a len cap] := hsl
    simp only [List.cons.injEq, and_true] at hz' hs'
    rw [hz', hs']
end Go.Proofs.Ytmcmapgllaopmaa.Fr
end

section
/- Rows of bytes. -/
namespace Go.Proofs.Ytmcmapgllaopmaa.Cd
open Go.RowKit
set_option linter.unusedVariables false

theorem ret_int {k : IntKind} {a b : Int} (h : a = b) : Ending.returned (.int k a) = .returned (.int k b) := by rw [h]
theorem ret_bool {a b : Bool} (h : a = b) : Ending.returned (.bool a) = .returned (.bool b) := by rw [h]

/-- the call hands back a row of its own that holds xs; nothing below B turned -/
def OwnRet (B n : Nat) (xs : List Value) (w : World) (e : Ending) (w' : World) : Prop :=
  ∃ v', e = .returned v' ∧ w'.ownsRow B 5 1 v' n xs ∧ Below B w w'

def bv (l : List Int) : List Value := l.map (Value.int .u8)
theorem bv_one (l : List Int) : ∀ u ∈ bv l, u.oneCell' = true := by
  intro u hu
  obtain ⟨x, _, rfl⟩ := List.mem_map.1 hu
  rfl

theorem below_grown {B : Nat} {w w' : World} {v : Value} {n : Nat} {xs : List Value} (hB : B ≤ w.heap.size) (hown : w.ownsRow B 5 1 v n xs) (hg : w.grownBy w' v.ownBlock) : Below B w w' :=
  (Below.refl B w).grown hg hB (fun k hk => by
    rcases hown.2 with ⟨h, _⟩ | ⟨g', cap', cur, h, hge, _⟩
    · rw [h] at hk; simp [Value.ownBlock] at hk
    · rw [h] at hk; simp [Value.ownBlock] at hk; omega)

theorem new_cells (l : List Int) (w : World) (e : TypeId) : ∀ j u, (bv l)[j]? = some u → (w.alloc (.cells (bv l).toArray e)).cell? (Addr.add ⟨w.heap.size, 0, none⟩ j) = some u := by
  intro j u hj
  rw [show Addr.add ⟨w.heap.size, 0, none⟩ j = (⟨w.heap.size, j, none⟩ : Addr) from by simp [Addr.add]; omega, World.cell?_alloc_new]
  simpa using hj
theorem own_eq {w : World} {B e : Nat} {v : Value} {n m : Nat} {xs ys : List Value} (h : w.ownsRow B e 1 v n xs) (hx : xs = ys) (hn : n = m) : w.ownsRow B e 1 v m ys := by
  rw [← hx, ← hn]; exact h
end Go.Proofs.Ytmcmapgllaopmaa.Cd
end

section
/- codec.number: a number's bytes behind a row of the call's own. -/
namespace Go.Proofs.Ytmcmapgllaopmaa.Cd
open Go.RowKit
set_option linter.unusedVariables false

theorem info5 : (Try.prog.info? 5).map (fun i => (i.zero, i.size, i.bytes)) = some (some (.int .u8 0), 1, 1) := by kernel_rfl

/-- a number's k bytes, the highest first -/
def be : Nat → Int → List Int
  | 0, _ => []
  | k + 1, x => x / 2 ^ (8 * k) % 256 :: be k x

theorem be_length : ∀ k x, (be k x).length = k
  | 0, _ => rfl
  | k + 1, x => by simp [be, be_length k x]

set_option maxHeartbeats 1000000 in
theorem number_any (B : Nat) (v : Value) (n : Nat) (xs : List Value) (x : Int) (k : Nat) (w : World) (hB : B ≤ w.heap.size) (hown : w.ownsRow B 5 1 v n xs) (hn : n ≤ 140737488300000) (h0 : 0 ≤ x) (h1 : x < 18446744073709551616) (hk : k ≤ 7) :
    Calls Try.prog 51 #[v, .int .u64 x, .int .i64 k] w (OwnRet B (n + k) (xs ++ bv (be k x)) w) := by
  obtain ⟨i0, hi, hz0, hz1, hz2⟩ := info_parts info5
  have HO := Lib.hid hown
  clear hown
  have HB := Lib.hid (Below.refl B w)
  go_enter Try.func51, Try.ntmps51
  go_wp2
  go_loopw [0, 2] (fun b i wr => ∃ (m q : Nat) (ys : List Int), m + q = k ∧ i = .int .i64 ((m : Int) - 1) ∧ Hid (ys ++ be m x = be k x) ∧ Hid (wr.ownsRow B 5 1 b (n + q) (xs ++ bv ys)) ∧ Hid (Below B w wr)) (fun _ i _ => (intOf i + 1).toNat)
  case atStart => exact ⟨k, 0, [], by omega, rfl, Lib.hid rfl, Lib.hid (by simpa [bv] using HO.out), HB⟩
  case round =>
    clear HB HO
    obtain ⟨m, q, ys, hmq, rfl, HY, HO, HB⟩ := hrel
    have hsz := HB.out.size
    have hm8 : m ≤ 7 := by omega
    rcases (show m = 0 ∨ m = 1 ∨ m = 2 ∨ m = 3 ∨ m = 4 ∨ m = 5 ∨ m = 6 ∨ m = 7 from by omega) with rfl | rfl | rfl | rfl | rfl | rfl | rfl | rfl
    · go_wp2
      go_ret
      have hq : q = k := by omega
      subst hq
      refine ⟨_, rfl, own_eq HO.out ?_ rfl, HB.out⟩
      rw [← HY.out]; simp [be]
    · go_wp2_with (at_builtin; refine wpList_append_own _ rfl _ _ 23 rfl B 5 i0 (.int .u8 0) 1 1 Try.underlying23 hi hz0 hz1 hz2 rfl (by decide) _ _ _ rfl (HO.out.alloc _) ⟨wr.heap.size, 0, none⟩ 1 1 (bv [x % 256]) rfl rfl ?c1 (bv_one _) ?c3 ?c4 ?c5 ?_)
      case c1 => exact new_cells [x % 256] wr _
      case c3 => unfold maxLen; omega
      case c4 => omega
      case c5 => simp; omega
      intro v1 w1 ho hg hn2
      have HO1 : Hid (w1.ownsRow B 5 1 v1 (n + (q + 1)) (xs ++ bv (ys ++ [x % 256]))) := Lib.hid (own_eq ho (by simp [bv]) (by omega))
      have HB1 := Lib.hid (HB.out.trans (((Below.refl B wr).alloc (by omega) _).trans (below_grown (by simp; omega) (HO.out.alloc _) hg)))
      have HY1 : Hid ((ys ++ [x % 256]) ++ be 0 x = be k x) := Lib.hid (by rw [← HY.out]; simp [be])
      clear ho hg hn2 HO HB HY
      go_wp2
      go_roundw
      case rel => exact ⟨0, q + 1, _, by omega, rfl, HY1, HO1, HB1⟩
      case measure => simp [intOf]
    · go_wp2_with (at_builtin; refine wpList_append_own _ rfl _ _ 23 rfl B 5 i0 (.int .u8 0) 1 1 Try.underlying23 hi hz0 hz1 hz2 rfl (by decide) _ _ _ rfl (HO.out.alloc _) ⟨wr.heap.size, 0, none⟩ 1 1 (bv [x / 256 % 256]) rfl rfl ?c1 (bv_one _) ?c3 ?c4 ?c5 ?_)
      case c1 => exact new_cells [x / 256 % 256] wr _
      case c3 => unfold maxLen; omega
      case c4 => omega
      case c5 => simp; omega
      intro v1 w1 ho hg hn2
      have HO1 : Hid (w1.ownsRow B 5 1 v1 (n + (q + 1)) (xs ++ bv (ys ++ [x / 256 % 256]))) := Lib.hid (own_eq ho (by simp [bv]) (by omega))
      have HB1 := Lib.hid (HB.out.trans (((Below.refl B wr).alloc (by omega) _).trans (below_grown (by simp; omega) (HO.out.alloc _) hg)))
      have HY1 : Hid ((ys ++ [x / 256 % 256]) ++ be 1 x = be k x) := Lib.hid (by rw [← HY.out]; simp [be])
      clear ho hg hn2 HO HB HY
      go_wp2
      go_roundw
      case rel => exact ⟨1, q + 1, _, by omega, rfl, HY1, HO1, HB1⟩
      case measure => simp [intOf]
    · go_wp2_with (at_builtin; refine wpList_append_own _ rfl _ _ 23 rfl B 5 i0 (.int .u8 0) 1 1 Try.underlying23 hi hz0 hz1 hz2 rfl (by decide) _ _ _ rfl (HO.out.alloc _) ⟨wr.heap.size, 0, none⟩ 1 1 (bv [x / 65536 % 256]) rfl rfl ?c1 (bv_one _) ?c3 ?c4 ?c5 ?_)
      case c1 => exact new_cells [x / 65536 % 256] wr _
      case c3 => unfold maxLen; omega
      case c4 => omega
      case c5 => simp; omega
      intro v1 w1 ho hg hn2
      have HO1 : Hid (w1.ownsRow B 5 1 v1 (n + (q + 1)) (xs ++ bv (ys ++ [x / 65536 % 256]))) := Lib.hid (own_eq ho (by simp [bv]) (by omega))
      have HB1 := Lib.hid (HB.out.trans (((Below.refl B wr).alloc (by omega) _).trans (below_grown (by simp; omega) (HO.out.alloc _) hg)))
      have HY1 : Hid ((ys ++ [x / 65536 % 256]) ++ be 2 x = be k x) := Lib.hid (by rw [← HY.out]; simp [be])
      clear ho hg hn2 HO HB HY
      go_wp2
      go_roundw
      case rel => exact ⟨2, q + 1, _, by omega, rfl, HY1, HO1, HB1⟩
      case measure => simp [intOf]
    · go_wp2_with (at_builtin; refine wpList_append_own _ rfl _ _ 23 rfl B 5 i0 (.int .u8 0) 1 1 Try.underlying23 hi hz0 hz1 hz2 rfl (by decide) _ _ _ rfl (HO.out.alloc _) ⟨wr.heap.size, 0, none⟩ 1 1 (bv [x / 16777216 % 256]) rfl rfl ?c1 (bv_one _) ?c3 ?c4 ?c5 ?_)
      case c1 => exact new_cells [x / 16777216 % 256] wr _
      case c3 => unfold maxLen; omega
      case c4 => omega
      case c5 => simp; omega
      intro v1 w1 ho hg hn2
      have HO1 : Hid (w1.ownsRow B 5 1 v1 (n + (q + 1)) (xs ++ bv (ys ++ [x / 16777216 % 256]))) := Lib.hid (own_eq ho (by simp [bv]) (by omega))
      have HB1 := Lib.hid (HB.out.trans (((Below.refl B wr).alloc (by omega) _).trans (below_grown (by simp; omega) (HO.out.alloc _) hg)))
      have HY1 : Hid ((ys ++ [x / 16777216 % 256]) ++ be 3 x = be k x) := Lib.hid (by rw [← HY.out]; simp [be])
      clear ho hg hn2 HO HB HY
      go_wp2
      go_roundw
      case rel => exact ⟨3, q + 1, _, by omega, rfl, HY1, HO1, HB1⟩
      case measure => simp [intOf]
    · go_wp2_with (at_builtin; refine wpList_append_own _ rfl _ _ 23 rfl B 5 i0 (.int .u8 0) 1 1 Try.underlying23 hi hz0 hz1 hz2 rfl (by decide) _ _ _ rfl (HO.out.alloc _) ⟨wr.heap.size, 0, none⟩ 1 1 (bv [x / 4294967296 % 256]) rfl rfl ?c1 (bv_one _) ?c3 ?c4 ?c5 ?_)
      case c1 => exact new_cells [x / 4294967296 % 256] wr _
      case c3 => unfold maxLen; omega
      case c4 => omega
      case c5 => simp; omega
      intro v1 w1 ho hg hn2
      have HO1 : Hid (w1.ownsRow B 5 1 v1 (n + (q + 1)) (xs ++ bv (ys ++ [x / 4294967296 % 256]))) := Lib.hid (own_eq ho (by simp [bv]) (by omega))
      have HB1 := Lib.hid (HB.out.trans (((Below.refl B wr).alloc (by omega) _).trans (below_grown (by simp; omega) (HO.out.alloc _) hg)))
      have HY1 : Hid ((ys ++ [x / 4294967296 % 256]) ++ be 4 x = be k x) := Lib.hid (by rw [← HY.out]; simp [be])
      clear ho hg hn2 HO HB HY
      go_wp2
      go_roundw
      case rel => exact ⟨4, q + 1, _, by omega, rfl, HY1, HO1, HB1⟩
      case measure => simp [intOf]
    · go_wp2_with (at_builtin; refine wpList_append_own _ rfl _ _ 23 rfl B 5 i0 (.int .u8 0) 1 1 Try.underlying23 hi hz0 hz1 hz2 rfl (by decide) _ _ _ rfl (HO.out.alloc _) ⟨wr.heap.size, 0, none⟩ 1 1 (bv [x / 1099511627776 % 256]) rfl rfl ?c1 (bv_one _) ?c3 ?c4 ?c5 ?_)
      case c1 => exact new_cells [x / 1099511627776 % 256] wr _
      case c3 => unfold maxLen; omega
      case c4 => omega
      case c5 => simp; omega
      intro v1 w1 ho hg hn2
      have HO1 : Hid (w1.ownsRow B 5 1 v1 (n + (q + 1)) (xs ++ bv (ys ++ [x / 1099511627776 % 256]))) := Lib.hid (own_eq ho (by simp [bv]) (by omega))
      have HB1 := Lib.hid (HB.out.trans (((Below.refl B wr).alloc (by omega) _).trans (below_grown (by simp; omega) (HO.out.alloc _) hg)))
      have HY1 : Hid ((ys ++ [x / 1099511627776 % 256]) ++ be 5 x = be k x) := Lib.hid (by rw [← HY.out]; simp [be])
      clear ho hg hn2 HO HB HY
      go_wp2
      go_roundw
      case rel => exact ⟨5, q + 1, _, by omega, rfl, HY1, HO1, HB1⟩
      case measure => simp [intOf]
    · go_wp2_with (at_builtin; refine wpList_append_own _ rfl _ _ 23 rfl B 5 i0 (.int .u8 0) 1 1 Try.underlying23 hi hz0 hz1 hz2 rfl (by decide) _ _ _ rfl (HO.out.alloc _) ⟨wr.heap.size, 0, none⟩ 1 1 (bv [x / 281474976710656 % 256]) rfl rfl ?c1 (bv_one _) ?c3 ?c4 ?c5 ?_)
      case c1 => exact new_cells [x / 281474976710656 % 256] wr _
      case c3 => unfold maxLen; omega
      case c4 => omega
      case c5 => simp; omega
      intro v1 w1 ho hg hn2
      have HO1 : Hid (w1.ownsRow B 5 1 v1 (n + (q + 1)) (xs ++ bv (ys ++ [x / 281474976710656 % 256]))) := Lib.hid (own_eq ho (by simp [bv]) (by omega))
      have HB1 := Lib.hid (HB.out.trans (((Below.refl B wr).alloc (by omega) _).trans (below_grown (by simp; omega) (HO.out.alloc _) hg)))
      have HY1 : Hid ((ys ++ [x / 281474976710656 % 256]) ++ be 6 x = be k x) := Lib.hid (by rw [← HY.out]; simp [be])
      clear ho hg hn2 HO HB HY
      go_wp2
      go_roundw
      case rel => exact ⟨6, q + 1, _, by omega, rfl, HY1, HO1, HB1⟩
      case measure => simp [intOf]
end Go.Proofs.Ytmcmapgllaopmaa.Cd
end

section
/- codec.Name and the document's. -/
namespace Go.Proofs.Ytmcmapgllaopmaa.Cd
open Go.RowKit
set_option linter.unusedVariables false

set_option maxRecDepth 100000 in
theorem sindex_any (s : ByteArray) (cv : Int) (w : World) :
    Calls Try.prog 81 #[.string s, .int .u8 cv] w fun e w' => e = .returned (.int .i64 (Lib.indexByte s.data.toList cv.toNat.toUInt8)) ∧ w' = w := by
  go_enter Try.func81, Try.ntmps81
  go_wp2
  rw [run_callFunc_extern Try.func106 (by kernel_rfl) (by kernel_rfl) (by kernel_rfl) (e := Extern.BytealgIndexByte.indexByte) (by kernel_rfl), Lib.run_indexByteString]
  simp only [Result.andThen]
  rw [Oper.upon_value]
  go_wp2
  go_ret
  exact ⟨rfl, rfl⟩

/-- may a text stand in a tree? -/
def NmOk (s : ByteArray) : Prop := s.toList ≠ [] ∧ (s.size : Int) ≤ 40 ∧ s.toList ≠ [46] ∧ s.toList ≠ [46, 46] ∧ (47 : UInt8) ∉ s.data.toList ∧ (0 : UInt8) ∉ s.data.toList
instance (s : ByteArray) : Decidable (NmOk s) := by unfold NmOk; infer_instance

theorem idx_mem (l : List UInt8) (c : UInt8) : Lib.indexByte l c < 0 ↔ c ∉ l := by
  constructor
  · intro h hm
    have h1 := Lib.indexByte_ge l c
    obtain ⟨k, hk, rfl⟩ := List.mem_iff_getElem.1 hm
    exact Lib.indexByte_none (show Lib.indexByte l l[k] = -1 by omega) k (List.getElem?_eq_getElem hk)
  · intro h
    by_cases h1 : Lib.indexByte l c < 0
    · exact h1
    · obtain ⟨o, ho⟩ := Int.eq_ofNat_of_zero_le (show 0 ≤ Lib.indexByte l c by omega)
      exact absurd (List.mem_of_getElem? (Lib.indexByte_some ho).1) h

set_option maxRecDepth 100000 in
theorem name_any (s : ByteArray) (w : World) (hs : s.size ≤ maxLen) :
    Calls Try.prog 35 #[.string s] w fun e w' => e = .returned (.bool (decide (NmOk s))) ∧ w' = w := by
  by_cases h1 : s.toList = []
  · have hn : decide (NmOk s) = false := decide_eq_false (fun h => h.1 h1)
    rw [hn]
    go_enter Try.func35, Try.ntmps35
    go_wp2_with fail
    go_ret
    exact ⟨rfl, rfl⟩
  by_cases h2 : (s.size : Int) ≤ 40
  rotate_left 1
  · have hn : decide (NmOk s) = false := decide_eq_false (fun h => h2 h.2.1)
    rw [hn]
    go_enter Try.func35, Try.ntmps35
    go_wp2_with fail
    go_ret
    exact ⟨rfl, rfl⟩
  by_cases h3 : s.toList = [46]
  · have hn : decide (NmOk s) = false := decide_eq_false (fun h => h.2.2.1 h3)
    rw [hn]
    go_enter Try.func35, Try.ntmps35
    go_wp2_with fail
    go_ret
    exact ⟨rfl, rfl⟩
  by_cases h4 : s.toList = [46, 46]
  · have hn : decide (NmOk s) = false := decide_eq_false (fun h => h.2.2.2.1 h4)
    rw [hn]
    go_enter Try.func35, Try.ntmps35
    go_wp2_with fail
    go_ret
    exact ⟨rfl, rfl⟩
  have e1 : s.toList.isEmpty = false := by simpa using h1
  have e2 : decide (40 < (s.size : Int)) = false := by simp; omega
  have e3 : (s.toList == [46]) = false := by simpa using h3
  have e4 : (s.toList == [46, 46]) = false := by simpa using h4
  by_cases h5 : Lib.indexByte s.data.toList (47 : Int).toNat.toUInt8 < 0
  rotate_left 1
  · have hn : decide (NmOk s) = false := decide_eq_false (fun h => h5 ((idx_mem _ _).2 h.2.2.2.2.1))
    have hd : decide (Lib.indexByte s.data.toList (47 : Int).toNat.toUInt8 < 0) = false := decide_eq_false h5
    rw [hn]
    clear hn h1 h2 h3 h4 h5
    generalize hX : Lib.indexByte s.data.toList (47 : Int).toNat.toUInt8 = X at *
    go_enter Try.func35, Try.ntmps35
    go_wp2_with fail
    refine (sindex_any s 47 w).mono ?_
    rintro e w1 ⟨rfl, rfl⟩
    rw [hX]
    go_wp2_with fail
    go_ret
    exact ⟨rfl, rfl⟩
  have hd : decide (Lib.indexByte s.data.toList (47 : Int).toNat.toUInt8 < 0) = true := decide_eq_true h5
  have hn : decide (NmOk s) = decide (Lib.indexByte s.data.toList (0 : Int).toNat.toUInt8 < 0) := by
    rw [decide_eq_decide]
    constructor
    · intro h
      exact (idx_mem _ _).2 h.2.2.2.2.2
    · intro h
      exact ⟨h1, h2, h3, h4, (idx_mem _ _).1 h5, (idx_mem _ _).1 h⟩
  rw [hn]
  clear hn h1 h2 h3 h4 h5
  generalize hX : Lib.indexByte s.data.toList (47 : Int).toNat.toUInt8 = X at *
  generalize hY : Lib.indexByte s.data.toList (0 : Int).toNat.toUInt8 = Y at *
  go_enter Try.func35, Try.ntmps35
  go_wp2_with fail
  refine (sindex_any s 47 w).mono ?_
  rintro e w1 ⟨rfl, rfl⟩
  rw [hX]
  go_wp2_with fail
  refine (sindex_any s 0 _).mono ?_
  rintro e w2 ⟨rfl, rfl⟩
  rw [hY]
  go_wp2_with fail
  go_ret
  exact ⟨rfl, rfl⟩

theorem noks_step (s : ByteArray) (k : Nat) (h : k < s.size) (P : ∀ x ∈ s.data.toList.take k, x ≠ 47 ∧ x ≠ 0) (h1 : ((s[k].toNat : Int) == 47) = false) (h2 : ((s[k].toNat : Int) == 0) = false) : ∀ x ∈ s.data.toList.take (k + 1), x ≠ 47 ∧ x ≠ 0 := by
  intro x hx
  have hk : k < s.data.toList.length := by simpa using h
  rw [List.take_succ_eq_append_getElem hk] at hx
  rcases List.mem_append.1 hx with hx | hx
  · exact P x hx
  · have e0 : x = s.data.toList[k] := by simpa using hx
    have e : x = s[k] := e0
    subst e
    constructor
    · intro e; rw [e] at h1; exact absurd h1 (by decide)
    · intro e; rw [e] at h2; exact absurd h2 (by decide)

set_option maxRecDepth 100000 in
theorem rname_any (s : ByteArray) (w : World) (hs : s.size ≤ maxLen) :
    Calls Try.prog 36 #[.string s] w fun e w' => e = .returned (.bool (decide (NmOk s))) ∧ w' = w := by
  have hlen : s.toList.length = s.size := by rw [Lib.toList_data]; simp
  by_cases h1 : s.toList = []
  · have hn : decide (NmOk s) = false := decide_eq_false (fun h => h.1 h1)
    have hz : s.size = 0 := by rw [← hlen, h1]; rfl
    have e1 : decide ((s.size : Int) < 1) = true := by simp [hz]
    rw [hn]
    clear hn h1 hz hlen
    go_enter Try.func36, Try.ntmps36
    go_wp2_with fail
    go_ret
    exact ⟨rfl, rfl⟩
  have e1 : decide ((s.size : Int) < 1) = false := by
    have : s.toList.length ≠ 0 := fun h => h1 (List.eq_nil_of_length_eq_zero h)
    simp; omega
  by_cases h2 : (s.size : Int) ≤ 40
  rotate_left 1
  · have hn : decide (NmOk s) = false := decide_eq_false (fun h => h2 h.2.1)
    have e2 : decide (40 < (s.size : Int)) = true := by simp; omega
    rw [hn]
    clear hn h1 h2 hlen
    go_enter Try.func36, Try.ntmps36
    go_wp2_with fail
    go_ret
    exact ⟨rfl, rfl⟩
  have e2 : decide (40 < (s.size : Int)) = false := by simp; omega
  by_cases h3 : s.toList = [46]
  · have hn : decide (NmOk s) = false := decide_eq_false (fun h => h.2.2.1 h3)
    have e3 : (s.toList == [46]) = true := by simpa using h3
    rw [hn]
    clear hn h1 h2 hlen h3
    go_enter Try.func36, Try.ntmps36
    go_wp2_with fail
    go_ret
    exact ⟨rfl, rfl⟩
  have e3 : (s.toList == [46]) = false := by simpa using h3
  by_cases h4 : s.toList = [46, 46]
  · have hn : decide (NmOk s) = false := decide_eq_false (fun h => h.2.2.2.1 h4)
    have e4 : (s.toList == [46, 46]) = true := by simpa using h4
    rw [hn]
    clear hn h1 h2 hlen h3 h4
    go_enter Try.func36, Try.ntmps36
    go_wp2_with fail
    go_ret
    exact ⟨rfl, rfl⟩
  have e4 : (s.toList == [46, 46]) = false := by simpa using h4
  have HN : Hid (∀ P : Prop, (P ↔ (47 : UInt8) ∉ s.data.toList ∧ (0 : UInt8) ∉ s.data.toList) → (NmOk s ↔ P)) := Lib.hid (fun P hP => by
    rw [hP]
    exact ⟨fun h => ⟨h.2.2.2.2.1, h.2.2.2.2.2⟩, fun h => ⟨h1, h2, h3, h4, h.1, h.2⟩⟩)
  have hbig : s.size ≤ 40 := by omega
  clear h1 h2 h3 h4 hlen
  go_enter Try.func36, Try.ntmps36
  go_wp2_with fail
  go_loop [3] (fun i => ∃ (k : Nat), k ≤ s.size ∧ i = .int .i64 k ∧ Hid (∀ x ∈ s.data.toList.take k, x ≠ 47 ∧ x ≠ 0)) (fun i => s.size - (intOf i).toNat)
  case atStart => exact ⟨0, Nat.zero_le _, rfl, Lib.hid (by simp)⟩
  case round =>
    obtain ⟨k, hk, rfl, HP⟩ := hrel
    by_cases hlt : k < s.size
    · have hm : s[k] ∈ s.data.toList := List.mem_of_getElem? (i := k) (by rw [List.getElem?_eq_getElem (by simpa using hlt)]; rfl)
      by_cases hx1 : s[k].toNat = 47
      · have hn : decide (NmOk s) = false := decide_eq_false (fun h => ((HN.out _ Iff.rfl).1 h).1 (by rw [show (47 : UInt8) = s[k] from (UInt8.toNat_inj.1 hx1).symm]; exact hm))
        have hd : ((s[k].toNat : Int) == 47) = true := by simp [hx1]
        have HD := Lib.hid (ret_bool hn)
        clear hn hm HP HN
        go_wp2_with fail
        go_ret
        exact ⟨HD.out.symm, rfl⟩
      have hd1 : ((s[k].toNat : Int) == 47) = false := by simp; omega
      by_cases hx2 : s[k].toNat = 0
      · have hn : decide (NmOk s) = false := decide_eq_false (fun h => ((HN.out _ Iff.rfl).1 h).2 (by rw [show (0 : UInt8) = s[k] from (UInt8.toNat_inj.1 hx2).symm]; exact hm))
        have hd : ((s[k].toNat : Int) == 0) = true := by simp [hx2]
        have HD := Lib.hid (ret_bool hn)
        clear hn hm HP HN
        go_wp2_with fail
        go_ret
        exact ⟨HD.out.symm, rfl⟩
      have hd2 : ((s[k].toNat : Int) == 0) = false := by simp; omega
      have HP2 := Lib.hid (noks_step s k hlt HP.out hd1 hd2)
      clear HP hm
      go_wp2_with fail
      go_round
      case rel => exact ⟨k + 1, by omega, by go_num, HP2⟩
      case measure => simp [intOf]; omega
    · have hk2 : k = s.size := by omega
      have hn : decide (NmOk s) = true := decide_eq_true ((HN.out _ Iff.rfl).2 (by
        have e : s.data.toList.take k = s.data.toList := List.take_of_length_le (by simp; omega)
        have h := HP.out
        rw [e] at h
        exact ⟨fun hm => (h _ hm).1 rfl, fun hm => (h _ hm).2 rfl⟩))
      have HD := Lib.hid (ret_bool hn)
      clear hn HP HN
      have hd : decide (k < s.size) = false := by simp; omega
      go_wp2_with fail
      go_ret
      exact ⟨HD.out.symm, rfl⟩

end Go.Proofs.Ytmcmapgllaopmaa.Cd
end

section
/- The chapter's examples, walked. -/
namespace Go.Proofs.Ytmcmapgllaopmaa.Cd
open Go.RowKit
set_option linter.unusedVariables false

theorem below_drewN {B : Nat} {a w : World} (h : Below B a w) (n : Nat) : Below B a (w.drewN n) := ⟨h.os, h.tape, h.output, h.size, h.block⟩

theorem al_lt (w : World) (o : Obj) : w.heap.size < (w.alloc o).heap.size := by show w.heap.size < (w.heap.push o).size; simp
theorem al_le (w : World) (o : Obj) : w.heap.size ≤ (w.alloc o).heap.size := Nat.le_of_lt (al_lt w o)
theorem al_cell (w : World) (cs : Array Value) (t : TypeId) (i : Nat) (v : Value) (h : cs[i]? = some v) : (w.alloc (.cells cs t)).cell? ⟨w.heap.size, i, none⟩ = some v := by
  rw [World.cell?_alloc_new]; exact h
/-- a cell of a new block, and behind what turned nothing below -/
theorem al_cell_b {w w' : World} {cs : Array Value} {t : TypeId} (hb : Below (w.alloc (.cells cs t)).heap.size (w.alloc (.cells cs t)) w') (i : Nat) (v : Value) (h : cs[i]? = some v) : w'.cell? ⟨w.heap.size, i, none⟩ = some v :=
  (hb.cell (p := ⟨w.heap.size, i, none⟩) (al_lt w _)).trans (al_cell w cs t i v h)
theorem al_keep {w : World} {a : Addr} {v : Value} (h : w.cell? a = some v) (o : Obj) : (w.alloc o).cell? a = some v :=
  (World.cell?_alloc_some w a o (by rw [h]; rfl)).trans h
theorem al_below {w w' : World} {o : Obj} (hb : Below (w.alloc o).heap.size (w.alloc o) w') : Below w.heap.size w w' :=
  ((Below.refl w.heap.size w).alloc (Nat.le_refl _) o).trans (hb.mono (al_le w o))

theorem own_lit (w : World) (l : List Int) (hl : l.length ≤ maxLen) : (w.alloc (.cells (bv l).toArray 5)).ownsRow w.heap.size 5 1 (.slice (some ⟨w.heap.size, 0, none⟩) l.length l.length) l.length (bv l) :=
  ⟨by simp [bv], .inr ⟨w.heap.size, l.length, (bv l).toArray, rfl, Nat.le_refl _, by show (w.heap.push _)[w.heap.size]? = _; simp, Nat.le_refl _, hl, by simp [bv], by rw [Nat.mul_one, List.take_of_length_le (by simp [bv])]⟩⟩
theorem own_base {w : World} {B B' e sz n : Nat} {v : Value} {xs : List Value} (h : w.ownsRow B e sz v n xs) (hB : B' ≤ B) : w.ownsRow B' e sz v n xs := by
  refine ⟨h.1, ?_⟩
  rcases h.2 with h2 | ⟨g, cap, cur, hv, hb, r⟩
  · exact .inl h2
  · exact .inr ⟨g, cap, cur, hv, Nat.le_trans hB hb, r⟩
theorem own_open {w : World} {B e sz n : Nat} {v : Value} {xs : List Value} (h : w.ownsRow B e sz v n xs) (hn : 0 < n) : ∃ g c, v = .slice (some ⟨g, 0, none⟩) n c ∧ n ≤ c ∧ c ≤ maxLen := by
  rcases h.2 with ⟨_, h2⟩ | ⟨g, cap, cur, hv, hb, _, h1, h2, _⟩
  · omega
  · exact ⟨g, cap, hv, h1, h2⟩

set_option maxRecDepth 100000 in
theorem ended_nil (g : Nat) (w : World) (h0 : w.cell? ⟨g, 0, none⟩ = some (.slice none 0 0)) (h1 : w.cell? ⟨g, 1, none⟩ = some (.int .i64 0)) :
    Calls Try.prog 44 #[.pointer (some ⟨g, 0, none⟩)] w fun e w' => e = .returned (.bool true) ∧ Below w.heap.size w w' := by
  have HB := Lib.hid (Below.refl w.heap.size w)
  go_enter Try.func44, Try.ntmps44
  go_wp2
  go_quiet (fail)
  go_wp2
  go_ret
  exact ⟨rfl, below_drewN HB.out _⟩

set_option maxRecDepth 100000 in
theorem parseTree_nil (w : World) :
    Calls Try.prog 14 #[.slice none 0 0] w fun e w' => e = .returned (.tuple #[.slice none 0 0, .int .i64 0]) ∧ Below w.heap.size w w' := by
  go_enter Try.func14, Try.ntmps14
  go_wp2_with fail
  go_loopw [9] (fun s wr => s = undef ∧ wr = w.alloc (.cells #[.slice none 0 0, .int .i64 0, .int .i64 0, .slice none 0 0] 96)) (fun _ _ => 0)
  case atStart => exact ⟨rfl, rfl⟩
  case round =>
    obtain ⟨rfl, rfl⟩ := hrel
    go_wp2_with fail
    refine (ended_nil _ _ (al_cell _ _ _ 0 _ rfl) (al_cell _ _ _ 1 _ rfl)).mono ?_
    rintro e w1 ⟨rfl, hb⟩
    have hc : w1.cell? ⟨w.heap.size, 3, none⟩ = some (.slice none 0 0) := al_cell_b hb 3 _ rfl
    have HB := Lib.hid (al_below hb)
    clear hb
    go_wp2_with fail
    go_ret2
    exact ⟨rfl, HB.out⟩

set_option maxRecDepth 100000 in
theorem check_tree_nil (w : World) :
    Calls Try.prog 57 #[.agg #[.int .i64 2, .slice none 0 0]] w fun e w' => e = .returned (.tuple #[.int .u8 116, .int .i64 0]) ∧ Below w.heap.size w w' := by
  go_enter Try.func57, Try.ntmps57
  go_wp2_with fail
  refine (parseTree_nil _).mono ?_
  rintro e w1 ⟨rfl, hb⟩
  have HB := Lib.hid (al_below hb)
  clear hb
  go_wp2_with fail
  go_ret2
  exact ⟨rfl, HB.out⟩

set_option maxRecDepth 100000 in
theorem encodeObj_tree_nil (w : World) :
    Calls Try.prog 22 #[.agg #[.int .i64 2, .slice none 0 0]] w fun e w' => ∃ v, e = .returned (.tuple #[v, .int .i64 0]) ∧ w'.ownsRow w.heap.size 5 1 v 5 (bv [116, 0, 0, 0, 0]) ∧ Below w.heap.size w w' := by
  go_enter Try.func22, Try.ntmps22
  go_wp2_with fail
  refine (check_tree_nil _).mono ?_
  rintro e w1 ⟨rfl, hb⟩
  have HB := Lib.hid (al_below hb)
  have hc0 := al_cell_b hb 1 _ rfl
  have hlt : w.heap.size < w1.heap.size := Nat.lt_of_lt_of_le (al_lt w _) hb.size
  have hc : ∀ o, (w1.alloc o).cell? ⟨w.heap.size, 1, none⟩ = some (.slice none 0 0) := al_keep hc0
  clear hb
  go_wp2_with fail
  have hsz := HB.out.size
  refine (number_any w1.heap.size _ 1 (bv [116]) 0 4 _ (al_le w1 _) (own_lit w1 [116] (by decide)) (by omega) (by omega) (by omega) (by omega)).mono ?_
  rintro e w2 ⟨v, rfl, ho, hb2⟩
  have hb3 := ((Below.refl w1.heap.size w1).alloc (Nat.le_refl _) (.cells (bv [116]).toArray 5)).trans hb2
  have HB2 := Lib.hid (HB.out.trans (hb3.mono hsz))
  obtain ⟨g, c, rfl, hc1, hc2⟩ := own_open ho (by omega)
  have HO := Lib.hid (own_base ho hsz)
  have hc3 : w2.cell? ⟨w.heap.size, 1, none⟩ = some (.slice none 0 0) := (hb3.cell (p := ⟨w.heap.size, 1, none⟩) hlt).trans hc0
  clear hb2 hb3 ho hc hc0
  go_wp2_with fail
  go_ret2
  exact ⟨_, rfl, HO.out, HB2.out⟩

end Go.Proofs.Ytmcmapgllaopmaa.Cd
end

section
/- Ids are compared. -/
namespace Go.Proofs.Ytmcmapgllaopmaa.Cd
open Go.RowKit
set_option linter.unusedVariables false

theorem items_eq (d : Nat) (xs ys : List Int) (w : World) : ∀ is : List Nat, (∀ i ∈ is, i < xs.length ∧ i < ys.length) →
    (Op.eqItems (d + 1) 5 1 (bv xs).toArray (bv ys).toArray is).run Try.prog w = .ok (is.all fun i => xs.getD i 0 == ys.getD i 0) w
  | [], _ => rfl
  | i :: is, h => by
    obtain ⟨h1, h2⟩ := h i (List.mem_cons_self ..)
    have ih := items_eq d xs ys w is (fun j hj => h j (List.mem_cons_of_mem _ hj))
    have p1 := run_part_plain (P := Try.prog) w (e := 5) (by kernel_rfl) (xs := (bv xs).toArray) (off := i * 1) (v := .int .u8 (xs.getD i 0)) (by simp [bv, h1])
    have p2 := run_part_plain (P := Try.prog) w (e := 5) (by kernel_rfl) (xs := (bv ys).toArray) (off := i * 1) (v := .int .u8 (ys.getD i 0)) (by simp [bv, h2])
    simp only [Op.eqItems, Sem.run_bind, p1, p2, Result.andThen_ok, run_equalIn_int w d 5 .u8 .u8 _ _ Try.underlying5, List.all_cons]
    cases hb : xs.getD i 0 == ys.getD i 0
    · simp
    · simpa [hb] using ih

theorem all_range (xs ys : List Int) (n : Nat) (hx : xs.length = n) (hy : ys.length = n) : ((List.range n).all fun i => xs.getD i 0 == ys.getD i 0) = decide (xs = ys) := by
  rw [Bool.eq_iff_iff, List.all_eq_true, decide_eq_true_eq]
  constructor
  · intro h
    refine List.ext_getElem (by omega) fun i h1 h2 => ?_
    have := h i (List.mem_range.2 (by omega))
    simpa [h1, h2] using this
  · rintro rfl i _
    simp

/-- two Ids are compared -/
theorem ids_eq (a b : List Int) (ha : a.length = 32) (hb : b.length = 32) (w : World) :
    (Op.equalIn 10000 37 (.agg (bv a).toArray) (.agg (bv b).toArray)).run Try.prog w = .ok (decide (a = b)) w := by
  obtain ⟨i, hi⟩ := info_of_underlying (P := Try.prog) Try.underlying5
  rw [run_equalIn_array w 9999 (n := 32) (e := 5) (bv a).toArray (bv b).toArray Try.underlying37 hi, show Try.prog.cellsOf 5 = 1 from by kernel_rfl]
  rw [items_eq 9998 a b w _ (fun i hi => by have := List.mem_range.1 hi; omega), all_range a b 32 ha hb]

/-- is an Id none? -/
theorem ids_none (a : List Int) (ha : a.length = 32) (w : World) :
    (Op.equalIn 10000 37 (.agg (bv a).toArray) (.agg (bv (List.replicate 32 0)).toArray)).run Try.prog w = .ok (decide (a = List.replicate 32 0)) w := ids_eq a _ ha (by simp) w
end Go.Proofs.Ytmcmapgllaopmaa.Cd
end

section
/- A tree of one entry, encoded. -/
namespace Go.Proofs.Ytmcmapgllaopmaa.Cd
open Go.RowKit
set_option linter.unusedVariables false

theorem nm_a : NmOk ⟨#[97]⟩ := by
  unfold NmOk
  rw [Lib.toList_data]
  decide
theorem nm_a' : decide (NmOk ⟨#[97]⟩) = true := decide_eq_true nm_a

/-- an entry's cells -/
def ent (s : ByteArray) (k : Int) (ids : List Int) : List Value := .string s :: .int .i64 k :: bv ids

theorem ent_cells (s : ByteArray) (k : Int) (ids : List Int) : (Value.agg (ent s k ids).toArray).cells = (ent s k ids).toArray := rfl

theorem ent_range (s : ByteArray) (k : Int) (ids : List Int) (w : World) (t : TypeId) : (w.alloc (.cells (ent s k ids).toArray t)).rangeAt w.heap.size 0 (ent s k ids) := by
  intro j v hv
  rw [Nat.zero_add, World.cell?_alloc_new]
  simpa using hv
theorem ent_range2 (s : ByteArray) (k : Int) (ids : List Int) (w : World) (t : TypeId) : (w.alloc (.cells (ent s k ids).toArray t)).rangeAt w.heap.size 2 (bv ids) := by
  intro j v hv
  rw [World.cell?_alloc_new]
  rw [show 2 + j = j + 1 + 1 from by omega]
  simpa [ent] using hv

set_option maxRecDepth 100000 in
theorem checkEntry_one (g0 c0 : Nat) (ids : List Int) (hids : ids.length = 32) (hne : ids ≠ List.replicate 32 0) (w : World) :
    Calls Try.prog 40 #[.agg (ent ⟨#[97]⟩ 1 ids).toArray, .slice (some ⟨g0, 0, none⟩) 0 c0] w fun e w' => e = .returned (.int .i64 0) ∧ Below w.heap.size w w' := by
  have hq : ∀ W, (Op.equalIn 10000 37 (.agg (bv ids).toArray) (.agg #[.int .u8 0, .int .u8 0, .int .u8 0, .int .u8 0, .int .u8 0, .int .u8 0, .int .u8 0, .int .u8 0, .int .u8 0, .int .u8 0, .int .u8 0, .int .u8 0, .int .u8 0, .int .u8 0, .int .u8 0, .int .u8 0, .int .u8 0, .int .u8 0, .int .u8 0, .int .u8 0, .int .u8 0, .int .u8 0, .int .u8 0, .int .u8 0, .int .u8 0, .int .u8 0, .int .u8 0, .int .u8 0, .int .u8 0, .int .u8 0, .int .u8 0, .int .u8 0])).run Try.prog W = .ok false W := fun W => (ids_none ids hids W).trans (by rw [decide_eq_false hne])
  have hcl := ent_cells ⟨#[97]⟩ 1 ids
  have h0 := al_cell w (ent ⟨#[97]⟩ 1 ids).toArray 87 0 (.string ⟨#[97]⟩) rfl
  have h1 := al_cell w (ent ⟨#[97]⟩ 1 ids).toArray 87 1 (.int .i64 1) rfl
  have HR := Lib.hid (ent_range2 ⟨#[97]⟩ 1 ids w 87)
  have HL := Lib.hid (show (Try.prog.info? 37).map (·.size) = some (bv ids).length by rw [bv, List.length_map, hids]; kernel_rfl)
  generalize hE : ent ⟨#[97]⟩ 1 ids = E at *
  have HE := Lib.hid hE
  clear hE hids hne
  have HA := Lib.hid ((Below.refl w.heap.size w).alloc (Nat.le_refl _) (.cells E.toArray 87))
  go_enter Try.func40, Try.ntmps40
  go_wp2_with fail
  refine (name_any ⟨#[97]⟩ _ (by decide)).mono ?_
  rintro e w1 ⟨rfl, rfl⟩
  rw [nm_a']
  go_wp2_with (refine wpList_load_mid rfl _ _ rfl w.heap.size 2 rfl (bv ids) _ HR.out Try.underlying37 rfl HL.out ?_)
  go_quiet (fail)
  go_wp2
  go_ret
  exact ⟨rfl, below_drewN HA.out _⟩

end Go.Proofs.Ytmcmapgllaopmaa.Cd
end

section
/- codec.text: a text behind a row. -/
namespace Go.Proofs.Ytmcmapgllaopmaa.Cd
open Go.RowKit
set_option linter.unusedVariables false

set_option maxHeartbeats 1000000 in
theorem text_any (B : Nat) (v : Value) (n : Nat) (xs : List Value) (s : ByteArray) (k : Nat) (w : World) (hB : B ≤ w.heap.size) (hown : w.ownsRow B 5 1 v n xs) (hn : n ≤ 140730000000000) (hs : s.size ≤ 1000000000) (hk : k ≤ 7) :
    Calls Try.prog 41 #[v, .string s, .int .i64 k] w (OwnRet B (n + k + s.size) (xs ++ (bv (be k s.size) ++ Lib.strCells s)) w) := by
  obtain ⟨i0, hi, hz0, hz1, hz2⟩ := info_parts info5
  have hmx : (140737488355328 : Nat) ≤ maxLen := by unfold maxLen; omega
  have HO := Lib.hid hown

  clear hown
  go_enter Try.func41, Try.ntmps41
  go_wp2_with fail
  refine (number_any B v n xs s.size k w hB HO.out (by omega) (by omega) (by omega) hk).mono ?_
  rintro e w1 ⟨v1, rfl, ho1, hb1⟩
  have HB1 := Lib.hid hb1
  have HO1 := Lib.hid ho1
  have hsz := hb1.size
  clear ho1 hb1
  go_wp2_with (at_builtin; refine Lib.wpList_append_own_string _ rfl _ _ _ _ rfl B 5 i0 Try.underlying23 Try.underlying9 hi hz0 hz1 hz2 _ _ _ rfl HO1.out s rfl (by omega) (by omega) (by omega) ?_)
  intro v' w' ho hg hv
  have HB' := Lib.hid (HB1.out.trans (below_grown (by omega) HO1.out hg))
  have HO' := Lib.hid ho
  clear ho hg hv
  go_wp2
  go_ret
  exact ⟨_, rfl, HO'.out, HB'.out⟩
end Go.Proofs.Ytmcmapgllaopmaa.Cd
end

section
/- codec.EncodeTree at one entry. -/
namespace Go.Proofs.Ytmcmapgllaopmaa.Cd
open Go.RowKit
set_option linter.unusedVariables false

theorem own_none (w : World) (B : Nat) : w.ownsRow B 5 1 (.slice none 0 0) 0 (bv []) := ⟨rfl, .inl ⟨rfl, rfl⟩⟩

theorem frz_new (w : World) (z : Array Value) (t : TypeId) (j : Nat) : (w.alloc (.cells z t)).frozen? ⟨w.heap.size, j, none⟩ = false := by
  have h : (w.alloc (.cells z t)).heap[w.heap.size]? = some (.cells z t (0, 0)) := by show (w.heap.push _)[w.heap.size]? = _; simp
  simp only [World.frozen?, h]
  simp

theorem range_ent {w : World} {b : Nat} {s : ByteArray} {k : Int} {ids : List Int} (h : w.rangeAt b 0 (ent s k ids)) : w.cell? ⟨b, 0, none⟩ = some (.string s) ∧ w.cell? ⟨b, 1, none⟩ = some (.int .i64 k) ∧ w.rangeAt b 2 (bv ids) :=
  ⟨h 0 _ rfl, h 1 _ rfl, fun j v hv => by
    have := h (j + 2) v hv
    rw [Nat.zero_add, Nat.add_comm] at this
    exact this⟩
theorem range_below {B : Nat} {w w' : World} (hb : Below B w w') {b o : Nat} {cs : List Value} (h : w.rangeAt b o cs) (hB : b < B) : w'.rangeAt b o cs :=
  fun j v hv => (hb.cell (p := ⟨b, o + j, none⟩) hB).trans (h j v hv)

theorem there_new (w : World) (z : Array Value) (t : TypeId) (n : Nat) (h : n ≤ z.size) : (w.alloc (.cells z t)).there w.heap.size 0 n := by
  intro j hj
  constructor
  · rw [Nat.zero_add, World.cell?_alloc_new]
    simp; omega
  · rw [Nat.zero_add]
    exact frz_new w z t j

theorem below_setCells {B : Nat} {a : World} (b : Nat) (hb : B ≤ b) : ∀ (vs : List Value) (o : Nat) (w : World), Below B a w → Below B a (w.setCells b o vs)
  | [], _, _, h => h
  | v :: vs, o, w, h => below_setCells b hb vs (o + 1) _ (h.setCell (p := ⟨b, o, none⟩) hb v)

set_option maxRecDepth 100000 in
set_option maxHeartbeats 1000000 in
theorem encodeTree_one (g : Nat) (ids : List Int) (hids : ids.length = 32) (hne : ids ≠ List.replicate 32 0) (w : World) (hg : g < w.heap.size) (hr : w.rangeAt g 0 (ent ⟨#[97]⟩ 1 ids)) :
    Calls Try.prog 12 #[.slice (some ⟨g, 0, none⟩) 1 1] w fun e w' => ∃ v, e = .returned (.tuple #[v, .int .i64 0]) ∧ w'.ownsRow w.heap.size 5 1 v 35 (bv (1 :: 1 :: 97 :: ids)) ∧ Below w.heap.size w w' := by
  obtain ⟨i0, hi, hz0, hz1, hz2⟩ := info_parts info5
  have hcl := ent_cells ⟨#[97]⟩ 1 ids
  have HL := Lib.hid (show (Try.prog.info? 87).map (·.size) = some (ent ⟨#[97]⟩ 1 ids).length by rw [ent, List.length_cons, List.length_cons, bv, List.length_map, hids]; kernel_rfl)
  have HR := Lib.hid hr
  clear hr
  have H1 := Lib.hid (show (ent ⟨#[97]⟩ 1 ids).toArray.all (·.oneCell') = true by
    refine all_oneCell_toArray fun v hv => ?_
    rcases List.mem_cons.1 hv with rfl | hv
    · rfl
    · rcases List.mem_cons.1 hv with rfl | hv
      · rfl
      · exact bv_one _ _ hv)
  have HS : Hid ((Try.prog.info? 87).map (·.size) = some (ent ⟨#[97]⟩ 1 ids).toArray.size) := Lib.hid (by rw [List.size_toArray]; exact HL.out)
  have hsz := Lib.hid (show (ent ⟨#[97]⟩ 1 ids).toArray.size ≤ 34 by rw [List.size_toArray, ent, List.length_cons, List.length_cons, bv, List.length_map, hids]; omega)
  generalize hE : ent ⟨#[97]⟩ 1 ids = E at *
  go_enter Try.func12, Try.ntmps12
  go_wp2_with fail
  go_loopw [4, 13] (fun b i wr => (b = .slice none 0 0 ∧ i = .int .i64 0 ∧ wr = w) ∨ (∃ v, b = v ∧ i = .int .i64 1 ∧ Hid (wr.ownsRow w.heap.size 5 1 v 35 (bv (1 :: 1 :: 97 :: ids))) ∧ Hid (Below w.heap.size w wr))) (fun _ i _ => 1 - (intOf i).toNat)
  case atStart => exact .inl ⟨rfl, rfl, rfl⟩
  case round =>
    rcases hrel with ⟨rfl, rfl, rfl⟩ | ⟨v, rfl, rfl, HO, HB⟩
    rotate_left 1
    · go_wp2
      go_ret2
      exact ⟨_, rfl, HO.out, HB.out⟩
    go_wp2_with (first
      | (refine wpList_load_mid rfl _ _ rfl g 0 rfl E _ HR.out Try.underlying87 rfl HL.out ?_)
      | (refine wpList_store_mid rfl _ _ _ rfl wr.heap.size 0 E.toArray rfl rfl (there_new wr _ _ _ hsz.out) HS.out H1.out ?_; generalize hX : World.setCells _ _ _ _ = wX; have HX := Lib.hid hX; clear hX))
    have hRX : wX.rangeAt wr.heap.size 0 E := by
      rw [← HX.out]
      exact World.rangeAt_setCells_same _ _ _ _ (there_new wr _ _ _ hsz.out)
    have HBX : Hid (Below wr.heap.size wr wX) := by
      rw [← HX.out]
      exact below_setCells _ (Nat.le_refl _) _ _ _ ((Below.refl _ _).alloc (Nat.le_refl _) _)
    have hlt : wr.heap.size < wX.heap.size := by
      rw [← HX.out]
      exact Nat.lt_of_lt_of_le (al_lt wr _) (below_setCells (B := 0) _ (Nat.zero_le _) _ _ _ (Below.refl 0 _)).size
    clear HX
    have HSa : Hid (wX.drew.rangeAt wr.heap.size 0 E) := Lib.hid ((World.rangeAt_drew _ _ _ _).2 hRX)
    have HBD : Hid (Below wr.heap.size wr wX.drew) := Lib.hid HBX.out.drew
    have hlt2 : wr.heap.size < wX.drew.heap.size := hlt
    clear hRX
    have hEE := HL.out
    refine wp_region_noPanic ?_
    refine wp_region_held_drew (S := (fun wS => wS.rangeAt wr.heap.size 0 E)) (by kernel_rfl) ?_ (fun hHeld => ?_)
    · ((try dsimp only); exact HSa.out)
    refine' wpAnyH_take (i := 0) (oi := { dst := some 18, op := Op.load 87 (Operand.tmp 6), type := 87, pos := "tree.go:12", after := #[], guard := none }) (v := _) rfl (by kernel_rfl) (by kernel_rfl) (by kernel_rfl) (fun _ _ _ h => h) (yieldsIf_load_mid (by rfl) _ _ rfl _ _ rfl E _ (fun w hSw => hSw) Try.underlying87 rfl HL.out) (by assumption) ?_
    (try simp only [Act.put, List.setIfInBounds_toArray, List.set_cons_zero, List.set_cons_succ])
    refine wpAnyH_take (i := 1) (oi := { dst := some 19, op := Op.move (Operand.tmp 0), type := 22, pos := "tree.go:12", after := #[], guard := none }) (v := ?_) rfl (by kernel_rfl) (by kernel_rfl) (by kernel_rfl) (fun _ _ _ h => h) (Or.inl ⟨by rfl, ?_⟩) (by assumption) ?_
    rotate_left 1
    · ((intro w hSw; (try dsimp only at hSw); go_simp) <;> with_reducible rfl)
    (try simp only [Act.put, List.setIfInBounds_toArray, List.set_cons_zero, List.set_cons_succ])
    refine wpAnyH_take (i := 2) (oi := { dst := some 20, op := Op.move (Operand.tmp 5), type := 3, pos := "tree.go:12", after := #[], guard := none }) (v := ?_) rfl (by kernel_rfl) (by kernel_rfl) (by kernel_rfl) (fun _ _ _ h => h) (Or.inl ⟨by rfl, ?_⟩) (by assumption) ?_
    rotate_left 1
    · ((intro w hSw; (try dsimp only at hSw); go_simp) <;> with_reducible rfl)
    (try simp only [Act.put, List.setIfInBounds_toArray, List.set_cons_zero, List.set_cons_succ])
    refine wpAnyH_take (i := 3) (oi := { dst := some 21, op := Op.slice 22 (Operand.tmp 19) none (some (Operand.tmp 20)) none, type := 22, pos := "tree.go:12", after := #[{ on := 1, ground := Ground.data }, { on := 2, ground := Ground.data }], guard := none }) (v := ?_) rfl (by kernel_rfl) (by kernel_rfl) (by kernel_rfl) (fun _ _ _ h => h) (Or.inl ⟨by rfl, ?_⟩) (by assumption) ?_
    rotate_left 1
    · ((intro w hSw; (try dsimp only at hSw); go_simp) <;> with_reducible rfl)
    (try simp only [Act.put, List.setIfInBounds_toArray, List.set_cons_zero, List.set_cons_succ])
    refine wpAnyH_ready (rs := [4]) (by kernel_rfl) (by simp) ?_
    refine AllReadyH.cons (o := { dst := some 22, op := Op.call { callee := Callee.value (Operand.func 40), args := #[Operand.tmp 18, Operand.tmp 21], argTypes := #[87, 22] }, type := 25, pos := "tree.go:12", after := #[{ on := 0, ground := Ground.data }, { on := 3, ground := Ground.data }], guard := none }) rfl (fun K hK => ?_) ?_
    · go_simp
      rw [← hE]
      refine (checkEntry_one _ _ ids hids hne _).mono ?_
      rintro e w7 ⟨rfl, hb7⟩
      rw [hE]
      have HB7 := Lib.hid (HBD.out.trans (hb7.mono (Nat.le_of_lt hlt2)))
      have HSa := Lib.hid (range_below hb7 HSa.out hlt2)
      have hsz7 := hb7.size
      clear hb7
      (try go_wp2_with fail)
      refine hK.out _ _ ?_ (fun hNew => ?_)
      · ((try dsimp only); exact HSa.out)
      clear hK K hHeld
      have hHeld := hNew
      clear hNew
      (try simp only [Act.put, List.setIfInBounds_toArray, List.set_cons_zero, List.set_cons_succ])
      refine wpAnyH_take (i := 5) (oi := { dst := some 7, op := Op.assign (Operand.tmp 22), type := 25, pos := "tree.go:12", after := #[{ on := 4, ground := Ground.data }, { on := 4, ground := Ground.chain }, { on := 0, ground := Ground.phase }, { on := 1, ground := Ground.phase }, { on := 2, ground := Ground.phase }, { on := 3, ground := Ground.phase }, { on := 4, ground := Ground.phase }], guard := none }) (v := ?_) rfl (by kernel_rfl) (by kernel_rfl) (by kernel_rfl) (fun _ _ _ h => h) (Or.inl ⟨by rfl, ?_⟩) (by assumption) ?_
      rotate_left 1
      · ((intro w hSw; (try dsimp only at hSw); go_simp) <;> with_reducible rfl)
      (try simp only [Act.put, List.setIfInBounds_toArray, List.set_cons_zero, List.set_cons_succ])
      refine wpAnyH_done (by kernel_rfl) ?_ _
      refine NoPanic.normal ?_
      have hEE := HSa.out
      rw [← hE] at hEE
      obtain ⟨hc0, hc1, hr2⟩ := range_ent hEE
      have hszw := HB7.out.size
      have hltw : wr.heap.size < w7.heap.size := Nat.lt_of_lt_of_le hlt2 hsz7
      have HR2 := Lib.hid hr2
      have HC0 := Lib.hid hc0
      clear hEE hc0 hr2
      go_wp2_with (at_builtin; refine wpList_append_own _ rfl _ _ 23 rfl w7.heap.size 5 i0 (.int .u8 0) 1 1 Try.underlying23 hi hz0 hz1 hz2 rfl (by decide) _ 0 (bv []) rfl (own_none _ _) ⟨w7.heap.size, 0, none⟩ 1 1 (bv [1]) rfl rfl ?c1 (bv_one _) ?c3 ?c4 ?c5 ?_)
      case c1 => exact new_cells [1] w7 _
      case c3 => unfold maxLen; omega
      case c4 => omega
      case c5 => exact al_le w7 _
      intro v8 w8 ho8 hg8 hnil8
      have hb78 : Below w7.heap.size w7 w8 := ((Below.refl w7.heap.size w7).alloc (Nat.le_refl _) (.cells (bv [1]).toArray 5)).trans (below_grown (al_le w7 _) (own_none _ _) hg8)
      have HB8 := Lib.hid (HB7.out.trans (hb78.mono hszw))
      have hc8 : w8.cell? ⟨wr.heap.size, 0, none⟩ = some (.string ⟨#[97]⟩) := (hb78.cell (p := ⟨wr.heap.size, 0, none⟩) hltw).trans HC0.out
      have HR8 := Lib.hid (range_below hb78 HR2.out hltw)
      have HO8 := Lib.hid ho8
      have hsz8 := hb78.size
      clear ho8 hg8 hnil8 hb78 hc1
      go_wp2_with fail
      refine (text_any w7.heap.size v8 _ _ ⟨#[97]⟩ 1 w8 hsz8 HO8.out (by omega) (by decide) (by omega)).mono ?_
      rintro e w9 ⟨v9, rfl, ho9, hb9⟩
      have HB9 := Lib.hid (HB8.out.trans (hb9.mono hszw))
      have hsz79 := Nat.le_trans hsz8 hb9.size
      have HO9 := Lib.hid ho9
      clear ho9 hc8
      have HR9 : Hid (∀ j u, (bv ids)[j]? = some u → w9.cell? (Addr.add ⟨wr.heap.size, 2, none⟩ j) = some u) := Lib.hid (fun j u hj => by
        rw [Addr.add_mid]
        exact (hb9.cell (p := ⟨wr.heap.size, 2 + j, none⟩) hltw).trans (HR8.out j u hj))
      have hsz9 := hb9.size
      clear hb9
      go_wp2_with (at_builtin; refine wpList_append_own _ rfl _ _ 23 rfl w7.heap.size 5 i0 (.int .u8 0) 1 1 Try.underlying23 hi hz0 hz1 hz2 rfl (by decide) _ _ _ rfl HO9.out ⟨wr.heap.size, 2, none⟩ 32 32 (bv ids) rfl (by rw [bv, List.length_map, hids]) HR9.out (bv_one _) ?c3 ?c4 ?c5 ?_)
      case c3 => show _ ≤ maxLen; rw [show (ByteArray.mk #[97]).size = 1 from rfl]; unfold maxLen; omega
      case c4 => rw [show (ByteArray.mk #[97]).size = 1 from rfl]; omega
      case c5 => exact hsz79
      intro v10 w10 ho10 hg10 hnil10
      have HO10 := Lib.hid (own_base (own_eq (ys := bv (1 :: 1 :: 97 :: ids)) (m := 35) ho10 (by simp [bv, be, Lib.strCells]) (by rfl)) hszw)
      have HB10 := Lib.hid (HB9.out.trans ((below_grown hsz79 HO9.out hg10).mono hszw))
      clear ho10 hg10 hnil10
      go_wp2_with fail
      go_roundw
      case rel => exact .inr ⟨_, rfl, by go_num, HO10, HB10⟩
      case measure => simp [intOf]
    exact AllReadyH.nil
end Go.Proofs.Ytmcmapgllaopmaa.Cd
end

section
/- known of chapter 4. -/
namespace Go.Proofs.Ytmcmapgllaopmaa.Cd
open Go.RowKit
set_option linter.unusedVariables false

/-- bytes as text -/
def sb (l : List Int) : ByteArray := l.foldl (fun r n => r.push (UInt8.ofNat n.toNat)) ByteArray.empty

theorem conv_cells (w : World) (a : Addr) (l : List Int) (cap n : Nat) (hn : l.length = n) (h : ∀ j u, (bv l)[j]? = some u → w.cell? (a.add j) = some u) :
    (convert 23 9 (.slice (some a) n cap)).run Try.prog w = .ok (.string (sb l)) w := by
  rw [run_convert_bytes_string w _ _ 5 (some a) n cap Try.underlying23 Try.underlying5 Try.underlying9]
  have hl := run_loadCells_list (P := Try.prog) w a (bv l) h
  have e : (bv l).length = n := by simp [bv, hn]
  rw [e] at hl
  exact run_bytesToString w a n cap l hl

/-- the first m bytes of a row of one's own, as text -/
theorem conv_own {w : World} {B g n C : Nat} {l : List Int} (h : w.ownsRow B 5 1 (.slice (some ⟨g, 0, none⟩) n C) n (bv l)) (m : Nat) (hm : m ≤ n) :
    (convert 23 9 (.slice (some ⟨g, 0, none⟩) m C)).run Try.prog w = .ok (.string (sb (l.take m))) w := by
  have hl : l.length = n := by have := h.1; simpa [bv] using this
  refine conv_cells w _ (l.take m) C m (by rw [List.length_take]; omega) ?_
  intro j u hj
  obtain ⟨hj1, hj2⟩ := List.getElem?_eq_some_iff.1 hj
  rw [bv, List.length_map, List.length_take] at hj1
  rw [show Addr.add ⟨g, 0, none⟩ j = (⟨g, j, none⟩ : Addr) from by simp [Addr.add]; omega, h.cellAt j (by omega), ← hj]
  simp [bv, show j < m by omega]

theorem own_keep {w w' : World} {B e sz n : Nat} {v : Value} {xs : List Value} (h : w.ownsRow B e sz v n xs) (hb : Below w.heap.size w w') : w'.ownsRow B e sz v n xs := by
  refine ⟨h.1, ?_⟩
  rcases h.2 with h2 | ⟨g, cap, cur, hv, hB, hh, r⟩
  · exact .inl h2
  · exact .inr ⟨g, cap, cur, hv, hB, (hb.block g (by
      rcases Nat.lt_or_ge g w.heap.size with h3 | h3
      · exact h3
      · rw [Array.getElem?_eq_none h3] at hh; simp at hh)).trans hh, r⟩

theorem q1 : ((sb [116, 0, 0, 0, 0]).toList == [116, 0, 0, 0, 0]) = true := by rw [Lib.toList_data]; decide
theorem q2 : ((sb [1, 1, 97, 7]).toList == [1, 1, 97, 7]) = true := by rw [Lib.toList_data]; decide

set_option maxRecDepth 100000 in
set_option maxHeartbeats 1000000 in
theorem known_any (w : World) : Calls Try.prog 11 #[] w fun e w' => e = .returned (.bool true) ∧ Below w.heap.size w w' := by
  have hq1 := q1
  have hq2 := q2
  go_enter Try.func11, Try.ntmps11
  go_wp2_with fail
  refine (encodeObj_tree_nil w).mono ?_
  rintro e w1 ⟨v1, rfl, ho1, hb1⟩
  have HO1 := Lib.hid ho1
  have HB1 := Lib.hid hb1
  have hsz1 := hb1.size
  clear ho1 hb1
  go_wp2_with fail
  refine (encodeTree_one w1.heap.size (7 :: List.replicate 31 0) (by decide) (by decide) _ (al_lt w1 _) (ent_range ⟨#[97]⟩ 1 (7 :: List.replicate 31 0) w1 87)).mono ?_
  rintro e w2 ⟨v2, rfl, ho2, hb2⟩
  have hb2' : Below w1.heap.size w1 w2 := al_below hb2
  have HB2 := Lib.hid (HB1.out.trans (hb2'.mono hsz1))
  have ho1 := own_keep HO1.out hb2'
  obtain ⟨g1, c1, rfl, hc1, hd1⟩ := own_open ho1 (by omega)
  obtain ⟨g2, c2, rfl, hc2, hd2⟩ := own_open ho2 (by omega)
  have hv1 := conv_own ho1 5 (by omega)
  have hv2 := conv_own ho2 4 (by omega)
  rw [show List.take 5 [116, 0, 0, 0, 0] = [(116 : Int), 0, 0, 0, 0] from rfl] at hv1
  rw [show List.take 4 (1 :: 1 :: 97 :: 7 :: List.replicate 31 0) = [(1 : Int), 1, 97, 7] from rfl] at hv2
  clear ho1 ho2 hb2 hb2' HO1
  go_wp2
  go_ret
  exact ⟨rfl, HB2.out⟩
end Go.Proofs.Ytmcmapgllaopmaa.Cd
end

section
/- Bytes that are read; rows. -/
namespace Go.Proofs.Ytmcmapgllaopmaa.Cd
open Go.RowKit
set_option linter.unusedVariables false

/-- a row that is stored whole -/
theorem row_setCells (b : Nat) (t : TypeId) (n : Nat) : ∀ (vs : List Value) (o : Nat) (w : World) (f : Nat → Value), w.rowIs b t n f → (w.setCells b o vs).rowIs b t n (fun j => if o ≤ j ∧ j < o + vs.length then vs.getD (j - o) undef else f j)
  | [], o, w, f, h => h.congr fun j hj => by rw [if_neg (by simp)]
  | v :: vs, o, w, f, h => by
    refine (row_setCells b t n vs (o + 1) _ _ (h.set o v)).congr fun j hj => ?_
    by_cases e : j = o
    · subst e
      rw [if_neg (by omega), if_pos rfl, if_pos (by simp)]
      simp
    · by_cases e2 : o + 1 ≤ j ∧ j < o + 1 + vs.length
      · rw [if_pos e2, if_pos (by simp; omega)]
        have : j - o = (j - (o + 1)) + 1 := by omega
        rw [this]
        simp
      · rw [if_neg e2, if_neg e, if_neg (by simp; omega)]

theorem row_new (w : World) (z : Array Value) (t : TypeId) : (w.alloc (.cells z t)).rowIs w.heap.size t z.size (fun i => z.getD i undef) :=
  ⟨z, by show (w.heap.push _)[w.heap.size]? = _; simp, rfl, fun i hi => by simp [hi]⟩
/-- a row's block, its cells told by a list -/
theorem row_block {w : World} {b : Nat} {t : TypeId} {n : Nat} {f : Nat → Value} (h : w.rowIs b t n f) (l : List Value) (hl : l.length = n) (hf : ∀ i, i < n → f i = l.getD i undef) : w.heap[b]? = some (.cells l.toArray t (0, 0)) := by
  obtain ⟨c, hb, hn, hc⟩ := h
  have : c = l.toArray := by
    apply Array.ext_getElem?
    intro i
    by_cases hi : i < n
    · rw [hc i hi, hf i hi]
      simp [hl, hi]
    · rw [Array.getElem?_eq_none (by omega), Array.getElem?_eq_none (by simp; omega)]
  rw [hb, this]

theorem row_stored {w : World} {b : Nat} {t : TypeId} {n : Nat} {f : Nat → Value} (h : w.rowIs b t n f) (vs : List Value) (hl : vs.length = n) : (w.setCells b 0 vs).heap[b]? = some (.cells vs.toArray t (0, 0)) :=
  row_block (row_setCells b t n vs 0 w f h) vs hl (fun i hi => by rw [if_pos (by omega), Nat.sub_zero])

/-- bytes laid over the waiting ones -/
def layF (F : Nat → Value) (o : Nat) (vs : List Value) : Nat → Value := fun j => if o ≤ j ∧ j < o + vs.length then vs.getD (j - o) undef else F j

theorem row_lay {w : World} {b : Nat} {t : TypeId} {n : Nat} {F : Nat → Value} (h : w.rowIs b t n F) (o : Nat) (vs : List Value) : (w.setCells b o vs).rowIs b t n (layF F o vs) := row_setCells b t n vs o w F h

theorem zeros_at (N i : Nat) (h : i < N) : (bv (List.replicate N 0)).toArray.getD i undef = .int .u8 0 := by simp [bv, h]
theorem row_apart {b E : Nat} {t : TypeId} {n : Nat} {F : Nat → Value} (hne : b ≠ E) : ∀ (vs : List Value) (o : Nat) (w : World), w.rowIs b t n F → (w.setCells E o vs).rowIs b t n F
  | [], _, _, h => h
  | v :: vs, o, w, h => row_apart hne vs (o + 1) _ (h.setOther hne v)
theorem bv_len (l : List Int) : (bv l).length = l.length := by rw [bv, List.length_map]

theorem bv_zero (N j : Nat) (h : j < N) : (bv (List.replicate N 0))[j]? = some (.int .u8 0) := by simp [bv, h]
theorem row_zeros (w : World) (N : Nat) (t : TypeId) : (w.alloc (.cells (bv (List.replicate N 0)).toArray t)).rowIs w.heap.size t N (fun _ => .int .u8 0) := by
  have h := row_new w (bv (List.replicate N 0)).toArray t
  have hl : (bv (List.replicate N 0)).toArray.size = N := by simp [bv]
  rw [hl] at h
  exact h.congr fun i hi => zeros_at N i hi

theorem wp_copy_mid {w : World} {o : Oper} {a : Act} {K : Act → World → Prop} {Q : Exit → Act → World → Prop} (d s : Operand)
    (ho : o.op = .call { callee := .builtin .copy, args := #[d, s], argTypes := #[23, 23] })
    (dp sp : Option Addr) (dLen dCap sLen sCap : Nat) (hd : a.eval d = .slice dp dLen dCap) (hs : a.eval s = .slice sp sLen sCap)
    (g off : Nat) (cs : List Value) (hn : cs.length = Nat.min sLen dLen)
    (hpos : 0 < cs.length → dp = some ⟨g, off, none⟩ ∧ ∃ ad, sp = some ad ∧ ∀ j v, cs[j]? = some v → w.cell? (ad.add j) = some v)
    (hc : ∀ j, j < cs.length → (w.cell? ⟨g, off + j, none⟩).isSome = true) (hf : ∀ j, j < cs.length → w.frozen? ⟨g, off + j, none⟩ = false) (h1 : ∀ v ∈ cs, v.oneCell' = true)
    (h : K (a.put o.dst (goInt cs.length)) (w.setCells g off cs)) : o.wp Try.prog a w K Q := by
  have hz : (Try.prog.info? 5).map (·.size) = some 1 := by kernel_rfl
  by_cases h0 : cs.length = 0
  · obtain rfl : cs = [] := List.eq_nil_of_length_eq_zero h0
    have hrun := run_copy_none (P := Try.prog) w 23 23 o.type 5 dp sp dLen dCap sLen sCap Try.underlying23 hz (by simpa using hn.symm)
    unfold Oper.wp
    simp [execOp, ho, resolve, invoke, builtin, hd, hs, hrun, Result.andThen]
    exact h
  · obtain ⟨rfl, ad, rfl, hsrc⟩ := hpos (by omega)
    have hrun := run_copy_cells (P := Try.prog) w 23 23 o.type 5 g off dLen dCap ad sLen sCap cs Try.underlying23 hz hn hsrc hc hf h1
    unfold Oper.wp
    simp [execOp, ho, resolve, invoke, builtin, hd, hs, hrun, Result.andThen]
    exact h

theorem wpList_copy_mid {w : World} {ops : Array Oper} {rest : List Oper} {o : Oper} {a : Act} {Q : Exit → Act → World → Prop} (hgd : o.guard = none) (d s : Operand)
    (ho : o.op = .call { callee := .builtin .copy, args := #[d, s], argTypes := #[23, 23] })
    (dp sp : Option Addr) (dLen dCap sLen sCap : Nat) (hd : a.eval d = .slice dp dLen dCap) (hs : a.eval s = .slice sp sLen sCap)
    (g off : Nat) (cs : List Value) (hn : cs.length = Nat.min sLen dLen)
    (hpos : 0 < cs.length → dp = some ⟨g, off, none⟩ ∧ ∃ ad, sp = some ad ∧ ∀ j v, cs[j]? = some v → w.cell? (ad.add j) = some v)
    (hc : ∀ j, j < cs.length → (w.cell? ⟨g, off + j, none⟩).isSome = true) (hf : ∀ j, j < cs.length → w.frozen? ⟨g, off + j, none⟩ = false) (h1 : ∀ v ∈ cs, v.oneCell' = true)
    (h : wpList Try.prog ops Q rest (a.put o.dst (goInt cs.length)) (w.setCells g off cs)) : wpList Try.prog ops Q (o :: rest) a w :=
  wpList_plain hgd fun _ hK => wp_copy_mid d s ho dp sp dLen dCap sLen sCap hd hs g off cs hn hpos hc hf h1 (hK _ _ h)

/-- a slice of bytes that is read -/
structure RdB (w : World) (A : Option Addr) (n C : Nat) (l : List Int) : Prop where
  len : l.length = n
  cap : n ≤ C
  max : C ≤ 9223372036854775807
  big : n ≤ 140737488355328
  none : A = none → C = 0
  byte : ∀ i, i < n → 0 ≤ l.getD i 0 ∧ l.getD i 0 ≤ 255
  cell : ∀ x, A = some x → (0 < n → x.block < w.heap.size) ∧ ∀ i, i < n → w.cell? (x.add i) = some (.int .u8 (l.getD i 0))

theorem RdB.below {w w' : World} {A : Option Addr} {n C : Nat} {l : List Int} (h : RdB w A n C l) (hb : Below w.heap.size w w') : RdB w' A n C l :=
  ⟨h.len, h.cap, h.max, h.big, h.none, h.byte, fun x hx => by
    obtain ⟨h1, h2⟩ := h.cell x hx
    refine ⟨fun h0 => Nat.lt_of_lt_of_le (h1 h0) hb.size, fun i hi => ?_⟩
    rw [hb.cell (p := x.add i) (by have : (x.add i).block = x.block := by unfold Addr.add; split <;> rfl
                                   rw [this]; exact h1 (by omega))]
    exact h2 i hi⟩

theorem own_slice' {w : World} {B e sz n : Nat} {v : Value} {xs : List Value} (h : w.ownsRow B e sz v n xs) : ∃ A c, v = .slice A n c := by
  rcases h.2 with ⟨rfl, rfl⟩ | ⟨g, cap, cur, rfl, _⟩ <;> exact ⟨_, _, rfl⟩

theorem rd_of_ints {w : World} {a : Option Addr} {len cap : Nat} {zs : List Int} (h : Fr.IsInts .u8 1 w a len cap zs) : RdB w a len cap zs := by
  rcases h with ⟨rfl, rfl, rfl, rfl⟩ | ⟨x, rfl, hl, hm, hz, hc, hw⟩
  · exact ⟨rfl, Nat.le_refl _, by omega, by omega, fun _ => rfl, fun i hi => absurd hi (by omega), fun x hx => by cases hx⟩
  · refine ⟨hz, hl, by omega, by omega, (fun hn => by cases hn), ?_, ?_⟩
    · intro i hi
      have hm : zs.getD i 0 ∈ zs := by rw [List.getD_eq_getElem?_getD, List.getElem?_eq_getElem (by omega)]; exact List.getElem_mem _
      have h1 := hw _ hm
      have e1 : IntKind.u8.min = 0 := rfl
      have e2 : IntKind.u8.max = 255 := rfl
      simp only [Lit.wf, Bool.and_eq_true, decide_eq_true_eq] at h1
      omega
    · intro y hy
      obtain rfl := Option.some.inj hy
      exact ⟨fun h0 => by simpa [Addr.add] using block_lt_of_cell (hc 0 h0), hc⟩
theorem RdB.of_own {w : World} {B g n C : Nat} {l : List Int} (h : w.ownsRow B 5 1 (.slice (some ⟨g, 0, Option.none⟩) n C) n (bv l)) (hn : n ≤ 140737488355328) (hb : ∀ i, i < n → 0 ≤ l.getD i 0 ∧ l.getD i 0 ≤ 255) : RdB w (some ⟨g, 0, Option.none⟩) n C l := by
  have h1 := h.1
  rw [bv, List.length_map] at h1
  rcases h.2 with ⟨hv, _⟩ | ⟨g', cap, cur, hv, hg, hh, hc1, hc2, hc3, ht⟩
  · simp at hv
  · simp only [Value.slice.injEq, Option.some.injEq, Addr.mk.injEq, and_true, true_and] at hv
    obtain ⟨rfl, rfl⟩ := hv
    refine ⟨by omega, hc1, hc2, hn, (fun hn => by cases hn), hb, fun x hx => ?_⟩
    obtain rfl := Option.some.inj hx
    have hl : g < w.heap.size := by
      rcases Nat.lt_or_ge g w.heap.size with h | h
      · exact h
      · rw [Array.getElem?_eq_none h] at hh; simp at hh
    refine ⟨fun _ => hl, fun i hi => ?_⟩
    rw [show Addr.add ⟨g, 0, Option.none⟩ i = (⟨g, i, Option.none⟩ : Addr) from by simp [Addr.add]; omega, World.ownsRow.cellAt h i (by omega)]
    simp [bv, show i < l.length by omega]
theorem RdB.nil (w : World) : RdB w Option.none 0 0 [] := ⟨rfl, Nat.le_refl _, by omega, by omega, fun _ => rfl, fun i hi => absurd hi (by omega), fun x hx => by cases hx⟩
/-- any own row of bytes is read -/
theorem RdB.of_own' {w : World} {B n : Nat} {v : Value} {l : List Int} (h : w.ownsRow B 5 1 v n (bv l)) (hn : n ≤ 140737488355328) (hb : ∀ i, i < n → 0 ≤ l.getD i 0 ∧ l.getD i 0 ≤ 255) : ∃ A C, v = .slice A n C ∧ RdB w A n C l := by
  rcases h.2 with ⟨rfl, rfl⟩ | ⟨g, cap, cur, rfl, hg, hh, hc1, hc2, hc3, ht⟩
  · have h1 := h.1
    have : l = [] := List.eq_nil_of_length_eq_zero (by simpa [bv] using h1)
    subst this
    exact ⟨Option.none, 0, rfl, RdB.nil w⟩
  · exact ⟨_, _, rfl, RdB.of_own h hn hb⟩
/-- where its first cell lies -/
theorem RdB.at {w : World} {A : Option Addr} {n C : Nat} {l : List Int} (h : RdB w A n C l) (h0 : 0 < n) : ∃ g o, A = some ⟨g, o, Option.none⟩ ∧ g < w.heap.size ∧ ∀ i, i < n → w.cell? ⟨g, o + i, Option.none⟩ = some (.int .u8 (l.getD i 0)) := by
  cases hA : A with
  | none => have := h.none hA; have := h.cap; omega
  | some x =>
    obtain ⟨h1, h2⟩ := h.cell x hA
    obtain ⟨b, off, spot⟩ := x
    have hspot : spot = Option.none := by simpa [Addr.add] using World.cell?_spot (h2 0 h0)
    subst hspot
    exact ⟨b, off, rfl, h1 h0, fun i hi => by rw [← h2 i hi]; congr 1; simp [Addr.add]⟩
theorem RdB.of_own2 {w : World} {B n : Nat} {A : Option Addr} {C : Nat} {l : List Int} (h : w.ownsRow B 5 1 (.slice A n C) n (bv l)) (hn : n ≤ 140737488355328) (hb : ∀ i, i < n → 0 ≤ l.getD i 0 ∧ l.getD i 0 ≤ 255) : RdB w A n C l := by
  obtain ⟨A2, C2, he, hr⟩ := RdB.of_own' h hn hb
  simp only [Value.slice.injEq, true_and] at he
  obtain ⟨rfl, rfl⟩ := he
  exact hr
theorem conv_rd {w : World} {A : Option Addr} {n C : Nat} {l : List Int} (h : RdB w A n C l) : (convert 23 9 (.slice A n C)).run Try.prog w = .ok (.string (sb l)) w := by
  cases A with
  | none =>
    have hc := h.none rfl
    have hn : n = 0 := by have := h.cap; omega
    subst hn
    obtain rfl : l = [] := List.eq_nil_of_length_eq_zero h.len
    exact Lib.run_convert_nil_bytes w _ _ 5 C Try.underlying23 Try.underlying5 Try.underlying9
  | some a =>
    obtain ⟨h1, h2⟩ := h.cell a rfl
    have hl := h.len
    refine conv_cells w a l C n h.len ?_
    intro j u hj
    obtain ⟨hj1, hj2⟩ := List.getElem?_eq_some_iff.1 hj
    rw [bv, List.length_map] at hj1
    rw [h2 j (by omega), ← hj]
    simp [bv, hj1]

theorem wpList_append_rd (w : World) {ops : Array Oper} {rest : List Oper} {o : Oper} {a : Act} {Q : Exit → Act → World → Prop} (hgd : o.guard = none) (s x : Operand)
    (ho : o.op = .call { callee := .builtin .append, args := #[s, x], argTypes := #[23, 23] })
    (B : Nat) (v : Value) (n : Nat) (d : List Int) (hs : a.eval s = v) (hown : w.ownsRow B 5 1 v n (bv d))
    (A : Option Addr) (m c : Nat) (l : List Int) (hx : a.eval x = .slice A m c) (hsl : RdB w A m c l)
    (hbytes : (n + m) * 1 ≤ 140737488355328) (hbase : B ≤ w.heap.size)
    (h : ∀ A' C' w', w'.ownsRow B 5 1 (.slice A' (n + m) C') (n + m) (bv (d ++ l)) → Below B w w' → wpList Try.prog ops Q rest (a.put o.dst (.slice A' (n + m) C')) w') :
    wpList Try.prog ops Q (o :: rest) a w := by
  refine wpList_plain hgd fun K hK => ?_
  obtain ⟨i0, hi, hz0, hz1, hz2⟩ := info_parts info5
  have key : ∃ A' C' w', (Builtin.append_ #[23, 23] o.type #[v, .slice A m c]).run Try.prog w = .ok (.slice A' (n + m) C') w' ∧ w'.ownsRow B 5 1 (.slice A' (n + m) C') (n + m) (bv (d ++ l)) ∧ Below B w w' := by
    cases A with
    | none =>
      have hc := hsl.none rfl
      have hm : m = 0 := by have := hsl.cap; omega
      subst hm hc
      obtain rfl : l = [] := List.eq_nil_of_length_eq_zero hsl.len
      obtain ⟨A', C', rfl⟩ := own_slice' hown
      refine ⟨A', C', w, run_append_owned_none (P := Try.prog) w B 23 o.type 5 i0 1 Try.underlying23 hi _ _ _ hown, ?_, Below.refl B w⟩
      rw [List.append_nil]
      exact hown
    | some y =>
      obtain ⟨-, hcc⟩ := hsl.cell y rfl
      have hll := hsl.len
      have hnw : ∀ j u, (bv l)[j]? = some u → w.cell? (y.add j) = some u := by
        intro j u hj
        have hj1 := (List.getElem?_eq_some_iff.1 hj).1
        rw [bv, List.length_map, hll] at hj1
        rw [hcc j hj1, ← hj]
        simp [bv, hll, hj1]
      obtain ⟨v', w', hr, h2, h3, h4⟩ := run_append_own (P := Try.prog) w B 23 o.type 5 i0 (.int .u8 0) 1 1 Try.underlying23 hi hz0 hz1 hz2 rfl (by decide) v n (bv d) hown y m c (bv l) (by rw [bv, List.length_map, hll]; omega) hnw (bv_one l) (by unfold maxLen; omega) hbytes hbase
      obtain ⟨A', C', rfl⟩ := own_slice' h2
      exact ⟨A', C', w', hr, by rw [show bv (d ++ l) = bv d ++ bv l from by simp [bv]]; exact h2, below_grown hbase hown h3⟩
  obtain ⟨A', C', w', hr, h2, h3⟩ := key
  unfold Oper.wp execOp
  simp only [ho, resolve, invoke, builtin, Sem.run_bind, Sem.run_pure, Result.andThen_ok, List.map_toArray, List.map_cons, List.map_nil, hs, hx, hr]
  exact hK _ _ (h A' C' w' h2 h3)

end Go.Proofs.Ytmcmapgllaopmaa.Cd
end

section
/- The reader: what stands in its block. -/
namespace Go.Proofs.Ytmcmapgllaopmaa.Cd
open Go.RowKit
set_option linter.unusedVariables false

/-- the reader's cells: what it goes through, where it is, what failed; E: the cells behind -/
def rG (A : Option Addr) (L C at' : Nat) (f : Int) (E : Nat → Value) : Nat → Value
  | 0 => .slice A L C
  | 1 => .int .i64 (at' : Int)
  | 2 => .int .i64 f
  | j + 3 => E (j + 3)

/-- a reader at 'at', over the bytes l -/
structure Rdr (w : World) (R N : Nat) (t : TypeId) (A : Option Addr) (L C : Nat) (l : List Int) (at' : Nat) (f : Int) (E : Nat → Value) : Prop where
  row : w.rowIs R t N (rG A L C at' f E)
  hN : 3 ≤ N
  rd : RdB w A L C l
  apart : ∀ x, A = some x → 0 < L → x.block ≠ R
  le : at' ≤ L

theorem cell_grown {w w' : World} {R : Nat} (hg : w.grownBy w' (some R)) {p : Addr} (hp : p.block < w.heap.size) (hne : p.block ≠ R) : w'.cell? p = w.cell? p := by
  have h := hg.block p.block hp (fun e => hne (Option.some.inj e))
  unfold World.cell?
  rw [h]
theorem RdB.grown {w w' : World} {A : Option Addr} {n C : Nat} {l : List Int} {R : Nat} (h : RdB w A n C l) (hg : w.grownBy w' (some R)) (hne : ∀ x, A = some x → 0 < n → x.block ≠ R) : RdB w' A n C l :=
  ⟨h.len, h.cap, h.max, h.big, h.none, h.byte, fun x hx => by
    obtain ⟨h1, h2⟩ := h.cell x hx
    refine ⟨fun h0 => Nat.lt_of_lt_of_le (h1 h0) hg.size, fun i hi => ?_⟩
    have hb : (x.add i).block = x.block := by unfold Addr.add; split <;> rfl
    rw [cell_grown hg (by rw [hb]; exact h1 (by omega)) (by rw [hb]; exact hne x hx (by omega))]
    exact h2 i hi⟩
theorem grown_set (w : World) (R i : Nat) (v : Value) : w.grownBy (w.setCell ⟨R, i, none⟩ v) (some R) :=
  ⟨rfl, rfl, rfl, by simp [World.setCell], fun k hk hne => Below.heap_setCell w ⟨R, i, none⟩ v k (fun e => hne (by rw [e]))⟩
theorem grown_trans {a b c : World} {H : Nat} (h : a.grownBy b (some H)) (k : b.grownBy c (some H)) : a.grownBy c (some H) :=
  ⟨k.os.trans h.os, k.tape.trans h.tape, k.output.trans h.output, Nat.le_trans h.size k.size, fun i hi hne => (k.block i (Nat.lt_of_lt_of_le hi h.size) hne).trans (h.block i hi hne)⟩
theorem Rdr.setF {w : World} {R N : Nat} {t : TypeId} {A : Option Addr} {L C : Nat} {l : List Int} {at' : Nat} {f : Int} {E : Nat → Value} (h : Rdr w R N t A L C l at' f E) (g : Int) : Rdr (w.setCell ⟨R, 2, none⟩ (.int .i64 g)) R N t A L C l at' g E :=
  ⟨(h.row.set 2 _).congr (fun j _ => by
    match j with
    | 0 => rfl
    | 1 => rfl
    | 2 => rfl
    | j + 3 => rfl), h.hN, h.rd.grown (grown_set w R 2 _) h.apart, h.apart, h.le⟩
theorem Rdr.setAt {w : World} {R N : Nat} {t : TypeId} {A : Option Addr} {L C : Nat} {l : List Int} {at' : Nat} {f : Int} {E : Nat → Value} (h : Rdr w R N t A L C l at' f E) (a : Nat) (ha : a ≤ L) : Rdr (w.setCell ⟨R, 1, none⟩ (.int .i64 (a : Int))) R N t A L C l a f E :=
  ⟨(h.row.set 1 _).congr (fun j _ => by
    match j with
    | 0 => rfl
    | 1 => rfl
    | 2 => rfl
    | j + 3 => rfl), h.hN, h.rd.grown (grown_set w R 1 _) h.apart, h.apart, ha⟩
theorem Rdr.drewN {w : World} {R N : Nat} {t : TypeId} {A : Option Addr} {L C : Nat} {l : List Int} {at' : Nat} {f : Int} {E : Nat → Value} (h : Rdr w R N t A L C l at' f E) (n : Nat) : Rdr (w.drewN n) R N t A L C l at' f E :=
  ⟨h.row, h.hN, ⟨h.rd.len, h.rd.cap, h.rd.max, h.rd.big, h.rd.none, h.rd.byte, h.rd.cell⟩, h.apart, h.le⟩
theorem Rdr.below {w w' : World} {R N : Nat} {t : TypeId} {A : Option Addr} {L C : Nat} {l : List Int} {at' : Nat} {f : Int} {E : Nat → Value} (h : Rdr w R N t A L C l at' f E) (hb : Below w.heap.size w w') : Rdr w' R N t A L C l at' f E :=
  ⟨h.row.of_block (hb.block R h.row.lt), h.hN, h.rd.below hb, h.apart, h.le⟩
theorem Rdr.c0 {w : World} {R N : Nat} {t : TypeId} {A : Option Addr} {L C : Nat} {l : List Int} {at' : Nat} {f : Int} {E : Nat → Value} (h : Rdr w R N t A L C l at' f E) : w.cell? ⟨R, 0, none⟩ = some (.slice A L C) := h.row.cell (by have := h.hN; omega)
theorem Rdr.c1 {w : World} {R N : Nat} {t : TypeId} {A : Option Addr} {L C : Nat} {l : List Int} {at' : Nat} {f : Int} {E : Nat → Value} (h : Rdr w R N t A L C l at' f E) : w.cell? ⟨R, 1, none⟩ = some (.int .i64 (at' : Int)) := h.row.cell (by have := h.hN; omega)
theorem Rdr.c2 {w : World} {R N : Nat} {t : TypeId} {A : Option Addr} {L C : Nat} {l : List Int} {at' : Nat} {f : Int} {E : Nat → Value} (h : Rdr w R N t A L C l at' f E) : w.cell? ⟨R, 2, none⟩ = some (.int .i64 f) := h.row.cell (by have := h.hN; omega)

/-- what failed first -/
def fl (f e : Int) : Int := if f = 0 then e else f

theorem fail_any (R N : Nat) (t : TypeId) (A : Option Addr) (L C : Nat) (l : List Int) (at' : Nat) (f e : Int) (E : Nat → Value) (w : World) (h : Rdr w R N t A L C l at' f E) :
    Calls Try.prog 85 #[.pointer (some ⟨R, 0, none⟩), .int .i64 e] w fun e' w' => e' = .returned (.tuple #[]) ∧ Rdr w' R N t A L C l at' (fl f e) E ∧ w.grownBy w' (some R) := by
  have hc := h.c2
  have hf := h.row.frozen 2
  have HS := Lib.hid (h.setF e)
  have H := Lib.hid h
  have HG := Lib.hid (grown_set w R 2 (.int .i64 e))
  have HG0 := Lib.hid (World.grownBy.refl w (some R))
  clear h
  by_cases h0 : f = 0
  · have e1 : fl f e = e := by unfold fl; rw [if_pos h0]
    rw [e1]
    have hd : (f == 0) = true := by simp [h0]
    clear e1 h0
    go_enter Try.func85, Try.ntmps85
    go_wp2
    go_end0
    exact ⟨rfl, HS.out, HG.out⟩
  · have e1 : fl f e = f := by unfold fl; rw [if_neg h0]
    rw [e1]
    have hd : (f == 0) = false := by simp [h0]
    clear e1 h0
    go_enter Try.func85, Try.ntmps85
    go_wp2
    go_end0
    exact ⟨rfl, H.out, HG0.out⟩

theorem ok_any (R N : Nat) (t : TypeId) (A : Option Addr) (L C : Nat) (l : List Int) (at' : Nat) (f : Int) (E : Nat → Value) (w : World) (h : Rdr w R N t A L C l at' f E) :
    Calls Try.prog 46 #[.pointer (some ⟨R, 0, none⟩)] w fun e' w' => e' = .returned (.bool (f == 0)) ∧ w' = w := by
  have hc := h.c2
  clear h
  go_enter Try.func46, Try.ntmps46
  go_wp2
  go_ret
  exact ⟨rfl, rfl⟩
end Go.Proofs.Ytmcmapgllaopmaa.Cd
end
