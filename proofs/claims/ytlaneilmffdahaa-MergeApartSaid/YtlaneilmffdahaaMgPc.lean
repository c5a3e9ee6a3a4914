/- Chunks in memory: a row of chunks of one's own, the rows of strings of each in blocks of their own. -/
import Derived.Test.YtlaneilmffdahaaMgRow
import Derived.Test.YtlaneilmffdahaaMgLaws
namespace Go.Proofs.Ytlaneilmffdahaa.Mg
open Go.RowKit Go.Proofs.Ytlaneilmffdahaa.Ln
set_option linter.unusedVariables false

/-- a chunk with its slices -/
structure Cv where
  k : Int
  vb : Value
  vo : Value
  vt : Value
  b : List ByteArray
  o : List ByteArray
  t : List ByteArray
def Cv.ch (c : Cv) : Ch := ⟨c.k, c.b, c.o, c.t⟩
def Cv.cells (c : Cv) : List Value := [.int .i64 c.k, c.vb, c.vo, c.vt]
def Cv.rows (c : Cv) : List (Value × List ByteArray) := [(c.vb, c.b), (c.vo, c.o), (c.vt, c.t)]
def cvs (l : List Cv) : List Value := l.flatMap Cv.cells
def rws (l : List Cv) : List (Value × List ByteArray) := l.flatMap Cv.rows
theorem cvs_len (l : List Cv) : (cvs l).length = l.length * 4 := by
  unfold cvs
  induction l with
  | nil => rfl
  | cons c l ih => simp only [List.flatMap_cons, List.length_append, ih, Cv.cells, List.length_cons, List.length_nil]; omega
theorem cvs_append (l m : List Cv) : cvs (l ++ m) = cvs l ++ cvs m := by simp [cvs]
theorem cvs_one (c : Cv) : cvs [c] = c.cells := by simp [cvs]
theorem rws_append (l m : List Cv) : rws (l ++ m) = rws l ++ rws m := by simp [rws]
theorem rws_one (c : Cv) : rws [c] = c.rows := by simp [rws]
theorem cvs_one' (l : List Cv) (h : ∀ c ∈ l, c.vb.oneCell' = true ∧ c.vo.oneCell' = true ∧ c.vt.oneCell' = true) : ∀ u ∈ cvs l, u.oneCell' = true := by
  intro u hu
  obtain ⟨c, hc, hu⟩ := List.mem_flatMap.1 hu
  obtain ⟨h1, h2, h3⟩ := h c hc
  simp only [Cv.cells, List.mem_cons, List.not_mem_nil, or_false] at hu
  rcases hu with rfl | rfl | rfl | rfl
  · rfl
  · exact h1
  · exact h2
  · exact h3
/-- the cells of one chunk -/
theorem cvs_get (l : List Cv) (i : Nat) (h : i < l.length) (j : Nat) (hj : j < 4) : (cvs l)[i * 4 + j]? = (l[i].cells)[j]? := by
  induction l generalizing i with
  | nil => simp at h
  | cons c l ih =>
    have e : cvs (c :: l) = c.cells ++ cvs l := rfl
    have hc : c.cells.length = 4 := rfl
    cases i with
    | zero => rw [e, Nat.zero_mul, Nat.zero_add, List.getElem?_append_left (by omega)]; rfl
    | succ i =>
      rw [e, List.getElem?_append_right (by omega), hc, show (i + 1) * 4 + j - 4 = i * 4 + j by omega]
      simpa using ih i (by simpa using h)

theorem zeroCh : (Try.prog.info? 37).map (fun i => (i.zero, i.size, i.bytes)) = some (some (.agg #[.int .i64 0, .slice none 0 0, .slice none 0 0, .slice none 0 0]), 4, 80) := by kernel_rfl
theorem und_pieces : Try.prog.underlying 57 = some (.slice 37) := Try.underlying57
theorem und_chunks : Try.prog.underlying 25 = some (.slice 37) := Try.underlying25
/-- one chunk more behind a row of one's own -/
theorem run_append_ch {tS : TypeId} (hu : Try.prog.underlying tS = some (.slice 37)) (w : World) (ty : TypeId) (B : Nat) (v : Value) (n : Nat) (d : List Value) (hown : w.ownsRow B 37 4 v n d)
    (g : Nat) (c : Cv) (hg : w.heap[g]? = some (.cells c.cells.toArray 37 (0, 0))) (hone : ∀ u ∈ c.cells, u.oneCell' = true) (hn : n ≤ 1000000) (hbase : B ≤ w.heap.size) :
    ∃ A' C' w', (Builtin.append_ #[tS, tS] ty #[v, .slice (some ⟨g, 0, none⟩) 1 1]).run Try.prog w = .ok (.slice A' (n + 1) C') w' ∧ w'.ownsRow B 37 4 (.slice A' (n + 1) C') (n + 1) (d ++ c.cells) ∧ w.grownBy w' v.ownBlock ∧ Stays w v (.slice A' (n + 1) C') := by
  obtain ⟨i0, hi, hz0, hz1, hz2⟩ := info_parts zeroCh
  have hy : ∀ j u, c.cells[j]? = some u → w.cell? ((⟨g, 0, none⟩ : Addr).add j) = some u := by
    intro j u hj
    have := row_range (row_of_block hg) c.cells rfl (fun i hi => rfl) j u hj
    rw [show Addr.add ⟨g, 0, none⟩ j = (⟨g, 0 + j, none⟩ : Addr) from by unfold Addr.add; split <;> simp_all]
    exact this
  obtain ⟨v', w', hr, h2, h3, h4, h5⟩ := run_append_own_at (P := Try.prog) w B tS ty 37 i0 _ 4 80 hu hi hz0 hz1 hz2 rfl (by decide) v n d hown ⟨g, 0, none⟩ 1 1 c.cells rfl hy hone (by unfold maxLen; omega) (by omega) hbase
  obtain ⟨A', N', C', rfl⟩ := own_slice h2
  obtain rfl := own_N h2
  exact ⟨A', C', w', hr, h2, h3, h5⟩
theorem wpList_append_ch {tS : TypeId} (hu : Try.prog.underlying tS = some (.slice 37)) (w : World) {ops : Array Oper} {rest : List Oper} {o : Oper} {a : Act} {Q : Exit → Act → World → Prop} (hgd : o.guard = none) (s x : Operand)
    (ho : o.op = .call { callee := .builtin .append, args := #[s, x], argTypes := #[tS, tS] })
    (B : Nat) (v : Value) (n : Nat) (d : List Value) (hs : a.eval s = v) (hown : w.ownsRow B 37 4 v n d)
    (g : Nat) (c : Cv) (hx : a.eval x = .slice (some ⟨g, 0, none⟩) 1 1) (hg : w.heap[g]? = some (.cells c.cells.toArray 37 (0, 0))) (hone : ∀ u ∈ c.cells, u.oneCell' = true) (hn : n ≤ 1000000) (hbase : B ≤ w.heap.size)
    (h : ∀ A' C' w', w'.ownsRow B 37 4 (.slice A' (n + 1) C') (n + 1) (d ++ c.cells) → w.grownBy w' v.ownBlock → Stays w v (.slice A' (n + 1) C') → wpList Try.prog ops Q rest (a.put o.dst (.slice A' (n + 1) C')) w') :
    wpList Try.prog ops Q (o :: rest) a w := by
  refine wpList_plain hgd fun K hK => ?_
  obtain ⟨A', C', w', hr, h2, h3, h4⟩ := run_append_ch hu w o.type B v n d hown g c hg hone hn hbase
  unfold Oper.wp execOp
  simp only [ho, resolve, invoke, builtin, Sem.run_bind, Sem.run_pure, Result.andThen_ok, List.map_toArray, List.map_cons, List.map_nil, hs, hx, hr]
  exact hK _ _ (h A' C' w' h2 h3 h4)
theorem step_append_ch {tS : TypeId} (hu : Try.prog.underlying tS = some (.slice 37)) (w : World) {ops : Array Oper} {o : Oper} {a : Act} {K : Act → World → Prop} {Q : Exit → Act → World → Prop} {E : Prop} (hgd : o.guard = none) (s x : Operand)
    (ho : o.op = .call { callee := .builtin .append, args := #[s, x], argTypes := #[tS, tS] })
    (B : Nat) (v : Value) (n : Nat) (d : List Value) (hs : a.eval s = v) (hown : w.ownsRow B 37 4 v n d)
    (g : Nat) (c : Cv) (hx : a.eval x = .slice (some ⟨g, 0, none⟩) 1 1) (hg : w.heap[g]? = some (.cells c.cells.toArray 37 (0, 0))) (hone : ∀ u ∈ c.cells, u.oneCell' = true) (hn : n ≤ 1000000) (hbase : B ≤ w.heap.size)
    (h : ∀ A' C' w', w'.ownsRow B 37 4 (.slice A' (n + 1) C') (n + 1) (d ++ c.cells) → w.grownBy w' v.ownBlock → Stays w v (.slice A' (n + 1) C') → K (a.put o.dst (.slice A' (n + 1) C')) w') :
    if Region.wanted o (yielded ops a.tmps) = true then Oper.wp Try.prog o a w K Q else E := by
  have hw : Region.wanted o (yielded ops a.tmps) = true := by simp [Region.wanted, hgd]
  rw [if_pos hw]
  obtain ⟨A', C', w', hr, h2, h3, h4⟩ := run_append_ch hu w o.type B v n d hown g c hg hone hn hbase
  unfold Oper.wp execOp
  simp only [ho, resolve, invoke, builtin, Sem.run_bind, Sem.run_pure, Result.andThen_ok, List.map_toArray, List.map_cons, List.map_nil, hs, hx, hr]
  exact h A' C' w' h2 h3 h4

/-- types that chunks are made of -/
def TP : List TypeId := [9, 37, 57]
/-- a source of lines that no row of one's own is: below B, or in a block K apart -/
structure Src (w : World) (B K : Nat) (rs : List (Value × List ByteArray)) (A : Option Addr) (n c : Nat) (xs : List ByteArray) : Prop where
  rd : Rd w (K + 1) A n c (sv xs)
  at' : ∀ x, A = some x → 0 < n → x.block = K
  ok : 0 < n → K < w.heap.size ∧ (K < B ∨ ((∃ cs fr, w.heap[K]? = some (.cells cs 9 fr)) ∧ ∀ r ∈ rs, r.1.ownBlock ≠ some K))
theorem Src.step {w w' : World} {B K : Nat} {rs rs' : List (Value × List ByteArray)} {A : Option Addr} {n c : Nat} {xs : List ByteArray} (h : Src w B K rs A n c xs) (hz : w.heap.size ≤ w'.heap.size) (hk : 0 < n → w'.heap[K]? = w.heap[K]?) (hr : ∀ r' ∈ rs', (∃ r ∈ rs, r'.1.ownBlock = r.1.ownBlock) ∨ ∀ k, r'.1.ownBlock = some k → w.heap.size ≤ k) : Src w' B K rs' A n c xs := by
  refine ⟨⟨h.rd.hlen, h.rd.hcap, h.rd.hmax, h.rd.hbig, h.rd.hnone, fun i hi => ?_⟩, h.at', fun h0 => ?_⟩
  · obtain ⟨b, off, v, ha, hb, hx, hc⟩ := h.rd.hcell i hi
    have hbK := h.at' _ ha (by omega)
    simp only at hbK
    subst hbK
    refine ⟨b, off, v, ha, hb, hx, ?_⟩
    rw [← hc]
    exact World.cell?_of_block (a := ⟨b, off + i, none⟩) (hk (by omega))
  · obtain ⟨h1, h2⟩ := h.ok h0
    refine ⟨by omega, ?_⟩
    rcases h2 with h2 | ⟨⟨cs, fr, h2⟩, h3⟩
    · exact .inl h2
    · refine .inr ⟨⟨cs, fr, by rw [hk h0]; exact h2⟩, fun r' hr' e => ?_⟩
      rcases hr r' hr' with ⟨r, hr, e2⟩ | hn
      · exact h3 r hr (e2.symm.trans e)
      · have := hn K e; omega
theorem Src.of_below {w : World} {B : Nat} {rs : List (Value × List ByteArray)} {A : Option Addr} {n c : Nat} {xs : List ByteArray} (h : Rd w B A n c (sv xs)) (hB : B ≤ w.heap.size) : ∃ K, Src w B K rs A n c xs := by
  by_cases h0 : 0 < n
  · obtain ⟨b, off, v, ha, hb, -, -⟩ := h.hcell 0 h0
    refine ⟨b, ⟨h.hlen, h.hcap, h.hmax, h.hbig, h.hnone, fun i hi => ?_⟩, fun x hx _ => ?_, fun _ => ⟨by omega, .inl hb⟩⟩
    · obtain ⟨b', off', v', ha', hb', hx', hc'⟩ := h.hcell i hi
      rw [ha] at ha'
      simp only [Option.some.injEq, Addr.mk.injEq, and_true] at ha'
      obtain ⟨rfl, rfl⟩ := ha'
      exact ⟨b, off, v', ha, by omega, hx', hc'⟩
    · rw [ha] at hx
      rw [← Option.some.inj hx]
  · exact ⟨0, ⟨h.hlen, h.hcap, h.hmax, h.hbig, h.hnone, fun i hi => by omega⟩, fun x hx h1 => absurd h1 h0, fun h1 => absurd h1 h0⟩
theorem Src.new {w : World} {B : Nat} {rs : List (Value × List ByteArray)} {s : ByteArray} (hr : ∀ r ∈ rs, ∀ k, r.1.ownBlock = some k → k < w.heap.size) : Src (w.alloc (.cells #[.string s] 9)) B w.heap.size rs (some ⟨w.heap.size, 0, none⟩) 1 1 [s] :=
  ⟨rd_new w (.string s) 9, fun x hx _ => by rw [← Option.some.inj hx], fun _ => ⟨by simp, .inr ⟨⟨_, _, heap_alloc_new w _⟩, fun r h e => by have := hr r h _ e; omega⟩⟩⟩

/-- chunks behind a pointer: P points to a slice v, whose row is one's own -/
structure PcV (w : World) (B P : Nat) (v : Value) (l : List Cv) : Prop where
  hB : B ≤ P
  p : w.heap[P]? = some (.cells #[v] 57 (0, 0))
  own : w.ownsRow B 37 4 v l.length (cvs l)
  rows : Rows B w (rws l)
def PcAt (w : World) (B P : Nat) (l : List Ch) : Prop := ∃ v cv, cv.map Cv.ch = l ∧ PcV w B P v cv
theorem PcV.kp {ts : List TypeId} {w w' : World} {B P : Nat} {v : Value} {l : List Cv} (h : PcV w B P v l) (k : Kp ts w w') (h1 : 9 ∉ ts) (h2 : 37 ∉ ts) (h3 : 57 ∉ ts) : PcV w' B P v l :=
  ⟨h.hB, k.block _ _ _ _ h.p h3, k.own h.own h2, h.rows.kp k h1⟩
theorem PcV.belowW {w w' : World} {B P : Nat} {v : Value} {l : List Cv} (h : PcV w B P v l) (hb : Below w.heap.size w w') : PcV w' B P v l :=
  h.kp (kp_of_below (ts := []) hb) (by simp) (by simp) (by simp)
theorem PcAt.belowW {w w' : World} {B P : Nat} {l : List Ch} (h : PcAt w B P l) (hb : Below w.heap.size w w') : PcAt w' B P l := by
  obtain ⟨v, cv, e, h⟩ := h
  exact ⟨v, cv, e, h.belowW hb⟩
theorem PcV.lt {w : World} {B P : Nat} {v : Value} {l : List Cv} (h : PcV w B P v l) : P < w.heap.size := lt_of_block h.p
/-- the row of chunks is laid open -/
theorem PcV.open' {w : World} {B P : Nat} {v : Value} {l : List Cv} (h : PcV w B P v l) (h0 : 0 < l.length) : ∃ g C, v = .slice (some ⟨g, 0, none⟩) l.length C ∧ B ≤ g ∧ g < w.heap.size ∧ l.length ≤ C ∧ C ≤ 9223372036854775807 ∧ ∃ cur, w.heap[g]? = some (.cells cur 37 (0, 0)) := by
  rcases h.own.2 with ⟨hv, hn⟩ | ⟨g, cap, cur, hv, hb, hg, hnc, hcm, hcs, htake⟩
  · omega
  · exact ⟨g, cap, hv, hb, lt_of_block hg, hnc, by unfold maxLen at hcm; omega, cur, hg⟩
end Go.Proofs.Ytlaneilmffdahaa.Mg
