/- pieces.same: lines that are the same on all sides come behind chunks. -/
import Derived.Test.YtlaneilmffdahaaMgPc
import Derived.Deep.DeepCutAuto
namespace Go.Proofs.Ytlaneilmffdahaa.Mg
open Go.RowKit Go.Proofs.Ytlaneilmffdahaa.Ln
set_option linter.unusedVariables false

/-- the last chunk as it stands in its row (c), and its slices as they are (r) -/
structure Pz (w : World) (B P g C : Nat) (init : List Cv) (c r : Cv) : Prop where
  hB : B ≤ P
  hg : B ≤ g
  p : w.heap[P]? = some (.cells #[.slice (some ⟨g, 0, none⟩) (init.length + 1) C] 57 (0, 0))
  own : w.ownsRow B 37 4 (.slice (some ⟨g, 0, none⟩) (init.length + 1) C) (init.length + 1) (cvs init ++ c.cells)
  rows : Rows B w (rws init ++ r.rows)
section
variable {w w' : World} {B P g C : Nat} {init : List Cv} {c r : Cv}
theorem Pz.done (h : Pz w B P g C init c c) : PcV w B P (.slice (some ⟨g, 0, none⟩) (init.length + 1) C) (init ++ [c]) :=
  ⟨h.hB, h.p, by rw [List.length_append, cvs_append, cvs_one]; exact h.own, by rw [rws_append, rws_one]; exact h.rows⟩
theorem Pz.of (h : PcV w B P (.slice (some ⟨g, 0, none⟩) (init.length + 1) C) (init ++ [c])) (hg : B ≤ g) : Pz w B P g C init c c :=
  ⟨h.hB, hg, h.p, by have := h.own; rwa [List.length_append, cvs_append, cvs_one] at this, by have := h.rows; rwa [rws_append, rws_one] at this⟩
theorem Pz.drewN (h : Pz w B P g C init c r) (n : Nat) : Pz (w.drewN n) B P g C init c r := ⟨h.hB, h.hg, h.p, ⟨h.own.1, h.own.2⟩, ⟨fun r hr => h.rows.own r hr, h.rows.apart⟩⟩
/-- a row of strings grows: the chunks' row and P stay -/
theorem Pz.grown (h : Pz w B P g C init c r) {v : Value} {n : Nat} {xs : List Value} (ho : w.ownsRow B 9 1 v n xs) (hg : w.grownBy w' v.ownBlock) {r' : Cv} (hr : Rows B w' (rws init ++ r'.rows)) : Pz w' B P g C init c r' := by
  have k := (Kp.refl [9] w).grown ho hg (by simp)
  exact ⟨h.hB, h.hg, k.block _ _ _ _ h.p (by decide), k.own h.own (by decide), hr⟩
theorem Pz.b (h : Pz w B P g C init c r) {v' : Value} {ys : List ByteArray} (ho : w'.ownsRow B 9 1 v' ys.length (sv ys)) (hg : w.grownBy w' r.vb.ownBlock) (hs : Stays w r.vb v') : Pz w' B P g C init c { r with vb := v', b := ys } :=
  h.grown (h.rows.own (r.vb, r.b) (by simp [Cv.rows])) hg (h.rows.grow (q := [(r.vo, r.o), (r.vt, r.t)]) ho hg hs)
theorem Pz.o (h : Pz w B P g C init c r) {v' : Value} {ys : List ByteArray} (ho : w'.ownsRow B 9 1 v' ys.length (sv ys)) (hg : w.grownBy w' r.vo.ownBlock) (hs : Stays w r.vo v') : Pz w' B P g C init c { r with vo := v', o := ys } :=
  h.grown (h.rows.own (r.vo, r.o) (by simp [Cv.rows])) hg (by
    have e : ∀ x : Cv, rws init ++ x.rows = (rws init ++ [(x.vb, x.b)]) ++ (x.vo, x.o) :: [(x.vt, x.t)] := fun x => by simp [Cv.rows]
    have hr := h.rows
    rw [e] at hr ⊢
    exact hr.grow ho hg hs)
theorem Pz.t (h : Pz w B P g C init c r) {v' : Value} {ys : List ByteArray} (ho : w'.ownsRow B 9 1 v' ys.length (sv ys)) (hg : w.grownBy w' r.vt.ownBlock) (hs : Stays w r.vt v') : Pz w' B P g C init c { r with vt := v', t := ys } :=
  h.grown (h.rows.own (r.vt, r.t) (by simp [Cv.rows])) hg (by
    have e : ∀ x : Cv, rws init ++ x.rows = (rws init ++ [(x.vb, x.b), (x.vo, x.o)]) ++ (x.vt, x.t) :: [] := fun x => by simp [Cv.rows]
    have hr := h.rows
    rw [e] at hr ⊢
    exact hr.grow ho hg hs)
/-- a cell of the last chunk is stored -/
theorem Pz.set (h : Pz w B P g C init c r) (j : Nat) (u : Value) {c' : Cv} (hc : c.cells.set j u = c'.cells) (hne : P ≠ g) : Pz (w.setCell ⟨g, init.length * 4 + j, none⟩ u) B P g C init c' r := by
  have hs := h.own.stored (init.length * 4 + j) u
  have hlt : g < w.heap.size := by
    have := h.own.lt g rfl
    omega
  refine ⟨h.hB, h.hg, ?_, ?_, ?_⟩
  · rw [Below.heap_setCell w ⟨g, init.length * 4 + j, none⟩ u P (fun e => hne e)]; exact h.p
  · have e := hs.1
    rwa [List.set_append_right _ _ (by rw [cvs_len]; omega), cvs_len, Nat.add_sub_cancel_left, hc] at e
  · refine ⟨fun x hx => ?_, h.rows.apart⟩
    have ho := h.rows.own x hx
    refine ho.kept hs.2 ?_
    cases hv : x.1.ownBlock with
    | none => exact .inl rfl
    | some k =>
      refine .inr fun e => ?_
      obtain rfl := Option.some.inj e
      rcases ho.2 with ⟨e2, -⟩ | ⟨g', cap, cur, e2, -, hh, -⟩
      · rw [e2] at hv; cases hv
      · rw [e2] at hv
        obtain rfl : g' = k := by simpa [Value.ownBlock] using hv
        rcases h.own.2 with ⟨e3, -⟩ | ⟨g2, cap2, cur2, e3, -, hh2, -⟩
        · cases e3
        · simp only [Value.slice.injEq, Option.some.injEq, Addr.mk.injEq, and_true] at e3
          obtain ⟨rfl, -⟩ := e3
          rw [hh] at hh2
          simp only [Option.some.injEq, Obj.cells.injEq] at hh2
          exact absurd hh2.2.1 (by decide)
theorem Pz.ne (h : Pz w B P g C init c r) : P ≠ g := by
  intro e
  subst e
  rcases h.own.2 with ⟨e3, -⟩ | ⟨g2, cap2, cur2, e3, -, hh2, -⟩
  · cases e3
  · simp only [Value.slice.injEq, Option.some.injEq, Addr.mk.injEq, and_true] at e3
    obtain ⟨rfl, -⟩ := e3
    rw [h.p] at hh2
    simp only [Option.some.injEq, Obj.cells.injEq] at hh2
    exact absurd hh2.2.1 (by decide)
theorem Pz.cell (h : Pz w B P g C init c r) (j : Nat) (hj : j < 4) (u : Value) (hu : c.cells[j]? = some u) : w.cell? ⟨g, init.length * 4 + j, none⟩ = some u ∧ w.frozen? ⟨g, init.length * 4 + j, none⟩ = false := by
  refine ⟨?_, h.own.frozenAt _⟩
  rw [h.own.cellAt _ (by omega), List.getElem?_append_right (by rw [cvs_len]; omega), cvs_len, Nat.add_sub_cancel_left, hu]
theorem Pz.pc (h : Pz w B P g C init c r) : w.cell? ⟨P, 0, none⟩ = some (.slice (some ⟨g, 0, none⟩) (init.length + 1) C) ∧ w.frozen? ⟨P, 0, none⟩ = false := ⟨cell_of_one h.p, free_of_one h.p⟩
end

/-- one chunk more behind those behind P -/
theorem PcV.push {wx w2 : World} {B P : Nat} {v v' : Value} {cv : List Cv} {c : Cv} {o : Obj} (h : PcV wx B P v cv) (hr : Rows B wx (rws cv ++ c.rows)) (ho : w2.ownsRow B 37 4 v' (cv.length + 1) (cvs cv ++ c.cells)) (hg : (wx.alloc o).grownBy w2 v.ownBlock) :
    PcV (w2.setCell ⟨P, 0, none⟩ v') B P v' (cv ++ [c]) ∧ Below B wx (w2.setCell ⟨P, 0, none⟩ v') ∧ Kp TP wx (w2.setCell ⟨P, 0, none⟩ v') := by
  have hlt := h.lt
  have hB := h.hB
  have hoa := own_keep h.own ((Below.refl _ _).alloc (Nat.le_refl _) o)
  have k1 := ((Kp.refl [37] wx).alloc o).grown hoa hg (by simp)
  have hp2 := k1.block _ _ _ _ h.p (by decide)
  have k2 := (Kp.refl [57] w2).set_one (i := 0) hp2 (by simp) v'
  refine ⟨⟨hB, one_setCell hp2, ?_, ?_⟩, ?_, ?_⟩
  · rw [List.length_append, cvs_append, cvs_one]
    exact k2.own ho (by decide)
  · rw [rws_append, rws_one]
    exact (hr.kp k1 (by decide)).kp k2 (by decide)
  · exact (((Below.refl B wx).alloc (by omega) o).trans (below_grown (by simp; omega) hoa hg)).setCell hB v'
  · exact (k1.mono (by simp [TP])).trans (k2.mono (by simp [TP]))
theorem PcV.pz {w : World} {B P : Nat} {v : Value} {init : List Cv} {c : Cv} (h : PcV w B P v (init ++ [c])) : ∃ g C, v = .slice (some ⟨g, 0, none⟩) (init.length + 1) C ∧ init.length + 1 ≤ C ∧ C ≤ 9223372036854775807 ∧ Pz w B P g C init c c := by
  obtain ⟨g, C, rfl, h1, h2, h3, h4, -⟩ := h.open' (by simp)
  rw [List.length_append] at h h3 ⊢
  exact ⟨g, C, rfl, h3, h4, Pz.of h h1⟩
/-- a chunk without lines -/
def Cv.zero (k : Int) : Cv := ⟨k, .slice none 0 0, .slice none 0 0, .slice none 0 0, [], [], []⟩
theorem Rows.zero {B : Nat} {w : World} {rs : List (Value × List ByteArray)} (h : Rows B w rs) (k : Int) : Rows B w (rs ++ (Cv.zero k).rows) := by
  have hn : w.ownsRow B 9 1 (.slice none 0 0) 0 (sv []) := ⟨rfl, Or.inl ⟨rfl, rfl⟩⟩
  refine h.append ⟨fun r hr => ?_, ?_⟩ (fun r _ s hs => ?_)
  · simp only [Cv.zero, Cv.rows, List.mem_cons, List.not_mem_nil, or_false] at hr
    rcases hr with rfl | rfl | rfl <;> exact hn
  · simp only [Cv.zero, Cv.rows]
    refine List.pairwise_cons.2 ⟨fun s hs => ?_, List.pairwise_cons.2 ⟨fun s hs => ?_, List.pairwise_cons.2 ⟨fun s hs => ?_, List.Pairwise.nil⟩⟩⟩
    all_goals exact nil_apart _
  · simp only [Cv.zero, Cv.rows, List.mem_cons, List.not_mem_nil, or_false] at hs
    rcases hs with rfl | rfl | rfl <;> exact apart_nil _

theorem src_push {wx w2 : World} {B P K : Nat} {v v' : Value} {cv : List Cv} {o : Obj} {rs : List (Value × List ByteArray)} {A : Option Addr} {n ca : Nat} {xs : List ByteArray} (h : PcV wx B P v cv) (hs : Src wx B K rs A n ca xs) (hg : (wx.alloc o).grownBy w2 v.ownBlock) : 0 < n → (w2.setCell ⟨P, 0, none⟩ v').heap[K]? = wx.heap[K]? := by
  intro h0
  obtain ⟨q1, q2⟩ := hs.ok h0
  have hB := h.hB
  have h1 : K ≠ P := by
    intro e
    subst e
    rcases q2 with q2 | ⟨⟨cs, fr, q2⟩, -⟩
    · omega
    · rw [h.p] at q2
      simp only [Option.some.injEq, Obj.cells.injEq] at q2
      exact absurd q2.2.1 (by decide)
  have h2 : some K ≠ v.ownBlock := by
    intro e
    have hl := (h.own.lt K e.symm).1
    rcases q2 with q2 | ⟨⟨cs, fr, q2⟩, -⟩
    · omega
    · rcases h.own.2 with ⟨e2, -⟩ | ⟨g', cap, cur, e2, -, hh, -⟩
      · rw [e2] at e; cases e
      · rw [e2] at e
        obtain rfl : K = g' := by simpa [Value.ownBlock] using e
        rw [hh] at q2
        simp only [Option.some.injEq, Obj.cells.injEq] at q2
        exact absurd q2.2.1 (by decide)
  rw [Below.heap_setCell w2 ⟨P, 0, none⟩ v' K h1, hg.block K (by simp; omega) h2, Below.heap_alloc wx o K q1]

/-- what is left when chunks were changed -/
def PcRet (B P : Nat) (l : List Ch) (w : World) (e : Ending) (w' : World) : Prop :=
  e = .returned (.tuple #[]) ∧ Hid (PcAt w' B P l) ∧ Hid (Below B w w') ∧ Hid (Kp TP w w')

theorem stay_rows {w : World} {p q : List (Value × List ByteArray)} {v v' : Value} {xs ys : List ByteArray} (hs : Stays w v v') : ∀ r' ∈ p ++ (v', ys) :: q, (∃ r ∈ p ++ (v, xs) :: q, r'.1.ownBlock = r.1.ownBlock) ∨ ∀ k, r'.1.ownBlock = some k → w.heap.size ≤ k := by
  intro r' hr
  rcases List.mem_append.1 hr with hr | hr
  · exact .inl ⟨r', List.mem_append_left _ hr, rfl⟩
  · rcases List.mem_cons.1 hr with rfl | hr
    · rcases hs with hs | hs
      · exact .inl ⟨(v, xs), List.mem_append_right _ (List.mem_cons_self ..), hs⟩
      · exact .inr fun k hk => by
          have := Option.some.inj (hs.symm.trans hk)
          omega
    · exact .inl ⟨r', List.mem_append_right _ (List.mem_cons_of_mem _ hr), rfl⟩
theorem stay_b {w : World} {init : List Cv} (r : Cv) {v' : Value} {ys : List ByteArray} (hs : Stays w r.vb v') : ∀ r' ∈ rws init ++ ({ r with vb := v', b := ys } : Cv).rows, (∃ x ∈ rws init ++ r.rows, r'.1.ownBlock = x.1.ownBlock) ∨ ∀ k, r'.1.ownBlock = some k → w.heap.size ≤ k :=
  stay_rows (p := rws init) (q := [(r.vo, r.o), (r.vt, r.t)]) hs
theorem stay_o {w : World} {init : List Cv} (r : Cv) {v' : Value} {ys : List ByteArray} (hs : Stays w r.vo v') : ∀ r' ∈ rws init ++ ({ r with vo := v', o := ys } : Cv).rows, (∃ x ∈ rws init ++ r.rows, r'.1.ownBlock = x.1.ownBlock) ∨ ∀ k, r'.1.ownBlock = some k → w.heap.size ≤ k := by
  have e : ∀ x : Cv, rws init ++ x.rows = (rws init ++ [(x.vb, x.b)]) ++ (x.vo, x.o) :: [(x.vt, x.t)] := fun x => by simp [Cv.rows]
  rw [e, e]
  exact stay_rows hs
theorem stay_t {w : World} {init : List Cv} (r : Cv) {v' : Value} {ys : List ByteArray} (hs : Stays w r.vt v') : ∀ r' ∈ rws init ++ ({ r with vt := v', t := ys } : Cv).rows, (∃ x ∈ rws init ++ r.rows, r'.1.ownBlock = x.1.ownBlock) ∨ ∀ k, r'.1.ownBlock = some k → w.heap.size ≤ k := by
  have e : ∀ x : Cv, rws init ++ x.rows = (rws init ++ [(x.vb, x.b), (x.vo, x.o)]) ++ (x.vt, x.t) :: [] := fun x => by simp [Cv.rows]
  rw [e, e]
  exact stay_rows hs

/-- the cells say nothing of the lines -/
theorem pz_cells {w : World} {B P g C : Nat} {init : List Cv} {k : Int} {vb vo vt : Value} {b o t b' o' t' : List ByteArray} (h : Pz w B P g C init ⟨k, vb, vo, vt, b, o, t⟩ ⟨k, vb, vo, vt, b', o', t'⟩) : Pz w B P g C init ⟨k, vb, vo, vt, b', o', t'⟩ ⟨k, vb, vo, vt, b', o', t'⟩ :=
  ⟨h.hB, h.hg, h.p, h.own, h.rows⟩
theorem Pz.blk {w : World} {B P g C : Nat} {init : List Cv} {c r : Cv} (h : Pz w B P g C init c r) : ∃ cur, w.heap[g]? = some (.cells cur 37 (0, 0)) := by
  rcases h.own.2 with ⟨e3, -⟩ | ⟨g2, cap2, cur2, e3, -, hh2, -⟩
  · cases e3
  · simp only [Value.slice.injEq, Option.some.injEq, Addr.mk.injEq, and_true] at e3
    obtain ⟨rfl, -⟩ := e3
    exact ⟨cur2, hh2⟩
theorem kp_set {w : World} {B P g C : Nat} {init : List Cv} {c r : Cv} (h : Pz w B P g C init c r) (i : Nat) (u : Value) : Kp TP w (w.setCell ⟨g, i, none⟩ u) := by
  obtain ⟨cur, hh⟩ := h.blk
  exact (Kp.refl TP w).set_one hh (by simp [TP]) u
theorem src_ne {w : World} {B P g C K : Nat} {init : List Cv} {c r : Cv} {rs : List (Value × List ByteArray)} (h : Pz w B P g C init c r) (hk : K < B ∨ ((∃ cs fr, w.heap[K]? = some (.cells cs 9 fr)) ∧ ∀ r ∈ rs, r.1.ownBlock ≠ some K)) : K ≠ g := by
  intro e
  subst e
  rcases hk with hk | ⟨⟨cs, fr, hk⟩, -⟩
  · have := h.hg; omega
  · obtain ⟨cur, hh⟩ := h.blk
    rw [hk] at hh
    simp only [Option.some.injEq, Obj.cells.injEq] at hh
    exact absurd hh.2.1 (by decide)

/-- what holds where the lines are about to come -/
structure Cut (B P K : Nat) (l : List Ch) (A : Option Addr) (n ca : Nat) (xs : List ByteArray) (w wc : World) (g C : Nat) (init : List Cv) (c : Cv) : Prop where
  pz : Pz wc B P g C init c c
  k : c.k = 0
  src : Src wc B K (rws init ++ c.rows) A n ca xs
  bel : Below B w wc
  kp : Kp TP w wc
  eq : ∀ ys, init.map Cv.ch ++ [⟨0, c.b ++ ys, c.o ++ ys, c.t ++ ys⟩] = sameC l ys ys ys
set_option maxRecDepth 100000 in
set_option maxHeartbeats 2000000 in
/-- the lines come behind the chunks -/
theorem same_any (B P K : Nat) (v : Value) (cv : List Cv) (A : Option Addr) (n ca : Nat) (xs : List ByteArray) (w : World) (h : PcV w B P v cv) (hs : Src w B K (rws cv) A n ca xs)
    (hl : cv.length ≤ 100000) (hn : n ≤ 1000000) (hb : ∀ c ∈ cv, c.b.length ≤ 1000000 ∧ c.o.length ≤ 1000000 ∧ c.t.length ≤ 1000000) :
    Calls Try.prog 33 #[.pointer (some ⟨P, 0, none⟩), .slice A n ca] w (PcRet B P (sameC (cv.map Cv.ch) xs xs xs) w) := by
  have hnc := hs.rd.hcap
  have hcm := hs.rd.hmax
  have hsz : B ≤ w.heap.size := by have := h.lt; have := h.hB; omega
  have HV := Lib.hid h
  have HS := Lib.hid hs
  have HBd := Lib.hid hb
  clear hb
  go_enter Try.func33, Try.ntmps33
  go_step
  go_cut [0] (fun s0 wc => s0 = .pointer (some ⟨P, 0, none⟩) ∧ ∃ g C init c, init.length ≤ 100000 ∧ init.length + 1 ≤ C ∧ C ≤ 9223372036854775807 ∧ c.b.length ≤ 1000000 ∧ c.o.length ≤ 1000000 ∧ c.t.length ≤ 1000000 ∧ Hid (Cut B P K (cv.map Cv.ch) A n ca xs w wc g C init c))
  case first =>
    rcases List.eq_nil_or_concat cv with rfl | ⟨init, c, rfl⟩
    · obtain ⟨A, N, C, rfl⟩ := own_slice h.own
      obtain rfl := own_N h.own
      have p1 := cell_of_one h.p
      have p2 := free_of_one h.p
      have HO := Lib.hid (own_keep h.own ((Below.refl w.heap.size w).alloc (Nat.le_refl _) (.cells (Cv.zero 0).cells.toArray 37)))
      have HN := Lib.hid (heap_alloc_new w (.cells (Cv.zero 0).cells.toArray 37))
      have HZ : ∀ u ∈ (Cv.zero 0).cells, u.oneCell' = true := by intro u hu; simp [Cv.zero, Cv.cells] at hu; rcases hu with rfl | rfl <;> rfl
      have HZ' := Lib.hid HZ
      have HE : Hid (∀ ys, ([] : List Cv).map Cv.ch ++ [⟨0, ([] : List ByteArray) ++ ys, [] ++ ys, [] ++ ys⟩] = sameC (([] : List Cv).map Cv.ch) ys ys ys) := Lib.hid (fun ys => by
        simp [sameC_nil])
      have HS' := Lib.hid (fun (w' : World) (hz : w.heap.size ≤ w'.heap.size) (hk : 0 < n → w'.heap[K]? = w.heap[K]?) => HS.out.step (rs' := rws ([] : List Cv) ++ (Cv.zero 0).rows) hz hk (fun r hr => by
        rcases List.mem_append.1 hr with hr | hr
        · exact .inl ⟨r, hr, rfl⟩
        · simp only [Cv.zero, Cv.rows, List.mem_cons, List.not_mem_nil, or_false] at hr
          rcases hr with rfl | rfl | rfl <;> exact .inr fun k hk => by cases hk))
      have HS0 := HS
      clear h hs HZ HS
      go_wp2_with (at_builtin; refine wpList_append_ch und_pieces _ rfl _ _ rfl B _ _ _ rfl HO.out w.heap.size (Cv.zero 0) rfl HN.out HZ'.out (Nat.zero_le _) (by simp; omega) ?_)
      intro A1 C1 w2 ho hg hst
      have hp2 := (((Kp.refl [37] w).alloc (.cells (Cv.zero 0).cells.toArray 37)).grown HO.out hg (by simp)).block _ _ _ _ HV.out.p (by decide)
      have p3 := cell_of_one hp2
      have f3 := free_of_one hp2
      obtain ⟨hv, hbl, hkp⟩ := HV.out.push (v' := .slice A1 (0 + 1) C1) (c := Cv.zero 0) (HV.out.rows.zero 0) ho hg
      have hsr := HS'.out _ hbl.size (src_push HV.out HS0.out hg)
      obtain ⟨g', C', e, hC1', hC2', hP'⟩ := hv.pz
      simp only [Value.slice.injEq] at e
      obtain ⟨rfl, -, rfl⟩ := e
      have HC := Lib.hid (Cut.mk hP' rfl hsr hbl hkp HE.out)
      clear hp2 hv hbl hkp hsr hP' ho hg hst HE HS' HS0 HV HO HN HZ'
      go_wp2
      go_meet
      exact ⟨rfl, g', C1, _, _, Nat.zero_le _, hC1', hC2', Nat.zero_le _, Nat.zero_le _, Nat.zero_le _, HC⟩
    · rw [List.concat_eq_append] at *
      obtain ⟨g, C, rfl, hC1, hC2, hP⟩ := h.pz
      obtain ⟨p1, p2⟩ := hP.pc
      obtain ⟨c0, f0⟩ := hP.cell 0 (by omega) _ rfl
      rw [Nat.add_zero] at c0 f0
      have hb := HBd.out c (by simp)
      have hl1 : init.length ≤ 100000 := by rw [List.length_append] at hl; omega
      by_cases hk : c.k = 0
      · have HC : Hid (Cut B P K ((init ++ [c]).map Cv.ch) A n ca xs w w g C init c) := Lib.hid ⟨hP, hk, by have := HS.out; rwa [rws_append, rws_one] at this, Below.refl _ _, Kp.refl _ _, fun ys => by
          rw [List.map_append, List.map_cons, List.map_nil, sameC_same _ _ (by exact hk)]; rfl⟩
        have hk0 : ((c.k : Int) != 0) = false := by simp [hk]
        clear hP hk h hs HV HS
        go_wp2
        go_meet
        exact ⟨rfl, g, C, init, c, hl1, hC1, hC2, hb.1, hb.2.1, hb.2.2, HC⟩
      · have hk0 : ((c.k : Int) != 0) = true := by simp [hk]
        have HO := Lib.hid (own_keep h.own ((Below.refl w.heap.size w).alloc (Nat.le_refl _) (.cells (Cv.zero 0).cells.toArray 37)))
        have HN := Lib.hid (heap_alloc_new w (.cells (Cv.zero 0).cells.toArray 37))
        have HZ : ∀ u ∈ (Cv.zero 0).cells, u.oneCell' = true := by intro u hu; simp [Cv.zero, Cv.cells] at hu; rcases hu with rfl | rfl <;> rfl
        have HZ' := Lib.hid HZ
        have HE : Hid (∀ ys, ((init ++ [c]) : List Cv).map Cv.ch ++ [⟨0, ([] : List ByteArray) ++ ys, [] ++ ys, [] ++ ys⟩] = sameC (((init ++ [c]) : List Cv).map Cv.ch) ys ys ys) := Lib.hid (fun ys => by
          rw [List.map_append, List.map_cons, List.map_nil, sameC_other _ _ (by exact hk)]; simp)
        have HS' := Lib.hid (fun (w' : World) (hz : w.heap.size ≤ w'.heap.size) (hk : 0 < n → w'.heap[K]? = w.heap[K]?) => HS.out.step (rs' := rws (init ++ [c]) ++ (Cv.zero 0).rows) hz hk (fun r hr => by
          rcases List.mem_append.1 hr with hr | hr
          · exact .inl ⟨r, hr, rfl⟩
          · simp only [Cv.zero, Cv.rows, List.mem_cons, List.not_mem_nil, or_false] at hr
            rcases hr with rfl | rfl | rfl <;> exact .inr fun k hk => by cases hk))
        have HS0 := HS
        clear hP hk h hs HZ HS
        go_wp2_with (at_builtin; refine wpList_append_ch und_pieces _ rfl _ _ rfl B _ _ _ rfl HO.out w.heap.size (Cv.zero 0) rfl HN.out HZ'.out (by simp only [List.length_append, List.length_cons, List.length_nil]; omega) (by simp; omega) ?_)
        intro A1 C1 w2 ho hg hst
        have hp2 := (((Kp.refl [37] w).alloc (.cells (Cv.zero 0).cells.toArray 37)).grown HO.out hg (by simp)).block _ _ _ _ HV.out.p (by decide)
        have p3 := cell_of_one hp2
        have f3 := free_of_one hp2
        obtain ⟨hv, hbl, hkp⟩ := HV.out.push (v' := .slice A1 (init.length + 1 + 1) C1) (c := Cv.zero 0) (HV.out.rows.zero 0) (by rw [List.length_append]; exact ho) hg
        have hsr := HS'.out _ hbl.size (src_push HV.out HS0.out hg)
        obtain ⟨g', C', e, hC1', hC2', hP'⟩ := hv.pz
        simp only [Value.slice.injEq] at e
        obtain ⟨rfl, -, rfl⟩ := e
        have HC := Lib.hid (Cut.mk hP' rfl hsr hbl hkp HE.out)
        clear hp2 hv hbl hkp hsr hP' ho hg hst HE HS' HS0 HV HO HN HZ'
        go_wp2
        go_meet
        exact ⟨rfl, g', C1, _, _, by simpa using hl, hC1', hC2', Nat.zero_le _, Nat.zero_le _, Nat.zero_le _, HC⟩
  case rest =>
    obtain ⟨rfl, g, C, init, c, hl1, hC1, hC2, hb1, hb2, hb3, HC⟩ := hcut
    obtain ⟨k, vb, vo, vt, b, o, t⟩ := c
    have hk : k = 0 := HC.out.k
    subst hk
    have HP := Lib.hid HC.out.pz
    have HS := Lib.hid HC.out.src
    have HBc := Lib.hid HC.out.bel
    have HKc := Lib.hid HC.out.kp
    have HEq := Lib.hid (HC.out.eq xs)
    have hszc : B ≤ wc.heap.size := by have := lt_of_block HP.out.p; have := HP.out.hB; omega
    obtain ⟨p1, p2⟩ := HP.out.pc
    have hne := HP.out.ne
    clear HC h hs HV
    go_wp2
    go_quiet (fail)
    have HP1 := Lib.hid (HP.out.drewN nq)
    have HS1 := Lib.hid (HS.out.step (w' := wc.drewN nq) (Nat.le_refl _) (fun _ => rfl) (fun r hr => .inl ⟨r, hr, rfl⟩))
    have HB1 := Lib.hid (below_drewN HBc.out nq)
    have HK1 := Lib.hid (HKc.out.drewN nq)
    have hz1 : B ≤ (wc.drewN nq).heap.size := hszc
    clear HP HS p1 p2
    generalize wc.drewN nq = w1 at *
    obtain ⟨c1, f1⟩ := HP1.out.cell 1 (by omega) _ rfl
    go_wp2_with (at_builtin; refine wpList_append_rd elS _ rfl _ _ rfl B vb b.length (sv b) rfl (HP1.out.rows.own (vb, b) (by simp [Cv.rows])) _ A n ca (sv xs) rfl HS1.out.rd (str_one xs) (b.length + n) rfl (by omega) hz1 ?_)
    intro A1 C1 w2 ho hg hst
    have e1 : b.length + n = (b ++ xs).length := by rw [List.length_append]; have := HS1.out.rd.hlen; simp [sv] at this; omega
    have e2 : sv b ++ sv xs = sv (b ++ xs) := by simp [sv]
    rw [e2] at ho
    have hown := HP1.out.rows.own (vb, b) (by simp [Cv.rows])
    have hbel := below_grown hz1 hown hg
    have hkp := (Kp.refl TP w1).grown hown hg (by simp [TP])
    have hsr := HS1.out.step (rs' := rws init ++ Cv.rows ⟨0, .slice A1 (b.length + n) C1, vo, vt, b ++ xs, o, t⟩) hg.size (fun h0 => by
      obtain ⟨q1, q2⟩ := HS1.out.ok h0
      refine hg.block K q1 (fun e => ?_)
      rcases q2 with q2 | ⟨-, q3⟩
      · have := (hown.lt K e.symm).1; omega
      · exact q3 (vb, b) (by simp [Cv.rows]) e.symm) (stay_b ⟨0, vb, vo, vt, b, o, t⟩ hst)
    have hP := HP1.out.b (by rw [e1] at ho ⊢; exact ho) hg hst
    obtain ⟨d1, g1⟩ := hP.cell 1 (by omega) _ rfl
    have HP3 := Lib.hid (hP.set 1 (.slice A1 (b.length + n) C1) (c' := ⟨0, .slice A1 (b.length + n) C1, vo, vt, b, o, t⟩) rfl hne)
    have hgs := grown_set w2 g (init.length * 4 + 1) (.slice A1 (b.length + n) C1)
    have hgB := HP1.out.hg
    have hz3 : B ≤ (w2.setCell ⟨g, init.length * 4 + 1, none⟩ (.slice A1 (b.length + n) C1)).heap.size := by have := hg.size; have := hgs.size; omega
    have HB3 := Lib.hid ((HB1.out.trans hbel).setCell (p := ⟨g, init.length * 4 + 1, none⟩) hgB (.slice A1 (b.length + n) C1))
    have HK3 := Lib.hid ((HK1.out.trans hkp).trans (kp_set hP (init.length * 4 + 1) (.slice A1 (b.length + n) C1)))
    have HS3 := Lib.hid (hsr.step (w' := w2.setCell ⟨g, init.length * 4 + 1, none⟩ (.slice A1 (b.length + n) C1)) hgs.size (fun h0 => hgs.block K (hsr.ok h0).1 (fun e => src_ne hP (hsr.ok h0).2 (Option.some.inj e))) (fun r hr => .inl ⟨r, hr, rfl⟩))
    clear ho hg hst e1 e2 hown hbel hkp hsr hP hgs hgB c1 f1 HP1 HS1 HB1 HK1
    go_upto_region 5 with (fail)
    clear d1 g1
    generalize w2.setCell ⟨g, init.length * 4 + 1, none⟩ (.slice A1 (b.length + n) C1) = w3 at *
    obtain ⟨c1, f1⟩ := HP3.out.cell 2 (by omega) _ rfl
    go_wp2_with (at_builtin; refine wpList_append_rd elS _ rfl _ _ rfl B vo o.length (sv o) rfl (HP3.out.rows.own (vo, o) (by simp [Cv.rows])) _ A n ca (sv xs) rfl HS3.out.rd (str_one xs) (o.length + n) rfl (by omega) hz3 ?_)
    intro A2 C2 w4 ho hg hst
    have e1 : o.length + n = (o ++ xs).length := by rw [List.length_append]; have := HS3.out.rd.hlen; simp [sv] at this; omega
    have e2 : sv o ++ sv xs = sv (o ++ xs) := by simp [sv]
    rw [e2] at ho
    have hown := HP3.out.rows.own (vo, o) (by simp [Cv.rows])
    have hbel := below_grown hz3 hown hg
    have hkp := (Kp.refl TP w3).grown hown hg (by simp [TP])
    have hsr := HS3.out.step (rs' := rws init ++ Cv.rows ⟨0, .slice A1 (b.length + n) C1, .slice A2 (o.length + n) C2, vt, b ++ xs, o ++ xs, t⟩) hg.size (fun h0 => by
      obtain ⟨q1, q2⟩ := HS3.out.ok h0
      refine hg.block K q1 (fun e => ?_)
      rcases q2 with q2 | ⟨-, q3⟩
      · have := (hown.lt K e.symm).1; omega
      · exact q3 (vo, o) (by simp [Cv.rows]) e.symm) (stay_o ⟨0, .slice A1 (b.length + n) C1, vo, vt, b ++ xs, o, t⟩ hst)
    have hP := HP3.out.o (by rw [e1] at ho ⊢; exact ho) hg hst
    obtain ⟨d1, g1⟩ := hP.cell 2 (by omega) _ rfl
    have HP5 := Lib.hid (hP.set 2 (.slice A2 (o.length + n) C2) (c' := ⟨0, .slice A1 (b.length + n) C1, .slice A2 (o.length + n) C2, vt, b, o, t⟩) rfl hne)
    have hgs := grown_set w4 g (init.length * 4 + 2) (.slice A2 (o.length + n) C2)
    have hgB := HP3.out.hg
    have hz5 : B ≤ (w4.setCell ⟨g, init.length * 4 + 2, none⟩ (.slice A2 (o.length + n) C2)).heap.size := by have := hg.size; have := hgs.size; omega
    have HB5 := Lib.hid ((HB3.out.trans hbel).setCell (p := ⟨g, init.length * 4 + 2, none⟩) hgB (.slice A2 (o.length + n) C2))
    have HK5 := Lib.hid ((HK3.out.trans hkp).trans (kp_set hP (init.length * 4 + 2) (.slice A2 (o.length + n) C2)))
    have HS5 := Lib.hid (hsr.step (w' := w4.setCell ⟨g, init.length * 4 + 2, none⟩ (.slice A2 (o.length + n) C2)) hgs.size (fun h0 => hgs.block K (hsr.ok h0).1 (fun e => src_ne hP (hsr.ok h0).2 (Option.some.inj e))) (fun r hr => .inl ⟨r, hr, rfl⟩))
    clear ho hg hst e1 e2 hown hbel hkp hsr hP hgs hgB c1 f1 HP3 HS3 HB3 HK3
    go_upto_region 6 with (fail)
    clear d1 g1
    generalize w4.setCell ⟨g, init.length * 4 + 2, none⟩ (.slice A2 (o.length + n) C2) = w5 at *
    obtain ⟨c1, f1⟩ := HP5.out.cell 3 (by omega) _ rfl
    go_wp2_with (at_builtin; refine wpList_append_rd elS _ rfl _ _ rfl B vt t.length (sv t) rfl (HP5.out.rows.own (vt, t) (by simp [Cv.rows])) _ A n ca (sv xs) rfl HS5.out.rd (str_one xs) (t.length + n) rfl (by omega) hz5 ?_)
    intro A3 C3 w6 ho hg hst
    have e1 : t.length + n = (t ++ xs).length := by rw [List.length_append]; have := HS5.out.rd.hlen; simp [sv] at this; omega
    have e2 : sv t ++ sv xs = sv (t ++ xs) := by simp [sv]
    rw [e2] at ho
    have hown := HP5.out.rows.own (vt, t) (by simp [Cv.rows])
    have hbel := below_grown hz5 hown hg
    have hkp := (Kp.refl TP w5).grown hown hg (by simp [TP])
    have hsr := HS5.out.step (rs' := rws init ++ Cv.rows ⟨0, .slice A1 (b.length + n) C1, .slice A2 (o.length + n) C2, .slice A3 (t.length + n) C3, b ++ xs, o ++ xs, t ++ xs⟩) hg.size (fun h0 => by
      obtain ⟨q1, q2⟩ := HS5.out.ok h0
      refine hg.block K q1 (fun e => ?_)
      rcases q2 with q2 | ⟨-, q3⟩
      · have := (hown.lt K e.symm).1; omega
      · exact q3 (vt, t) (by simp [Cv.rows]) e.symm) (stay_t ⟨0, .slice A1 (b.length + n) C1, .slice A2 (o.length + n) C2, vt, b ++ xs, o ++ xs, t⟩ hst)
    have hP := HP5.out.t (by rw [e1] at ho ⊢; exact ho) hg hst
    obtain ⟨d1, g1⟩ := hP.cell 3 (by omega) _ rfl
    have HP7 := Lib.hid (hP.set 3 (.slice A3 (t.length + n) C3) (c' := ⟨0, .slice A1 (b.length + n) C1, .slice A2 (o.length + n) C2, .slice A3 (t.length + n) C3, b, o, t⟩) rfl hne)
    have hgs := grown_set w6 g (init.length * 4 + 3) (.slice A3 (t.length + n) C3)
    have hgB := HP5.out.hg
    have hz7 : B ≤ (w6.setCell ⟨g, init.length * 4 + 3, none⟩ (.slice A3 (t.length + n) C3)).heap.size := by have := hg.size; have := hgs.size; omega
    have HB7 := Lib.hid ((HB5.out.trans hbel).setCell (p := ⟨g, init.length * 4 + 3, none⟩) hgB (.slice A3 (t.length + n) C3))
    have HK7 := Lib.hid ((HK5.out.trans hkp).trans (kp_set hP (init.length * 4 + 3) (.slice A3 (t.length + n) C3)))
    have HS7 := Lib.hid (hsr.step (w' := w6.setCell ⟨g, init.length * 4 + 3, none⟩ (.slice A3 (t.length + n) C3)) hgs.size (fun h0 => hgs.block K (hsr.ok h0).1 (fun e => src_ne hP (hsr.ok h0).2 (Option.some.inj e))) (fun r hr => .inl ⟨r, hr, rfl⟩))
    clear ho hg hst e1 e2 hown hbel hkp hsr hP hgs hgB c1 f1 HP5 HS5 HB5 HK5
    go_wp2
    go_end0
    refine ⟨rfl, Lib.hid ⟨_, _, ?_, (pz_cells HP7.out).done⟩, HB7, HK7⟩
    rw [← HEq.out]
    simp [Cv.ch]
end Go.Proofs.Ytlaneilmffdahaa.Mg
