/- Rows of bytes of one's own that grow by texts, each in a block of its own; rows of truth values. By an AI agent; no person has read it. -/
import Derived.Test.YtlaneilmffdahaaMgApL
import Derived.Test.YtlaneilmffdahaaMgEnd
import Derived.Test.YtlaneilmffdahaaLnStore
import Derived.Deep.OwnRows
import Derived.Test.YtlaneilmffdahaaFrInts
import Derived.Test.YtlaneilmffdahaaMgWithin
namespace Go.Proofs.Ytlaneilmffdahaa.Mg
open Go.RowKit Go.Proofs.Ytlaneilmffdahaa.Ln
set_option linter.unusedVariables false

def StaysB (w : World) (v v' : Value) : Prop := v'.ownBlock = v.ownBlock ∨ ∀ k, v'.ownBlock = some k → w.heap.size ≤ k
theorem stays_cs (w : World) (ty : TypeId) (B : Nat) (v : Value) (n : Nat) (d : List Int) (hown : w.ownsRow B 5 1 v n (bv d)) (s : ByteArray) (l : List Int) (hl : Lib.strCells s = bv l) (hn : n + l.length ≤ 100000000)
    {v' : Value} {w' : World} (hr : (Builtin.append_ #[32, 9] ty #[v, .string s]).run Try.prog w = .ok v' w') : StaysB w v v' := by
  obtain ⟨i0, hi, hz0, hz1, hz2⟩ := info_parts infoB
  have hsz : s.size = l.length := by rw [← Lib.strCells_length, hl, bv_len]
  have h0 := hown
  rcases hown.2 with ⟨rfl, rfl⟩ | ⟨g, cap, cur, rfl, hbg, hg, hnc, hcm, hcs, htake⟩
  · obtain ⟨v2, w2, hr2, h2, -, -⟩ := Lib.run_append_own_string (P := Try.prog) w w.heap.size 32 9 ty 5 i0 Try.underlying32 Try.underlying9 hi hz0 hz1 hz2 _ 0 [] (World.ownsRow_nil w w.heap.size 5 1) s (by unfold maxLen; omega) (by omega) (Nat.le_refl _)
    rw [hr] at hr2
    simp only [Result.ok.injEq] at hr2
    obtain ⟨rfl, rfl⟩ := hr2
    exact .inr fun k hk => (h2.lt k hk).1
  · by_cases hroom : n + s.size ≤ cap
    · have hr2 := Lib.run_append_room_string (P := Try.prog) w 32 9 ty 5 i0 Try.underlying32 Try.underlying9 hi hz1 g n cap cur hg s hroom (by omega)
      rw [hr] at hr2
      simp only [Result.ok.injEq] at hr2
      obtain ⟨rfl, -⟩ := hr2
      exact .inl rfl
    · have hxl : (bv d).length = n := by simpa using h0.1
      have holds : ∀ j u, (bv d)[j]? = some u → w.cell? ((⟨g, 0, none⟩ : Addr).add j) = some u := h0.cells (g := g) rfl
      have hr2 := Lib.run_append_grow_string (P := Try.prog) w 32 9 ty 5 i0 (.int .u8 0) Try.underlying32 Try.underlying9 hi hz0 ⟨g, 0, none⟩ n cap (bv d) (by rw [hz1]; simpa using hxl) holds s (by omega) (by omega) (by rw [hz2]; exact growslice_fits (by omega) (by omega))
      rw [hr] at hr2
      simp only [Result.ok.injEq] at hr2
      obtain ⟨rfl, -⟩ := hr2
      exact .inr fun k hk => by
        simp only [Value.ownBlock, Option.some.injEq] at hk
        omega

/-- rows of bytes of one's own, each in a block of its own -/
structure RB (B : Nat) (w : World) (rs : List (Value × List Int)) : Prop where
  own : ∀ r ∈ rs, w.ownsRow B 5 1 r.1 r.2.length (bv r.2)
  apart : rs.Pairwise fun r s => Apart r.1 s.1
theorem RB.four (B : Nat) (w : World) : RB B w [(.slice none 0 0, []), (.slice none 0 0, []), (.slice none 0 0, []), (.slice none 0 0, [])] := by
  refine ⟨?_, ?_⟩
  · intro r hr
    simp only [List.mem_cons, List.not_mem_nil, or_false, or_self] at hr
    subst hr
    exact World.ownsRow_nil w B 5 1
  · simp [nil_apart]
theorem RB.grow {B : Nat} {w w' : World} {p q : List (Value × List Int)} {v v' : Value} {xs ys : List Int} (h : RB B w (p ++ (v, xs) :: q)) (ho : w'.ownsRow B 5 1 v' ys.length (bv ys)) (hg : w.grownBy w' v.ownBlock) (hs : StaysB w v v') : RB B w' (p ++ (v', ys) :: q) := by
  have hap := h.apart
  rw [List.pairwise_append] at hap
  obtain ⟨a1, a2, a3⟩ := hap
  rw [List.pairwise_cons] at a2
  have lt : ∀ r ∈ p ++ (v, xs) :: q, ∀ k, r.1.ownBlock = some k → k < w.heap.size := fun r hr k hk => ((h.own r hr).lt k hk).2
  have new : ∀ r ∈ p ++ (v, xs) :: q, Apart v r.1 → Apart v' r.1 := by
    intro r hr ha k h1 h2
    rcases hs with hs | hs
    · exact ha k (hs.symm.trans h1) h2
    · have := lt r hr k h2
      have := hs k h1
      omega
  refine ⟨?_, ?_⟩
  · intro r hr
    rcases List.mem_append.1 hr with hr | hr
    · exact own_grown (h.own r (List.mem_append_left _ hr)) hg (a3 r hr _ (List.mem_cons_self ..))
    · rcases List.mem_cons.1 hr with rfl | hr
      · exact ho
      · exact own_grown (h.own r (List.mem_append_right _ (List.mem_cons_of_mem _ hr))) hg (a2.1 r hr).symm
  · rw [List.pairwise_append]
    refine ⟨a1, List.pairwise_cons.2 ⟨fun r hr => new r (List.mem_append_right _ (List.mem_cons_of_mem _ hr)) (a2.1 r hr), a2.2⟩, ?_⟩
    intro r hr s hs'
    rcases List.mem_cons.1 hs' with rfl | hs'
    · exact (new r (List.mem_append_left _ hr) (a3 r hr _ (List.mem_cons_self ..)).symm).symm
    · exact a3 r hr s (List.mem_cons_of_mem _ hs')
theorem RB.belowW {B : Nat} {w w' : World} {rs : List (Value × List Int)} (h : RB B w rs) (hb : Below w.heap.size w w') : RB B w' rs :=
  ⟨fun r hr => own_keep (h.own r hr) hb, h.apart⟩
theorem RB.get {B : Nat} {w : World} {rs : List (Value × List Int)} (h : RB B w rs) {v : Value} {d : List Int} (hm : (v, d) ∈ rs) {n : Nat} (hn : d.length = n) : w.ownsRow B 5 1 v n (bv d) := by
  subst hn
  exact h.own _ hm
/-- a text behind one of the rows -/
theorem wpList_append_rb (w : World) {ops : Array Oper} {rest : List Oper} {o : Oper} {a : Act} {Q : Exit → Act → World → Prop} (hgd : o.guard = none) (s x : Operand)
    (ho : o.op = .call { callee := .builtin .append, args := #[s, x], argTypes := #[32, 9] })
    (B : Nat) (v : Value) (d : List Int) (hs : a.eval s = v) (p q : List (Value × List Int)) (hR : RB B w (p ++ (v, d) :: q)) (st : ByteArray) (hx : a.eval x = .string st) (l : List Int) (hl : Lib.strCells st = bv l) (N : Nat) (hN : (d ++ l).length = N) (hn : N ≤ 100000000) (hbase : B ≤ w.heap.size)
    (h : ∀ A' C' w', RB B w' (p ++ (.slice A' N C', d ++ l) :: q) → Below B w w' → wpList Try.prog ops Q rest (a.put o.dst (.slice A' N C')) w') :
    wpList Try.prog ops Q (o :: rest) a w := by
  subst hN
  rw [List.length_append] at hn h
  have hown := hR.own (v, d) (List.mem_append_right _ (List.mem_cons_self ..))
  refine wpList_plain hgd fun K hK => ?_
  obtain ⟨A', C', w', hr, h2, h3⟩ := run_append_cs w o.type B v d.length d hown st l hl hn hbase
  have h4 := stays_cs w o.type B v d.length d hown st l hl hn hr
  unfold Oper.wp execOp
  simp only [ho, resolve, invoke, builtin, Sem.run_bind, Sem.run_pure, Result.andThen_ok, List.map_toArray, List.map_cons, List.map_nil, hs, hx, hr]
  exact hK _ _ (h A' C' w' (hR.grow (by rw [List.length_append]; exact h2) h3 h4) (below_grown hbase hown h3))

/-- truth values -/
def tv' (l : List Bool) : List Value := l.map Value.bool
theorem infoT : (Try.prog.info? 4).map (fun i => (i.zero, i.size, i.bytes)) = some (some (.bool false), 1, 1) := by kernel_rfl
theorem own_at {w : World} {B g N C : Nat} {l : List Bool} (h : w.ownsRow B 4 1 (.slice (some ⟨g, 0, none⟩) N C) N (tv' l)) (i : Nat) (hi : i < N) : w.cell? ⟨g, i, none⟩ = some (.bool (l.getD i false)) ∧ w.frozen? ⟨g, i, none⟩ = false := by
  have hl : l.length = N := by have := h.1; simpa [tv'] using this
  refine ⟨?_, h.frozenAt i⟩
  rw [h.cellAt i (by omega)]
  simp [tv', hl, hi]
theorem own_put {w : World} {B g N C : Nat} {l : List Bool} (h : w.ownsRow B 4 1 (.slice (some ⟨g, 0, none⟩) N C) N (tv' l)) (i : Nat) (u : Bool) : (w.setCell ⟨g, i, none⟩ (.bool u)).ownsRow B 4 1 (.slice (some ⟨g, 0, none⟩) N C) N (tv' (l.set i u)) ∧ w.grownBy (w.setCell ⟨g, i, none⟩ (.bool u)) (some g) := by
  have := h.stored i (.bool u)
  rw [show tv' (l.set i u) = (tv' l).set i (.bool u) from by simp [tv', List.map_set]]
  exact this
theorem own_off {w w' : World} {B g k N C : Nat} {l : List Bool} (h : w.ownsRow B 4 1 (.slice (some ⟨g, 0, none⟩) N C) N (tv' l)) (hg : w.grownBy w' (some k)) (hne : g ≠ k) : w'.ownsRow B 4 1 (.slice (some ⟨g, 0, none⟩) N C) N (tv' l) :=
  h.kept hg (.inr (by simp [Value.ownBlock, hne]))
theorem wpList_make_bools (w : World) {ops : Array Oper} {rest : List Oper} {o : Oper} {a : Act} {Q : Exit → Act → World → Prop}
    (hg : o.guard = none) (l c : Operand) (hop : o.op = Op.makeSlice 51 l c) (L C : Int) (n : Nat) (hl : a.eval l = .int .i64 L) (hc : a.eval c = .int .i64 C) (hL : L = (n : Int)) (hC : C = (n : Int)) (hn : n ≤ 1000000)
    (B : Nat) (hB : B ≤ w.heap.size)
    (hK : ∀ g w', Hid (g = w.heap.size) → w'.ownsRow B 4 1 (.slice (some ⟨g, 0, none⟩) n n) n (tv' (List.replicate n false)) → Below w.heap.size w w' → w.heap.size + 1 ≤ w'.heap.size → wpList Try.prog ops Q rest (a.put o.dst (.slice (some ⟨g, 0, none⟩) n n)) w') :
    wpList Try.prog ops Q (o :: rest) a w := by
  obtain ⟨i0, hi, hz0, hz1, hz2⟩ := info_parts infoT
  refine wpList_make_full w hg l c 51 hop B 4 i0 (.bool false) 1 Try.underlying51 hi hz0 hz1 .i64 .i64 L C n hl hc hL hC (by rw [hz2]; omega) (by unfold maxLen; omega) hB ?_
  intro w' h1 h2
  have e : (madeCells (Value.bool false).cells (n * 1)).toList = tv' (List.replicate n false) := by
    rw [Nat.mul_one]
    show (madeCells #[Value.bool false] n).toList = _
    rw [toList_madeCells_one]
    simp [tv']
  rw [e] at h1
  refine hK _ w' (Lib.hid rfl) h1 (below_grown (v := .slice none 0 0) (e := 4) (sz := 1) (n := 0) (xs := []) (Nat.le_refl _) (World.ownsRow_nil w _ _ _) h2) ?_
  have := (h1.lt w.heap.size rfl).2
  omega
/-- a row of numbers that comes in -/
theorem rd_of_i64 {w : World} {a : Option Addr} {len cap : Nat} {zs : List Int} (h : Fr.IsInts .i64 8 w a len cap zs) : Rd w w.heap.size a len cap (iv zs) ∧ ∀ x ∈ zs, -9223372036854775808 ≤ x ∧ x ≤ 9223372036854775807 := by
  rcases h with ⟨rfl, rfl, rfl, rfl⟩ | ⟨x, rfl, hl, hm, hz, hc, hw⟩
  · exact ⟨Rd.none_ w _, fun s hs => by simp at hs⟩
  · refine ⟨⟨by simp [iv, hz], hl, by omega, by omega, (fun hn => by cases hn), ?_⟩, ?_⟩
    · intro i hi
      have h := hc i hi
      obtain ⟨b, off, spot⟩ := x
      have hspot : spot = none := by simpa [Addr.add] using World.cell?_spot (hc 0 (by omega))
      subst hspot
      have e : Addr.add ⟨b, off, none⟩ i = (⟨b, off + i, none⟩ : Addr) := by simp [Addr.add]
      rw [e] at h
      exact ⟨b, off, _, rfl, block_lt_of_cell (a := ⟨b, off + i, none⟩) h, (by simp [iv, List.getD_eq_getElem?_getD, show i < zs.length by omega]), h⟩
    · intro y hy
      exact Wi.wf_bounds (hw y hy)
end Go.Proofs.Ytlaneilmffdahaa.Mg
