/- Rows of one's own that grow: of ints, of strings, several beside one another. -/
import Derived.Test.YtlaneilmffdahaaLnOpen
import Derived.Maps.AppendAt
import Derived.Laws.OwnMore
namespace Go.Proofs.Ytlaneilmffdahaa.Mg
open Go.RowKit Go.Proofs.Ytlaneilmffdahaa.Ln
set_option linter.unusedVariables false

theorem ret_i {k : IntKind} {a b : Int} (h : a = b) : Ending.returned (.int k a) = .returned (.int k b) := by rw [h]
/-- a type of rows whose things are one cell each -/
structure El (tS tE : TypeId) (z : Value) (by' : Nat) : Prop where
  und : Try.prog.underlying tS = some (.slice tE)
  info : (Try.prog.info? tE).map (fun i => (i.zero, i.size, i.bytes)) = some (some z, 1, by')
  z1 : z.cells.size = 1
  byt : by' ≤ 100
theorem elI : El 49 3 (.int .i64 0) 8 := ⟨Try.underlying49, by kernel_rfl, rfl, by decide⟩
theorem elS : El 22 9 (.string ByteArray.empty) 16 := ⟨Try.underlying22, by kernel_rfl, rfl, by decide⟩
theorem elB : El 32 5 (.int .u8 0) 1 := ⟨Try.underlying32, by kernel_rfl, rfl, by decide⟩
theorem iv_one (l : List Int) : ∀ u ∈ iv l, u.oneCell' = true := by
  intro u hu
  obtain ⟨x, _, rfl⟩ := List.mem_map.1 hu
  rfl
/-- where the row lies behind an append -/
def Stays (w : World) (v v' : Value) : Prop := v'.ownBlock = v.ownBlock ∨ v'.ownBlock = some w.heap.size
theorem run_append_rd {tS tE : TypeId} {z : Value} {by' : Nat} (T : El tS tE z by') (w : World) (ty : TypeId) (B : Nat) (v : Value) (n : Nat) (d : List Value) (hown : w.ownsRow B tE 1 v n d)
    (B2 : Nat) (A : Option Addr) (m c : Nat) (l : List Value) (hsl : Rd w B2 A m c l) (hone : ∀ u ∈ l, u.oneCell' = true) (hn : n + m ≤ 100000000) (hbase : B ≤ w.heap.size) :
    ∃ A' C' w', (Builtin.append_ #[tS, tS] ty #[v, .slice A m c]).run Try.prog w = .ok (.slice A' (n + m) C') w' ∧ w'.ownsRow B tE 1 (.slice A' (n + m) C') (n + m) (d ++ l) ∧ w.grownBy w' v.ownBlock ∧ Stays w v (.slice A' (n + m) C') := by
  obtain ⟨i0, hi, hz0, hz1, hz2⟩ := info_parts T.info
  cases A with
  | none =>
    have hc := hsl.hnone rfl
    have hm : m = 0 := by have := hsl.hcap; omega
    subst hm hc
    obtain rfl : l = [] := List.eq_nil_of_length_eq_zero hsl.hlen
    obtain ⟨A', N', C', rfl⟩ := own_slice hown
    obtain rfl := own_N hown
    refine ⟨A', C', w, run_append_owned_none (P := Try.prog) w B tS ty tE i0 1 T.und hi _ _ _ hown, by rw [List.append_nil]; exact hown, ⟨rfl, rfl, rfl, Nat.le_refl _, fun _ _ _ => rfl⟩, .inl rfl⟩
  | some x =>
    have hnw : ∀ j u, l[j]? = some u → w.cell? (x.add j) = some u := by
      intro j u hj
      obtain ⟨hj1, hj2⟩ := List.getElem?_eq_some_iff.1 hj
      rw [hsl.hlen] at hj1
      obtain ⟨b, off, v', he, _, hv', hc⟩ := hsl.hcell j hj1
      simp only [Option.some.injEq] at he
      subst he
      rw [show Addr.add ⟨b, off, none⟩ j = (⟨b, off + j, none⟩ : Addr) from by simp [Addr.add], hc, ← hj, hv']
    have hby : (n + m) * by' ≤ (n + m) * 100 := Nat.mul_le_mul_left _ T.byt
    obtain ⟨v', w', hr, h2, h3, h4, h5⟩ := run_append_own_at (P := Try.prog) w B tS ty tE i0 z 1 by' T.und hi hz0 hz1 hz2 T.z1 (by decide) v n d hown x m c l (by rw [hsl.hlen]; omega) hnw hone (by unfold maxLen; omega) (by omega) hbase
    obtain ⟨A', N', C', rfl⟩ := own_slice h2
    obtain rfl := own_N h2
    exact ⟨A', C', w', hr, h2, h3, h5⟩
theorem wpList_append_rd {tS tE : TypeId} {z : Value} {by' : Nat} (T : El tS tE z by') (w : World) {ops : Array Oper} {rest : List Oper} {o : Oper} {a : Act} {Q : Exit → Act → World → Prop} (hgd : o.guard = none) (s x : Operand)
    (ho : o.op = .call { callee := .builtin .append, args := #[s, x], argTypes := #[tS, tS] })
    (B : Nat) (v : Value) (n : Nat) (d : List Value) (hs : a.eval s = v) (hown : w.ownsRow B tE 1 v n d)
    (B2 : Nat) (A : Option Addr) (m c : Nat) (l : List Value) (hx : a.eval x = .slice A m c) (hsl : Rd w B2 A m c l) (hone : ∀ u ∈ l, u.oneCell' = true) (N : Nat) (hN : n + m = N) (hn : N ≤ 100000000) (hbase : B ≤ w.heap.size)
    (h : ∀ A' C' w', w'.ownsRow B tE 1 (.slice A' N C') N (d ++ l) → w.grownBy w' v.ownBlock → Stays w v (.slice A' N C') → wpList Try.prog ops Q rest (a.put o.dst (.slice A' N C')) w') :
    wpList Try.prog ops Q (o :: rest) a w := by
  subst hN
  refine wpList_plain hgd fun K hK => ?_
  obtain ⟨A', C', w', hr, h2, h3, h4⟩ := run_append_rd T w o.type B v n d hown B2 A m c l hsl hone hn hbase
  unfold Oper.wp execOp
  simp only [ho, resolve, invoke, builtin, Sem.run_bind, Sem.run_pure, Result.andThen_ok, List.map_toArray, List.map_cons, List.map_nil, hs, hx, hr]
  exact hK _ _ (h A' C' w' h2 h3 h4)
theorem step_append_rd {tS tE : TypeId} {z : Value} {by' : Nat} (T : El tS tE z by') (w : World) {ops : Array Oper} {o : Oper} {a : Act} {K : Act → World → Prop} {Q : Exit → Act → World → Prop} {E : Prop} (hgd : o.guard = none) (s x : Operand)
    (ho : o.op = .call { callee := .builtin .append, args := #[s, x], argTypes := #[tS, tS] })
    (B : Nat) (v : Value) (n : Nat) (d : List Value) (hs : a.eval s = v) (hown : w.ownsRow B tE 1 v n d)
    (B2 : Nat) (A : Option Addr) (m c : Nat) (l : List Value) (hx : a.eval x = .slice A m c) (hsl : Rd w B2 A m c l) (hone : ∀ u ∈ l, u.oneCell' = true) (N : Nat) (hN : n + m = N) (hn : N ≤ 100000000) (hbase : B ≤ w.heap.size)
    (h : ∀ A' C' w', w'.ownsRow B tE 1 (.slice A' N C') N (d ++ l) → w.grownBy w' v.ownBlock → Stays w v (.slice A' N C') → K (a.put o.dst (.slice A' N C')) w') :
    if Region.wanted o (yielded ops a.tmps) = true then Oper.wp Try.prog o a w K Q else E := by
  subst hN
  have hw : Region.wanted o (yielded ops a.tmps) = true := by simp [Region.wanted, hgd]
  rw [if_pos hw]
  obtain ⟨A', C', w', hr, h2, h3, h4⟩ := run_append_rd T w o.type B v n d hown B2 A m c l hsl hone hn hbase
  unfold Oper.wp execOp
  simp only [ho, resolve, invoke, builtin, Sem.run_bind, Sem.run_pure, Result.andThen_ok, List.map_toArray, List.map_cons, List.map_nil, hs, hx, hr]
  exact h A' C' w' h2 h3 h4
/-- one thing in a block of its own, just made -/
theorem rd_new (w : World) (u : Value) (t : TypeId) : Rd (w.alloc (.cells #[u] t)) (w.heap.size + 1) (some ⟨w.heap.size, 0, none⟩) 1 1 [u] := by
  refine ⟨rfl, Nat.le_refl _, by omega, by omega, (fun hn => by cases hn), ?_⟩
  intro i hi
  obtain rfl : i = 0 := by omega
  exact ⟨w.heap.size, 0, u, rfl, by omega, rfl, cell_of_one (heap_alloc_new w _)⟩

/-- two slices whose rows lie in blocks of their own -/
def Apart (v u : Value) : Prop := ∀ k, v.ownBlock = some k → u.ownBlock ≠ some k
theorem Apart.symm {v u : Value} (h : Apart v u) : Apart u v := fun k h1 h2 => h k h2 h1
theorem apart_nil (v : Value) : Apart v (.slice none 0 0) := fun k _ h => by cases h
theorem nil_apart (v : Value) : Apart (.slice none 0 0) v := fun k h => by cases h
/-- rows of strings of one's own, each in a block of its own -/
structure Rows (B : Nat) (w : World) (rs : List (Value × List ByteArray)) : Prop where
  own : ∀ r ∈ rs, w.ownsRow B 9 1 r.1 r.2.length (sv r.2)
  apart : rs.Pairwise fun r s => Apart r.1 s.1
theorem Rows.nil (B : Nat) (w : World) : Rows B w [] := ⟨fun r h => by simp at h, List.Pairwise.nil⟩
theorem own_grown {w w' : World} {B e sz n : Nat} {v u : Value} {xs : List Value} (h : w.ownsRow B e sz u n xs) (hg : w.grownBy w' v.ownBlock) (ha : Apart u v) : w'.ownsRow B e sz u n xs := by
  refine h.kept hg ?_
  cases hu : u.ownBlock with
  | none => exact .inl rfl
  | some k => exact .inr fun e => ha k hu e.symm
theorem Rows.kp {ts : List TypeId} {B : Nat} {w w' : World} {rs : List (Value × List ByteArray)} (h : Rows B w rs) (k : Kp ts w w') (ht : 9 ∉ ts) : Rows B w' rs :=
  ⟨fun r hr => k.own (h.own r hr) ht, h.apart⟩
theorem Rows.belowW {B : Nat} {w w' : World} {rs : List (Value × List ByteArray)} (h : Rows B w rs) (hb : Below w.heap.size w w') : Rows B w' rs :=
  h.kp (kp_of_below (ts := []) hb) (by simp)
/-- one of the rows grows -/
theorem Rows.grow {B : Nat} {w w' : World} {p q : List (Value × List ByteArray)} {v v' : Value} {xs ys : List ByteArray} (h : Rows B w (p ++ (v, xs) :: q)) (ho : w'.ownsRow B 9 1 v' ys.length (sv ys)) (hg : w.grownBy w' v.ownBlock) (hs : Stays w v v') : Rows B w' (p ++ (v', ys) :: q) := by
  have hap := h.apart
  rw [List.pairwise_append] at hap
  obtain ⟨a1, a2, a3⟩ := hap
  rw [List.pairwise_cons] at a2
  have lt : ∀ r ∈ p ++ (v, xs) :: q, ∀ k, r.1.ownBlock = some k → k < w.heap.size := fun r hr k hk => ((h.own r hr).lt k hk).2
  have new : ∀ r ∈ p ++ (v, xs) :: q, Apart v r.1 → Apart v' r.1 := by
    intro r hr ha k h1 h2
    rcases hs with hs | hs
    · exact ha k (hs.symm.trans h1) h2
    · rw [hs] at h1
      have := lt r hr k h2
      have := Option.some.inj h1
      omega
  refine ⟨?_, ?_⟩
  · intro r hr
    rcases List.mem_append.1 hr with hr | hr
    · exact own_grown (h.own r (List.mem_append_left _ hr)) hg (a3 r hr _ (List.mem_cons_self ..))
    · rcases List.mem_cons.1 hr with rfl | hr
      · exact ho
      · exact own_grown (h.own r (List.mem_append_right _ (List.mem_cons_of_mem _ hr))) hg (a2.1 r hr).symm
  · rw [List.pairwise_append]
    refine ⟨a1, List.pairwise_cons.2 ⟨fun r hr => new r (List.mem_append_right _ (List.mem_cons_of_mem _ hr)) (a2.1 r hr), a2.2⟩, ?_⟩
    intro r hr s hs'
    rcases List.mem_cons.1 hs' with rfl | hs'
    · exact (new r (List.mem_append_left _ hr) (a3 r hr _ (List.mem_cons_self ..)).symm).symm
    · exact a3 r hr s (List.mem_cons_of_mem _ hs')
/-- rows more behind -/
theorem Rows.append {B : Nat} {w : World} {p q : List (Value × List ByteArray)} (h : Rows B w p) (g : Rows B w q) (ha : ∀ r ∈ p, ∀ s ∈ q, Apart r.1 s.1) : Rows B w (p ++ q) :=
  ⟨fun r hr => (List.mem_append.1 hr).elim (h.own r) (g.own r), List.pairwise_append.2 ⟨h.apart, g.apart, ha⟩⟩
theorem Rows.left {B : Nat} {w : World} {p q : List (Value × List ByteArray)} (h : Rows B w (p ++ q)) : Rows B w p :=
  ⟨fun r hr => h.own r (List.mem_append_left _ hr), (List.pairwise_append.1 h.apart).1⟩
theorem Rows.off {B : Nat} {w : World} {rs : List (Value × List ByteArray)} (h : Rows B w rs) {r : Value × List ByteArray} (hr : r ∈ rs) {k : Nat} (hk : w.heap.size ≤ k ∨ k < B) : r.1.ownBlock ≠ some k := by
  intro e
  have := (h.own r hr).lt k e
  omega
end Go.Proofs.Ytlaneilmffdahaa.Mg
