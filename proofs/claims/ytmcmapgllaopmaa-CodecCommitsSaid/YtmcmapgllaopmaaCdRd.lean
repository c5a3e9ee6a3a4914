/- Bytes that are read; rows. -/
import Derived.Test.YtmcmapgllaopmaaCdKnown2
import Derived.Test.YtmcmapgllaopmaaFrInts
import Derived.Lib.SlBytesConst
import Derived.Lib.BufferRead
import Derived.Deep.OwnRows
import Derived.Laws.IdiomCopy
import Derived.Laws.Rows
namespace Go.Proofs.Ytmcmapgllaopmaa.Cd
open Go.RowKit
set_option linter.unusedVariables false

/-- a row that is stored whole -/
theorem row_setCells (b : Nat) (t : TypeId) (n : Nat) : ∀ (vs : List Value) (o : Nat) (w : World) (f : Nat → Value), w.rowIs b t n f → (w.setCells b o vs).rowIs b t n (fun j => if o ≤ j ∧ j < o + vs.length then vs.getD (j - o) undef else f j)
  | [], o, w, f, h => h.congr fun j hj => by rw [if_neg (by simp)]
  | v :: vs, o, w, f, h => by
    refine (row_setCells b t n vs (o + 1) _ _ (h.set o v)).congr fun j hj => ?_
    by_cases e : j = o
    · subst e
      rw [if_neg (by omega), if_pos rfl, if_pos (by simp)]
      simp
    · by_cases e2 : o + 1 ≤ j ∧ j < o + 1 + vs.length
      · rw [if_pos e2, if_pos (by simp; omega)]
        have : j - o = (j - (o + 1)) + 1 := by omega
        rw [this]
        simp
      · rw [if_neg e2, if_neg e, if_neg (by simp; omega)]

theorem row_new (w : World) (z : Array Value) (t : TypeId) : (w.alloc (.cells z t)).rowIs w.heap.size t z.size (fun i => z.getD i undef) :=
  ⟨z, by show (w.heap.push _)[w.heap.size]? = _; simp, rfl, fun i hi => by simp [hi]⟩
/-- a row's block, its cells told by a list -/
theorem row_block {w : World} {b : Nat} {t : TypeId} {n : Nat} {f : Nat → Value} (h : w.rowIs b t n f) (l : List Value) (hl : l.length = n) (hf : ∀ i, i < n → f i = l.getD i undef) : w.heap[b]? = some (.cells l.toArray t (0, 0)) := by
  obtain ⟨c, hb, hn, hc⟩ := h
  have : c = l.toArray := by
    apply Array.ext_getElem?
    intro i
    by_cases hi : i < n
    · rw [hc i hi, hf i hi]
      simp [hl, hi]
    · rw [Array.getElem?_eq_none (by omega), Array.getElem?_eq_none (by simp; omega)]
  rw [hb, this]

theorem row_stored {w : World} {b : Nat} {t : TypeId} {n : Nat} {f : Nat → Value} (h : w.rowIs b t n f) (vs : List Value) (hl : vs.length = n) : (w.setCells b 0 vs).heap[b]? = some (.cells vs.toArray t (0, 0)) :=
  row_block (row_setCells b t n vs 0 w f h) vs hl (fun i hi => by rw [if_pos (by omega), Nat.sub_zero])

/-- bytes laid over the waiting ones -/
def layF (F : Nat → Value) (o : Nat) (vs : List Value) : Nat → Value := fun j => if o ≤ j ∧ j < o + vs.length then vs.getD (j - o) undef else F j

theorem row_lay {w : World} {b : Nat} {t : TypeId} {n : Nat} {F : Nat → Value} (h : w.rowIs b t n F) (o : Nat) (vs : List Value) : (w.setCells b o vs).rowIs b t n (layF F o vs) := row_setCells b t n vs o w F h

theorem zeros_at (N i : Nat) (h : i < N) : (bv (List.replicate N 0)).toArray.getD i undef = .int .u8 0 := by simp [bv, h]
theorem row_apart {b E : Nat} {t : TypeId} {n : Nat} {F : Nat → Value} (hne : b ≠ E) : ∀ (vs : List Value) (o : Nat) (w : World), w.rowIs b t n F → (w.setCells E o vs).rowIs b t n F
  | [], _, _, h => h
  | v :: vs, o, w, h => row_apart hne vs (o + 1) _ (h.setOther hne v)
theorem bv_len (l : List Int) : (bv l).length = l.length := by rw [bv, List.length_map]

theorem bv_zero (N j : Nat) (h : j < N) : (bv (List.replicate N 0))[j]? = some (.int .u8 0) := by simp [bv, h]
theorem row_zeros (w : World) (N : Nat) (t : TypeId) : (w.alloc (.cells (bv (List.replicate N 0)).toArray t)).rowIs w.heap.size t N (fun _ => .int .u8 0) := by
  have h := row_new w (bv (List.replicate N 0)).toArray t
  have hl : (bv (List.replicate N 0)).toArray.size = N := by simp [bv]
  rw [hl] at h
  exact h.congr fun i hi => zeros_at N i hi

theorem wp_copy_mid {w : World} {o : Oper} {a : Act} {K : Act → World → Prop} {Q : Exit → Act → World → Prop} (d s : Operand)
    (ho : o.op = .call { callee := .builtin .copy, args := #[d, s], argTypes := #[23, 23] })
    (dp sp : Option Addr) (dLen dCap sLen sCap : Nat) (hd : a.eval d = .slice dp dLen dCap) (hs : a.eval s = .slice sp sLen sCap)
    (g off : Nat) (cs : List Value) (hn : cs.length = Nat.min sLen dLen)
    (hpos : 0 < cs.length → dp = some ⟨g, off, none⟩ ∧ ∃ ad, sp = some ad ∧ ∀ j v, cs[j]? = some v → w.cell? (ad.add j) = some v)
    (hc : ∀ j, j < cs.length → (w.cell? ⟨g, off + j, none⟩).isSome = true) (hf : ∀ j, j < cs.length → w.frozen? ⟨g, off + j, none⟩ = false) (h1 : ∀ v ∈ cs, v.oneCell' = true)
    (h : K (a.put o.dst (goInt cs.length)) (w.setCells g off cs)) : o.wp Try.prog a w K Q := by
  have hz : (Try.prog.info? 5).map (·.size) = some 1 := by kernel_rfl
  by_cases h0 : cs.length = 0
  · obtain rfl : cs = [] := List.eq_nil_of_length_eq_zero h0
    have hrun := run_copy_none (P := Try.prog) w 23 23 o.type 5 dp sp dLen dCap sLen sCap Try.underlying23 hz (by simpa using hn.symm)
    unfold Oper.wp
    simp [execOp, ho, resolve, invoke, builtin, hd, hs, hrun, Result.andThen]
    exact h
  · obtain ⟨rfl, ad, rfl, hsrc⟩ := hpos (by omega)
    have hrun := run_copy_cells (P := Try.prog) w 23 23 o.type 5 g off dLen dCap ad sLen sCap cs Try.underlying23 hz hn hsrc hc hf h1
    unfold Oper.wp
    simp [execOp, ho, resolve, invoke, builtin, hd, hs, hrun, Result.andThen]
    exact h

theorem wpList_copy_mid {w : World} {ops : Array Oper} {rest : List Oper} {o : Oper} {a : Act} {Q : Exit → Act → World → Prop} (hgd : o.guard = none) (d s : Operand)
    (ho : o.op = .call { callee := .builtin .copy, args := #[d, s], argTypes := #[23, 23] })
    (dp sp : Option Addr) (dLen dCap sLen sCap : Nat) (hd : a.eval d = .slice dp dLen dCap) (hs : a.eval s = .slice sp sLen sCap)
    (g off : Nat) (cs : List Value) (hn : cs.length = Nat.min sLen dLen)
    (hpos : 0 < cs.length → dp = some ⟨g, off, none⟩ ∧ ∃ ad, sp = some ad ∧ ∀ j v, cs[j]? = some v → w.cell? (ad.add j) = some v)
    (hc : ∀ j, j < cs.length → (w.cell? ⟨g, off + j, none⟩).isSome = true) (hf : ∀ j, j < cs.length → w.frozen? ⟨g, off + j, none⟩ = false) (h1 : ∀ v ∈ cs, v.oneCell' = true)
    (h : wpList Try.prog ops Q rest (a.put o.dst (goInt cs.length)) (w.setCells g off cs)) : wpList Try.prog ops Q (o :: rest) a w :=
  wpList_plain hgd fun _ hK => wp_copy_mid d s ho dp sp dLen dCap sLen sCap hd hs g off cs hn hpos hc hf h1 (hK _ _ h)

/-- a slice of bytes that is read -/
structure RdB (w : World) (A : Option Addr) (n C : Nat) (l : List Int) : Prop where
  len : l.length = n
  cap : n ≤ C
  max : C ≤ 9223372036854775807
  big : n ≤ 140737488355328
  none : A = none → C = 0
  byte : ∀ i, i < n → 0 ≤ l.getD i 0 ∧ l.getD i 0 ≤ 255
  cell : ∀ x, A = some x → (0 < n → x.block < w.heap.size) ∧ ∀ i, i < n → w.cell? (x.add i) = some (.int .u8 (l.getD i 0))

theorem RdB.below {w w' : World} {A : Option Addr} {n C : Nat} {l : List Int} (h : RdB w A n C l) (hb : Below w.heap.size w w') : RdB w' A n C l :=
  ⟨h.len, h.cap, h.max, h.big, h.none, h.byte, fun x hx => by
    obtain ⟨h1, h2⟩ := h.cell x hx
    refine ⟨fun h0 => Nat.lt_of_lt_of_le (h1 h0) hb.size, fun i hi => ?_⟩
    rw [hb.cell (p := x.add i) (by have : (x.add i).block = x.block := by unfold Addr.add; split <;> rfl
                                   rw [this]; exact h1 (by omega))]
    exact h2 i hi⟩

theorem own_slice' {w : World} {B e sz n : Nat} {v : Value} {xs : List Value} (h : w.ownsRow B e sz v n xs) : ∃ A c, v = .slice A n c := by
  rcases h.2 with ⟨rfl, rfl⟩ | ⟨g, cap, cur, rfl, _⟩ <;> exact ⟨_, _, rfl⟩

theorem rd_of_ints {w : World} {a : Option Addr} {len cap : Nat} {zs : List Int} (h : Fr.IsInts .u8 1 w a len cap zs) : RdB w a len cap zs := by
  rcases h with ⟨rfl, rfl, rfl, rfl⟩ | ⟨x, rfl, hl, hm, hz, hc, hw⟩
  · exact ⟨rfl, Nat.le_refl _, by omega, by omega, fun _ => rfl, fun i hi => absurd hi (by omega), fun x hx => by cases hx⟩
  · refine ⟨hz, hl, by omega, by omega, (fun hn => by cases hn), ?_, ?_⟩
    · intro i hi
      have hm : zs.getD i 0 ∈ zs := by rw [List.getD_eq_getElem?_getD, List.getElem?_eq_getElem (by omega)]; exact List.getElem_mem _
      have h1 := hw _ hm
      have e1 : IntKind.u8.min = 0 := rfl
      have e2 : IntKind.u8.max = 255 := rfl
      simp only [Lit.wf, Bool.and_eq_true, decide_eq_true_eq] at h1
      omega
    · intro y hy
      obtain rfl := Option.some.inj hy
      exact ⟨fun h0 => by simpa [Addr.add] using block_lt_of_cell (hc 0 h0), hc⟩
theorem RdB.of_own {w : World} {B g n C : Nat} {l : List Int} (h : w.ownsRow B 5 1 (.slice (some ⟨g, 0, Option.none⟩) n C) n (bv l)) (hn : n ≤ 140737488355328) (hb : ∀ i, i < n → 0 ≤ l.getD i 0 ∧ l.getD i 0 ≤ 255) : RdB w (some ⟨g, 0, Option.none⟩) n C l := by
  have h1 := h.1
  rw [bv, List.length_map] at h1
  rcases h.2 with ⟨hv, _⟩ | ⟨g', cap, cur, hv, hg, hh, hc1, hc2, hc3, ht⟩
  · simp at hv
  · simp only [Value.slice.injEq, Option.some.injEq, Addr.mk.injEq, and_true, true_and] at hv
    obtain ⟨rfl, rfl⟩ := hv
    refine ⟨by omega, hc1, hc2, hn, (fun hn => by cases hn), hb, fun x hx => ?_⟩
    obtain rfl := Option.some.inj hx
    have hl : g < w.heap.size := by
      rcases Nat.lt_or_ge g w.heap.size with h | h
      · exact h
      · rw [Array.getElem?_eq_none h] at hh; simp at hh
    refine ⟨fun _ => hl, fun i hi => ?_⟩
    rw [show Addr.add ⟨g, 0, Option.none⟩ i = (⟨g, i, Option.none⟩ : Addr) from by simp [Addr.add]; omega, World.ownsRow.cellAt h i (by omega)]
    simp [bv, show i < l.length by omega]
theorem RdB.nil (w : World) : RdB w Option.none 0 0 [] := ⟨rfl, Nat.le_refl _, by omega, by omega, fun _ => rfl, fun i hi => absurd hi (by omega), fun x hx => by cases hx⟩
/-- any own row of bytes is read -/
theorem RdB.of_own' {w : World} {B n : Nat} {v : Value} {l : List Int} (h : w.ownsRow B 5 1 v n (bv l)) (hn : n ≤ 140737488355328) (hb : ∀ i, i < n → 0 ≤ l.getD i 0 ∧ l.getD i 0 ≤ 255) : ∃ A C, v = .slice A n C ∧ RdB w A n C l := by
  rcases h.2 with ⟨rfl, rfl⟩ | ⟨g, cap, cur, rfl, hg, hh, hc1, hc2, hc3, ht⟩
  · have h1 := h.1
    have : l = [] := List.eq_nil_of_length_eq_zero (by simpa [bv] using h1)
    subst this
    exact ⟨Option.none, 0, rfl, RdB.nil w⟩
  · exact ⟨_, _, rfl, RdB.of_own h hn hb⟩
/-- where its first cell lies -/
theorem RdB.at {w : World} {A : Option Addr} {n C : Nat} {l : List Int} (h : RdB w A n C l) (h0 : 0 < n) : ∃ g o, A = some ⟨g, o, Option.none⟩ ∧ g < w.heap.size ∧ ∀ i, i < n → w.cell? ⟨g, o + i, Option.none⟩ = some (.int .u8 (l.getD i 0)) := by
  cases hA : A with
  | none => have := h.none hA; have := h.cap; omega
  | some x =>
    obtain ⟨h1, h2⟩ := h.cell x hA
    obtain ⟨b, off, spot⟩ := x
    have hspot : spot = Option.none := by simpa [Addr.add] using World.cell?_spot (h2 0 h0)
    subst hspot
    exact ⟨b, off, rfl, h1 h0, fun i hi => by rw [← h2 i hi]; congr 1; simp [Addr.add]⟩
theorem RdB.of_own2 {w : World} {B n : Nat} {A : Option Addr} {C : Nat} {l : List Int} (h : w.ownsRow B 5 1 (.slice A n C) n (bv l)) (hn : n ≤ 140737488355328) (hb : ∀ i, i < n → 0 ≤ l.getD i 0 ∧ l.getD i 0 ≤ 255) : RdB w A n C l := by
  obtain ⟨A2, C2, he, hr⟩ := RdB.of_own' h hn hb
  simp only [Value.slice.injEq, true_and] at he
  obtain ⟨rfl, rfl⟩ := he
  exact hr
theorem conv_rd {w : World} {A : Option Addr} {n C : Nat} {l : List Int} (h : RdB w A n C l) : (convert 23 9 (.slice A n C)).run Try.prog w = .ok (.string (sb l)) w := by
  cases A with
  | none =>
    have hc := h.none rfl
    have hn : n = 0 := by have := h.cap; omega
    subst hn
    obtain rfl : l = [] := List.eq_nil_of_length_eq_zero h.len
    exact Lib.run_convert_nil_bytes w _ _ 5 C Try.underlying23 Try.underlying5 Try.underlying9
  | some a =>
    obtain ⟨h1, h2⟩ := h.cell a rfl
    have hl := h.len
    refine conv_cells w a l C n h.len ?_
    intro j u hj
    obtain ⟨hj1, hj2⟩ := List.getElem?_eq_some_iff.1 hj
    rw [bv, List.length_map] at hj1
    rw [h2 j (by omega), ← hj]
    simp [bv, hj1]

theorem wpList_append_rd (w : World) {ops : Array Oper} {rest : List Oper} {o : Oper} {a : Act} {Q : Exit → Act → World → Prop} (hgd : o.guard = none) (s x : Operand)
    (ho : o.op = .call { callee := .builtin .append, args := #[s, x], argTypes := #[23, 23] })
    (B : Nat) (v : Value) (n : Nat) (d : List Int) (hs : a.eval s = v) (hown : w.ownsRow B 5 1 v n (bv d))
    (A : Option Addr) (m c : Nat) (l : List Int) (hx : a.eval x = .slice A m c) (hsl : RdB w A m c l)
    (hbytes : (n + m) * 1 ≤ 140737488355328) (hbase : B ≤ w.heap.size)
    (h : ∀ A' C' w', w'.ownsRow B 5 1 (.slice A' (n + m) C') (n + m) (bv (d ++ l)) → Below B w w' → wpList Try.prog ops Q rest (a.put o.dst (.slice A' (n + m) C')) w') :
    wpList Try.prog ops Q (o :: rest) a w := by
  refine wpList_plain hgd fun K hK => ?_
  obtain ⟨i0, hi, hz0, hz1, hz2⟩ := info_parts info5
  have key : ∃ A' C' w', (Builtin.append_ #[23, 23] o.type #[v, .slice A m c]).run Try.prog w = .ok (.slice A' (n + m) C') w' ∧ w'.ownsRow B 5 1 (.slice A' (n + m) C') (n + m) (bv (d ++ l)) ∧ Below B w w' := by
    cases A with
    | none =>
      have hc := hsl.none rfl
      have hm : m = 0 := by have := hsl.cap; omega
      subst hm hc
      obtain rfl : l = [] := List.eq_nil_of_length_eq_zero hsl.len
      obtain ⟨A', C', rfl⟩ := own_slice' hown
      refine ⟨A', C', w, run_append_owned_none (P := Try.prog) w B 23 o.type 5 i0 1 Try.underlying23 hi _ _ _ hown, ?_, Below.refl B w⟩
      rw [List.append_nil]
      exact hown
    | some y =>
      obtain ⟨-, hcc⟩ := hsl.cell y rfl
      have hll := hsl.len
      have hnw : ∀ j u, (bv l)[j]? = some u → w.cell? (y.add j) = some u := by
        intro j u hj
        have hj1 := (List.getElem?_eq_some_iff.1 hj).1
        rw [bv, List.length_map, hll] at hj1
        rw [hcc j hj1, ← hj]
        simp [bv, hll, hj1]
      obtain ⟨v', w', hr, h2, h3, h4⟩ := run_append_own (P := Try.prog) w B 23 o.type 5 i0 (.int .u8 0) 1 1 Try.underlying23 hi hz0 hz1 hz2 rfl (by decide) v n (bv d) hown y m c (bv l) (by rw [bv, List.length_map, hll]; omega) hnw (bv_one l) (by unfold maxLen; omega) hbytes hbase
      obtain ⟨A', C', rfl⟩ := own_slice' h2
      exact ⟨A', C', w', hr, by rw [show bv (d ++ l) = bv d ++ bv l from by simp [bv]]; exact h2, below_grown hbase hown h3⟩
  obtain ⟨A', C', w', hr, h2, h3⟩ := key
  unfold Oper.wp execOp
  simp only [ho, resolve, invoke, builtin, Sem.run_bind, Sem.run_pure, Result.andThen_ok, List.map_toArray, List.map_cons, List.map_nil, hs, hx, hr]
  exact hK _ _ (h A' C' w' h2 h3)

end Go.Proofs.Ytmcmapgllaopmaa.Cd
