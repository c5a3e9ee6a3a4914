/- sides.from: the lines between two places of each side. -/
import Derived.Test.YtlaneilmffdahaaMgSide
import Derived.Test.YtlaneilmffdahaaMgMath
import Derived.Test.YtlaneilmffdahaaMgRow
import Derived.StillTailTactics
namespace Go.Proofs.Ytlaneilmffdahaa.Mg
open Go.RowKit Go.Proofs.Ytlaneilmffdahaa.Ln
set_option linter.unusedVariables false

/-- a slice that reads as strings -/
def SlAt (w : World) (B : Nat) (v : Value) (xs : List ByteArray) : Prop := ∃ A n C, v = .slice A n C ∧ Rd w B A n C (sv xs)
theorem SlAt.below {w w' : World} {B : Nat} {v : Value} {xs : List ByteArray} (h : SlAt w B v xs) (hb : Below B w w') : SlAt w' B v xs := by
  obtain ⟨A, n, C, rfl, hr⟩ := h
  exact ⟨A, n, C, rfl, hr.below hb⟩
/-- a cut of a slice -/
def cutV (v : Value) (p q : Nat) : Value := match v with | .slice A n C => .slice (if C = p then A else Option.map (fun x => x.add p) A) (q - p) (C - p) | v => v
theorem SlAt.cut {w : World} {B : Nat} {v : Value} {xs : List ByteArray} (h : SlAt w B v xs) {p q : Nat} (hp : p ≤ q) (hq : q ≤ xs.length) : SlAt w B (cutV v p q) (seg xs p q) := by
  obtain ⟨A, n, C, rfl, hr⟩ := h
  have hl := rd_len hr
  refine ⟨_, _, _, rfl, ?_⟩
  have h1 := (hr.take q (by omega)).cut p hp
  have e : List.drop p (List.take q (sv xs)) = sv (seg xs p q) := by simp [sv, seg, List.map_drop, List.map_take]
  rw [e] at h1
  exact h1

/-- what stands behind k cuts -/
def cutF (V : Nat → Value) (P Q : Nat → Nat) (k i : Nat) : Value := if i < k then cutV (V i) (P i) (Q i) else V i
structure Fm (w : World) (V : Nat → Value) (P Q : Nat → Nat) (k : Nat) (wr : World) : Prop where
  s : wr.rowIs w.heap.size 59 3 (cutF V P Q k)
  p : wr.rowIs (w.heap.size + 1) 60 3 (fun i => .int .i64 (P i : Nat))
  q : wr.rowIs (w.heap.size + 1 + 1) 60 3 (fun i => .int .i64 (Q i : Nat))
  r : wr.rowIs (w.heap.size + 1 + 1 + 1) 59 3 (fun i => .slice none 0 0)
  b : Below w.heap.size w wr
theorem Fm.drew {w : World} {V : Nat → Value} {P Q : Nat → Nat} {k : Nat} {wr : World} (h : Fm w V P Q k wr) : Fm w V P Q k wr.drew := ⟨h.s, h.p, h.q, h.r, below_drewN h.b 1⟩
theorem Fm.set {w : World} {V : Nat → Value} {P Q : Nat → Nat} {k : Nat} {wr : World} (h : Fm w V P Q k wr) (u : Value) (hu : u = cutV (V k) (P k) (Q k)) : Fm w V P Q (k + 1) (wr.setCell ⟨w.heap.size, k, none⟩ u) :=
  ⟨(h.s.set k u).congr fun i _ => by
    subst hu
    unfold cutF
    by_cases e : i = k
    · subst e; simp
    · rw [if_neg e]
      by_cases h1 : i < k
      · rw [if_pos h1, if_pos (by omega)]
      · rw [if_neg h1, if_neg (by omega)], h.p.setOther (by simp) u, h.q.setOther (by simp; omega) u, h.r.setOther (by simp; omega) u, h.b.setCell (Nat.le_refl _) u⟩
theorem three {α : Type} (x y z : α) (f : Nat → α) (h0 : f 0 = x) (h1 : f 1 = y) (h2 : f 2 = z) : ∀ i, i < #[x, y, z].size → #[x, y, z][i]? = some (f i)
  | 0, _ => by simp [h0]
  | 1, _ => by simp [h1]
  | 2, _ => by simp [h2]
  | i + 3, h => by simp at h; omega
theorem fm_start (w : World) (V : Nat → Value) (P Q : Nat → Nat) : Fm w V P Q 0 ((((w.alloc (.cells #[V 0, V 1, V 2] 59)).alloc (.cells #[.int .i64 (P 0 : Nat), .int .i64 (P 1 : Nat), .int .i64 (P 2 : Nat)] 60)).alloc (.cells #[.int .i64 (Q 0 : Nat), .int .i64 (Q 1 : Nat), .int .i64 (Q 2 : Nat)] 60)).alloc (.cells #[.slice none 0 0, .slice none 0 0, .slice none 0 0] 59)) := by
  have z1 : (w.alloc (.cells #[V 0, V 1, V 2] 59)).heap.size = w.heap.size + 1 := by simp
  have z2 : ((w.alloc (.cells #[V 0, V 1, V 2] 59)).alloc (.cells #[.int .i64 (P 0 : Nat), .int .i64 (P 1 : Nat), .int .i64 (P 2 : Nat)] 60)).heap.size = w.heap.size + 1 + 1 := by simp
  have z3 : (((w.alloc (.cells #[V 0, V 1, V 2] 59)).alloc (.cells #[.int .i64 (P 0 : Nat), .int .i64 (P 1 : Nat), .int .i64 (P 2 : Nat)] 60)).alloc (.cells #[.int .i64 (Q 0 : Nat), .int .i64 (Q 1 : Nat), .int .i64 (Q 2 : Nat)] 60)).heap.size = w.heap.size + 1 + 1 + 1 := by simp
  refine ⟨?_, ?_, ?_, ?_, ?_⟩
  · exact (((World.rowIs_alloc w #[V 0, V 1, V 2] _ _ (three _ _ _ (cutF V P Q 0) rfl rfl rfl)).alloc _).alloc _).alloc _
  · have := World.rowIs_alloc (w.alloc (.cells #[V 0, V 1, V 2] 59)) #[.int .i64 (P 0 : Nat), .int .i64 (P 1 : Nat), .int .i64 (P 2 : Nat)] 60 (fun i => .int .i64 (P i : Nat)) (three _ _ _ _ rfl rfl rfl)
    rw [z1] at this
    exact (this.alloc _).alloc _
  · have := World.rowIs_alloc ((w.alloc (.cells #[V 0, V 1, V 2] 59)).alloc (.cells #[.int .i64 (P 0 : Nat), .int .i64 (P 1 : Nat), .int .i64 (P 2 : Nat)] 60)) #[.int .i64 (Q 0 : Nat), .int .i64 (Q 1 : Nat), .int .i64 (Q 2 : Nat)] 60 (fun i => .int .i64 (Q i : Nat)) (three _ _ _ _ rfl rfl rfl)
    rw [z2] at this
    exact this.alloc _
  · have := World.rowIs_alloc (((w.alloc (.cells #[V 0, V 1, V 2] 59)).alloc (.cells #[.int .i64 (P 0 : Nat), .int .i64 (P 1 : Nat), .int .i64 (P 2 : Nat)] 60)).alloc (.cells #[.int .i64 (Q 0 : Nat), .int .i64 (Q 1 : Nat), .int .i64 (Q 2 : Nat)] 60)) #[.slice none 0 0, .slice none 0 0, .slice none 0 0] 59 (fun i => .slice none 0 0) (three _ _ _ _ rfl rfl rfl)
    rw [z3] at this
    exact this
  · exact ((((Below.refl _ w).alloc (Nat.le_refl _) _).alloc (by simp) _).alloc (by simp; omega) _).alloc (by simp; omega) _

set_option maxRecDepth 100000 in
set_option maxHeartbeats 2000000 in
theorem from_all (V : Nat → Value) (P Q : Nat → Nat) (w : World) (hV : ∀ i, i < 3 → ∃ A n C, V i = .slice A n C ∧ P i ≤ Q i ∧ Q i ≤ n ∧ n ≤ C ∧ C ≤ 9223372036854775807) :
    Calls Try.prog 32 #[.agg #[V 0, V 1, V 2], .agg #[.int .i64 (P 0 : Nat), .int .i64 (P 1 : Nat), .int .i64 (P 2 : Nat)], .agg #[.int .i64 (Q 0 : Nat), .int .i64 (Q 1 : Nat), .int .i64 (Q 2 : Nat)]] w
      fun e w' => e = .returned (.agg #[cutV (V 0) (P 0) (Q 0), cutV (V 1) (P 1) (Q 1), cutV (V 2) (P 2) (Q 2)]) ∧ Below w.heap.size w w' := by
  have HV := Lib.hid hV
  have HS := Lib.hid (fm_start w V P Q)
  clear hV
  go_enter Try.func32, Try.ntmps32
  go_wp2
  go_loopw [8] (fun s8 wr => ∃ k : Nat, k ≤ 3 ∧ s8 = .int .i64 k ∧ Hid (Fm w V P Q k wr)) (fun s8 _ => 3 - (intOf s8).toNat)
  case atStart => exact ⟨0, by omega, rfl, HS⟩
  case round =>
    obtain ⟨k, hk, rfl, HF⟩ := hrel
    by_cases hlt : k < 3
    · obtain ⟨A, n, C, hV, hpq, hqn, hnC, hC⟩ := HV.out k hlt
      have hlt' : (k : Int) < 3 := by omega
      have hpq' : (P k : Int) ≤ (Q k : Int) := by omega
      have hqC : (Q k : Int) ≤ (C : Int) := by omega
      have c1 := HF.out.drew.s.cell hlt
      have c2 := HF.out.drew.p.cell hlt
      have c3 := HF.out.drew.q.cell hlt
      have f1 := HF.out.drew.s.frozen k
      simp only [cutF, Nat.lt_irrefl, if_false, hV] at c1
      have HS2 := Lib.hid (HF.out.drew.set (cutV (V k) (P k) (Q k)) rfl)
      simp only [cutV, hV] at HS2
      have HVk := Lib.hid hV
      generalize P k = p at *
      generalize Q k = q at *
      obtain ⟨A', hA'⟩ : ∃ A', (if C = p then A else Option.map (fun x => x.add p) A) = A' := ⟨_, rfl⟩
      rw [hA'] at HS2
      clear hV
      go_wp2
      go_still_tail 12, (by kernel_rfl)
      change wpList _ _ _ _ _ wr.drew
      generalize wr.drew = w2 at *
      go_wp2
      go_roundw
      case rel => exact ⟨k + 1, by omega, by go_num, HS2⟩
      case measure => simp [intOf]; omega
    · obtain rfl : k = 3 := by omega
      have hv : ∀ i, i < 3 → cutF V P Q 3 i = [cutV (V 0) (P 0) (Q 0), cutV (V 1) (P 1) (Q 1), cutV (V 2) (P 2) (Q 2)].getD i undef
        | 0, _ => rfl
        | 1, _ => rfl
        | 2, _ => rfl
        | i + 3, h => by omega
      have hX := row_range HF.out.s [cutV (V 0) (P 0) (Q 0), cutV (V 1) (P 1) (Q 1), cutV (V 2) (P 2) (Q 2)] rfl hv
      have hone : #[cutV (V 0) (P 0) (Q 0), cutV (V 1) (P 1) (Q 1), cutV (V 2) (P 2) (Q 2)].all (·.oneCell') = true := by
        have o1 : ∀ i, i < 3 → (cutV (V i) (P i) (Q i)).oneCell' = true := fun i hi => by
          obtain ⟨A, n, C, e, _⟩ := HV.out i hi
          rw [e]; rfl
        simp [o1 0 (by omega), o1 1 (by omega), o1 2 (by omega)]
      have HX := Lib.hid hX
      have HO := Lib.hid hone
      have HT := Lib.hid (row_there HF.out.r)
      have HR := Lib.hid (row_stored HF.out.r [cutV (V 0) (P 0) (Q 0), cutV (V 1) (P 1) (Q 1), cutV (V 2) (P 2) (Q 2)] rfl)
      have HB := Lib.hid (below_cells (B := w.heap.size) (O := w.heap.size + 1 + 1 + 1) (by omega) [cutV (V 0) (P 0) (Q 0), cutV (V 1) (P 1) (Q 1), cutV (V 2) (P 2) (Q 2)] 0 _ HF.out.b)
      clear hX hone hv HF HS HV
      generalize hU0 : cutV (V 0) (P 0) (Q 0) = u0 at *
      have HU0 := Lib.hid hU0
      clear hU0
      generalize hU1 : cutV (V 1) (P 1) (Q 1) = u1 at *
      have HU1 := Lib.hid hU1
      clear hU1
      generalize hU2 : cutV (V 2) (P 2) (Q 2) = u2 at *
      have HU2 := Lib.hid hU2
      clear hU2
      go_wp2_with (first
        | (refine wpList_load_mid rfl _ _ rfl w.heap.size 0 rfl [u0, u1, u2] _ HX.out Try.underlying59 rfl (by kernel_rfl) ?_)
        | (refine wpList_store_mid rfl _ _ _ rfl (w.heap.size + 1 + 1 + 1) 0 #[u0, u1, u2] rfl rfl HT.out (by kernel_rfl) HO.out ?_))
      exact bodyPost_ret (results_cell_row rfl _ _ (w.heap.size + 1 + 1 + 1) _ _ _ _ rfl HR.out Try.underlying59 rfl (by kernel_rfl)) rfl ⟨by rw [HU0.out, HU1.out, HU2.out], HB.out⟩
theorem SlAt.open' {w : World} {B : Nat} {v : Value} {xs : List ByteArray} (h : SlAt w B v xs) {p q : Nat} (hp : p ≤ q) (hq : q ≤ xs.length) : ∃ A n C, v = .slice A n C ∧ p ≤ q ∧ q ≤ n ∧ n ≤ C ∧ C ≤ 9223372036854775807 := by
  obtain ⟨A, n, C, rfl, hr⟩ := h
  exact ⟨A, n, C, rfl, hp, by rw [← rd_len hr]; exact hq, hr.hcap, hr.hmax⟩
theorem from_any (v0 v1 v2 : Value) (x0 x1 x2 : List ByteArray) (p0 p1 p2 q0 q1 q2 : Nat) (B : Nat) (w : World) (h0 : SlAt w B v0 x0) (h1 : SlAt w B v1 x1) (h2 : SlAt w B v2 x2)
    (l0 : p0 ≤ q0 ∧ q0 ≤ x0.length) (l1 : p1 ≤ q1 ∧ q1 ≤ x1.length) (l2 : p2 ≤ q2 ∧ q2 ≤ x2.length) :
    Calls Try.prog 32 #[.agg #[v0, v1, v2], .agg #[.int .i64 p0, .int .i64 p1, .int .i64 p2], .agg #[.int .i64 q0, .int .i64 q1, .int .i64 q2]] w
      fun e w' => e = .returned (.agg #[cutV v0 p0 q0, cutV v1 p1 q1, cutV v2 p2 q2]) ∧ Below w.heap.size w w' :=
  from_all (fun i => if i = 0 then v0 else if i = 1 then v1 else v2) (fun i => if i = 0 then p0 else if i = 1 then p1 else p2) (fun i => if i = 0 then q0 else if i = 1 then q1 else q2) w
    (fun i hi => by
      match i, hi with
      | 0, _ => exact h0.open' l0.1 l0.2
      | 1, _ => exact h1.open' l1.1 l1.2
      | 2, _ => exact h2.open' l2.1 l2.2)
end Go.Proofs.Ytlaneilmffdahaa.Mg
