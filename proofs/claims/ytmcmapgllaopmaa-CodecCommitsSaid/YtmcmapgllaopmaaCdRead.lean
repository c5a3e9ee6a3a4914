/- The reader: what stands in its block. -/
import Derived.Test.YtmcmapgllaopmaaCdRd
namespace Go.Proofs.Ytmcmapgllaopmaa.Cd
open Go.RowKit
set_option linter.unusedVariables false

/-- the reader's cells: what it goes through, where it is, what failed; E: the cells behind -/
def rG (A : Option Addr) (L C at' : Nat) (f : Int) (E : Nat → Value) : Nat → Value
  | 0 => .slice A L C
  | 1 => .int .i64 (at' : Int)
  | 2 => .int .i64 f
  | j + 3 => E (j + 3)

/-- a reader at 'at', over the bytes l -/
structure Rdr (w : World) (R N : Nat) (t : TypeId) (A : Option Addr) (L C : Nat) (l : List Int) (at' : Nat) (f : Int) (E : Nat → Value) : Prop where
  row : w.rowIs R t N (rG A L C at' f E)
  hN : 3 ≤ N
  rd : RdB w A L C l
  apart : ∀ x, A = some x → 0 < L → x.block ≠ R
  le : at' ≤ L

theorem cell_grown {w w' : World} {R : Nat} (hg : w.grownBy w' (some R)) {p : Addr} (hp : p.block < w.heap.size) (hne : p.block ≠ R) : w'.cell? p = w.cell? p := by
  have h := hg.block p.block hp (fun e => hne (Option.some.inj e))
  unfold World.cell?
  rw [h]
theorem RdB.grown {w w' : World} {A : Option Addr} {n C : Nat} {l : List Int} {R : Nat} (h : RdB w A n C l) (hg : w.grownBy w' (some R)) (hne : ∀ x, A = some x → 0 < n → x.block ≠ R) : RdB w' A n C l :=
  ⟨h.len, h.cap, h.max, h.big, h.none, h.byte, fun x hx => by
    obtain ⟨h1, h2⟩ := h.cell x hx
    refine ⟨fun h0 => Nat.lt_of_lt_of_le (h1 h0) hg.size, fun i hi => ?_⟩
    have hb : (x.add i).block = x.block := by unfold Addr.add; split <;> rfl
    rw [cell_grown hg (by rw [hb]; exact h1 (by omega)) (by rw [hb]; exact hne x hx (by omega))]
    exact h2 i hi⟩
theorem grown_set (w : World) (R i : Nat) (v : Value) : w.grownBy (w.setCell ⟨R, i, none⟩ v) (some R) :=
  ⟨rfl, rfl, rfl, by simp [World.setCell], fun k hk hne => Below.heap_setCell w ⟨R, i, none⟩ v k (fun e => hne (by rw [e]))⟩
theorem grown_trans {a b c : World} {H : Nat} (h : a.grownBy b (some H)) (k : b.grownBy c (some H)) : a.grownBy c (some H) :=
  ⟨k.os.trans h.os, k.tape.trans h.tape, k.output.trans h.output, Nat.le_trans h.size k.size, fun i hi hne => (k.block i (Nat.lt_of_lt_of_le hi h.size) hne).trans (h.block i hi hne)⟩
theorem Rdr.setF {w : World} {R N : Nat} {t : TypeId} {A : Option Addr} {L C : Nat} {l : List Int} {at' : Nat} {f : Int} {E : Nat → Value} (h : Rdr w R N t A L C l at' f E) (g : Int) : Rdr (w.setCell ⟨R, 2, none⟩ (.int .i64 g)) R N t A L C l at' g E :=
  ⟨(h.row.set 2 _).congr (fun j _ => by
    match j with
    | 0 => rfl
    | 1 => rfl
    | 2 => rfl
    | j + 3 => rfl), h.hN, h.rd.grown (grown_set w R 2 _) h.apart, h.apart, h.le⟩
theorem Rdr.setAt {w : World} {R N : Nat} {t : TypeId} {A : Option Addr} {L C : Nat} {l : List Int} {at' : Nat} {f : Int} {E : Nat → Value} (h : Rdr w R N t A L C l at' f E) (a : Nat) (ha : a ≤ L) : Rdr (w.setCell ⟨R, 1, none⟩ (.int .i64 (a : Int))) R N t A L C l a f E :=
  ⟨(h.row.set 1 _).congr (fun j _ => by
    match j with
    | 0 => rfl
    | 1 => rfl
    | 2 => rfl
    | j + 3 => rfl), h.hN, h.rd.grown (grown_set w R 1 _) h.apart, h.apart, ha⟩
theorem Rdr.drewN {w : World} {R N : Nat} {t : TypeId} {A : Option Addr} {L C : Nat} {l : List Int} {at' : Nat} {f : Int} {E : Nat → Value} (h : Rdr w R N t A L C l at' f E) (n : Nat) : Rdr (w.drewN n) R N t A L C l at' f E :=
  ⟨h.row, h.hN, ⟨h.rd.len, h.rd.cap, h.rd.max, h.rd.big, h.rd.none, h.rd.byte, h.rd.cell⟩, h.apart, h.le⟩
theorem Rdr.below {w w' : World} {R N : Nat} {t : TypeId} {A : Option Addr} {L C : Nat} {l : List Int} {at' : Nat} {f : Int} {E : Nat → Value} (h : Rdr w R N t A L C l at' f E) (hb : Below w.heap.size w w') : Rdr w' R N t A L C l at' f E :=
  ⟨h.row.of_block (hb.block R h.row.lt), h.hN, h.rd.below hb, h.apart, h.le⟩
theorem Rdr.c0 {w : World} {R N : Nat} {t : TypeId} {A : Option Addr} {L C : Nat} {l : List Int} {at' : Nat} {f : Int} {E : Nat → Value} (h : Rdr w R N t A L C l at' f E) : w.cell? ⟨R, 0, none⟩ = some (.slice A L C) := h.row.cell (by have := h.hN; omega)
theorem Rdr.c1 {w : World} {R N : Nat} {t : TypeId} {A : Option Addr} {L C : Nat} {l : List Int} {at' : Nat} {f : Int} {E : Nat → Value} (h : Rdr w R N t A L C l at' f E) : w.cell? ⟨R, 1, none⟩ = some (.int .i64 (at' : Int)) := h.row.cell (by have := h.hN; omega)
theorem Rdr.c2 {w : World} {R N : Nat} {t : TypeId} {A : Option Addr} {L C : Nat} {l : List Int} {at' : Nat} {f : Int} {E : Nat → Value} (h : Rdr w R N t A L C l at' f E) : w.cell? ⟨R, 2, none⟩ = some (.int .i64 f) := h.row.cell (by have := h.hN; omega)

/-- what failed first -/
def fl (f e : Int) : Int := if f = 0 then e else f

theorem fail_any (R N : Nat) (t : TypeId) (A : Option Addr) (L C : Nat) (l : List Int) (at' : Nat) (f e : Int) (E : Nat → Value) (w : World) (h : Rdr w R N t A L C l at' f E) :
    Calls Try.prog 85 #[.pointer (some ⟨R, 0, none⟩), .int .i64 e] w fun e' w' => e' = .returned (.tuple #[]) ∧ Rdr w' R N t A L C l at' (fl f e) E ∧ w.grownBy w' (some R) := by
  have hc := h.c2
  have hf := h.row.frozen 2
  have HS := Lib.hid (h.setF e)
  have H := Lib.hid h
  have HG := Lib.hid (grown_set w R 2 (.int .i64 e))
  have HG0 := Lib.hid (World.grownBy.refl w (some R))
  clear h
  by_cases h0 : f = 0
  · have e1 : fl f e = e := by unfold fl; rw [if_pos h0]
    rw [e1]
    have hd : (f == 0) = true := by simp [h0]
    clear e1 h0
    go_enter Try.func85, Try.ntmps85
    go_wp2
    go_end0
    exact ⟨rfl, HS.out, HG.out⟩
  · have e1 : fl f e = f := by unfold fl; rw [if_neg h0]
    rw [e1]
    have hd : (f == 0) = false := by simp [h0]
    clear e1 h0
    go_enter Try.func85, Try.ntmps85
    go_wp2
    go_end0
    exact ⟨rfl, H.out, HG0.out⟩

theorem ok_any (R N : Nat) (t : TypeId) (A : Option Addr) (L C : Nat) (l : List Int) (at' : Nat) (f : Int) (E : Nat → Value) (w : World) (h : Rdr w R N t A L C l at' f E) :
    Calls Try.prog 46 #[.pointer (some ⟨R, 0, none⟩)] w fun e' w' => e' = .returned (.bool (f == 0)) ∧ w' = w := by
  have hc := h.c2
  clear h
  go_enter Try.func46, Try.ntmps46
  go_wp2
  go_ret
  exact ⟨rfl, rfl⟩
end Go.Proofs.Ytmcmapgllaopmaa.Cd
