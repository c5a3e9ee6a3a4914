/- Words for memory: what is kept of blocks by their types; rows that are read; a script behind a pointer. -/
import Derived.Test.YtlaneilmffdahaaChecked
import Derived.WalkKit
import Derived.WalkSpells
import Derived.WalkLawsBesides
import Derived.Outline
import Derived.LoopTactic
import Derived.Lib.Hide
import Derived.Deep.Light
import Derived.Deep.QuietTactic
import Derived.BigQuiet
import Derived.OwnWalk
import Derived.OneCell
import Derived.Deep.OwnRows
import Derived.Deep.Draws
import Derived.Test.YtlaneilmffdahaaLnMath
namespace Go.Proofs.Ytlaneilmffdahaa.Ln
open Go.RowKit
set_option linter.unusedVariables false
theorem ret_bool {a b : Bool} (h : a = b) : Ending.returned (.bool a) = .returned (.bool b) := by rw [h]
/-- blocks of cells whose type is none of ts are as they were -/
structure Kp (ts : List TypeId) (w w' : World) : Prop where
  size : w.heap.size ≤ w'.heap.size
  block : ∀ (g : Nat) (cs : Array Value) (t : TypeId) (fr : Nat × Nat), w.heap[g]? = some (.cells cs t fr) → t ∉ ts → w'.heap[g]? = some (.cells cs t fr)
theorem Kp.refl (ts : List TypeId) (w : World) : Kp ts w w := ⟨Nat.le_refl _, fun _ _ _ _ h _ => h⟩
theorem Kp.trans {ts : List TypeId} {a b c : World} (h : Kp ts a b) (k : Kp ts b c) : Kp ts a c :=
  ⟨Nat.le_trans h.size k.size, fun g cs t fr hg ht => k.block g cs t fr (h.block g cs t fr hg ht) ht⟩
theorem Kp.mono {ts us : List TypeId} {a b : World} (h : Kp ts a b) (hs : ∀ t, t ∈ ts → t ∈ us) : Kp us a b :=
  ⟨h.size, fun g cs t fr hg ht => h.block g cs t fr hg (fun hm => ht (hs t hm))⟩
theorem Kp.drew {ts : List TypeId} {a b : World} (h : Kp ts a b) : Kp ts a b.drew := ⟨h.size, h.block⟩
theorem Kp.drewN {ts : List TypeId} {a b : World} (h : Kp ts a b) (n : Nat) : Kp ts a (b.drewN n) := ⟨h.size, h.block⟩
theorem Kp.alloc {ts : List TypeId} {a b : World} (h : Kp ts a b) (o : Obj) : Kp ts a (b.alloc o) :=
  h.trans ⟨by simp, fun g cs t fr hg _ => (Below.heap_alloc b o g (lt_of_block hg)).trans hg⟩
theorem Kp.set_one {ts : List TypeId} {a b : World} (h : Kp ts a b) {g i : Nat} {cs : Array Value} {t : TypeId} {fr : Nat × Nat} (hg : b.heap[g]? = some (.cells cs t fr)) (ht : t ∈ ts) (u : Value) : Kp ts a (b.setCell ⟨g, i, none⟩ u) :=
  h.trans ⟨by simp [World.setCell], fun g' cs' t' fr' hg' ht' => by
    rw [Below.heap_setCell b ⟨g, i, none⟩ u g' ?_]
    · exact hg'
    · rintro rfl
      rw [hg] at hg'
      injection hg' with e
      injection e with e1 e2 e3
      exact ht' (e2 ▸ ht)⟩
theorem Kp.grown {ts : List TypeId} {a b c : World} (h : Kp ts a b) {v : Value} {B : Nat} {e : TypeId} {sz n : Nat} {xs : List Value} (ho : b.ownsRow B e sz v n xs) (hg : b.grownBy c v.ownBlock) (ht : e ∈ ts) : Kp ts a c :=
  h.trans ⟨hg.size, fun g cs t fr hh hn => (hg.block g (lt_of_block hh) (by
    intro e1
    rcases ho.2 with ⟨rfl, _⟩ | ⟨g', cap, cur, rfl, _, hb, _⟩
    · simp [Value.ownBlock] at e1
    · simp [Value.ownBlock] at e1
      subst e1
      rw [hb] at hh
      injection hh with e2
      injection e2 with _ e3 _
      exact hn (e3 ▸ ht))).trans hh⟩
theorem Kp.own {ts : List TypeId} {w w' : World} (k : Kp ts w w') {B : Nat} {e : TypeId} {sz n : Nat} {v : Value} {xs : List Value} (h : w.ownsRow B e sz v n xs) (ht : e ∉ ts) : w'.ownsRow B e sz v n xs := by
  refine ⟨h.1, ?_⟩
  rcases h.2 with hn | ⟨g, cap, cur, hv, hb, hh, rest⟩
  · exact .inl hn
  · exact .inr ⟨g, cap, cur, hv, hb, k.block _ _ _ _ hh ht, rest⟩
theorem Kp.rowIs {ts : List TypeId} {w w' : World} (k : Kp ts w w') {b : Nat} {t : TypeId} {n : Nat} {f : Nat → Value} (h : w.rowIs b t n f) (ht : t ∉ ts) : w'.rowIs b t n f := by
  obtain ⟨c, hb, hn, hc⟩ := h
  exact ⟨c, k.block _ _ _ _ hb ht, hn, hc⟩
theorem kp_of_below {ts : List TypeId} {w w' : World} (h : Below w.heap.size w w') : Kp ts w w' := ⟨h.size, fun g cs t fr hg _ => (h.block g (lt_of_block hg)).trans hg⟩
theorem below_drewN {B : Nat} {a w : World} (h : Below B a w) (n : Nat) : Below B a (w.drewN n) := ⟨h.os, h.tape, h.output, h.size, h.block⟩
theorem below_grown {B : Nat} {w w' : World} {v : Value} {e : TypeId} {sz n : Nat} {xs : List Value} (hB : B ≤ w.heap.size) (hown : w.ownsRow B e sz v n xs) (hg : w.grownBy w' v.ownBlock) : Below B w w' :=
  (Below.refl B w).grown hg hB (fun k hk => by
    rcases hown.2 with ⟨h, _⟩ | ⟨g', cap', cur, h, hge, _⟩
    · rw [h] at hk; simp [Value.ownBlock] at hk
    · rw [h] at hk; simp [Value.ownBlock] at hk; omega)
/-- a slice that reads as the list xs, one cell each; what is read lies below block B -/
structure Rd (w : World) (B : Nat) (a : Option Addr) (n cap : Nat) (xs : List Value) : Prop where
  hlen : xs.length = n
  hcap : n ≤ cap
  hmax : cap ≤ 9223372036854775807
  hbig : n ≤ 140737488355328
  hnone : a = none → cap = 0
  hcell : ∀ i, i < n → ∃ b off v, a = some ⟨b, off, none⟩ ∧ b < B ∧ xs[i]? = some v ∧ w.cell? ⟨b, off + i, none⟩ = some v
theorem Rd.drewN {w : World} {B : Nat} {a : Option Addr} {n cap : Nat} {xs : List Value} (h : Rd w B a n cap xs) (k : Nat) : Rd (w.drewN k) B a n cap xs := ⟨h.hlen, h.hcap, h.hmax, h.hbig, h.hnone, h.hcell⟩
theorem Rd.below {w w' : World} {B : Nat} {a : Option Addr} {n cap : Nat} {xs : List Value} (h : Rd w B a n cap xs) (hb : Below B w w') : Rd w' B a n cap xs :=
  ⟨h.hlen, h.hcap, h.hmax, h.hbig, h.hnone, fun i hi => by
    obtain ⟨b, off, v, ha, hlt, hx, hc⟩ := h.hcell i hi
    exact ⟨b, off, v, ha, hlt, hx, (hb.cell (p := ⟨b, off + i, none⟩) hlt).trans hc⟩⟩
theorem Rd.more {w : World} {B B' : Nat} {a : Option Addr} {n cap : Nat} {xs : List Value} (h : Rd w B a n cap xs) (hB : B ≤ B') : Rd w B' a n cap xs :=
  ⟨h.hlen, h.hcap, h.hmax, h.hbig, h.hnone, fun i hi => by
    obtain ⟨b, off, v, ha, hlt, hx, hc⟩ := h.hcell i hi
    exact ⟨b, off, v, ha, by omega, hx, hc⟩⟩
theorem Rd.cut {w : World} {B : Nat} {a : Option Addr} {n cap : Nat} {xs : List Value} (h : Rd w B a n cap xs) (k : Nat) (hk : k ≤ n) :
    Rd w B (if cap = k then a else Option.map (fun x => x.add k) a) (n - k) (cap - k) (xs.drop k) := by
  have h1 := h.hcap
  have h2 := h.hmax
  have h3 := h.hbig
  refine ⟨by rw [List.length_drop, h.hlen], by omega, by omega, by omega, ?_, ?_⟩
  · intro hn
    split at hn
    · omega
    · have := h.hnone (by simpa using hn)
      omega
  · intro i hi
    obtain ⟨b, off, v, ha, hlt, hx, hc⟩ := h.hcell (k + i) (by omega)
    rw [if_neg (by omega)]
    refine ⟨b, off + k, v, ?_, hlt, by rw [List.getElem?_drop]; exact hx, by rw [show off + k + i = off + (k + i) from by omega]; exact hc⟩
    subst ha
    simp only [Option.map_some, Option.some.injEq, Addr.add]
    split
    · simp
    · rfl
theorem Rd.take {w : World} {B : Nat} {a : Option Addr} {n cap : Nat} {xs : List Value} (h : Rd w B a n cap xs) (k : Nat) (hk : k ≤ n) : Rd w B a k cap (xs.take k) := by
  have h1 := h.hcap
  refine ⟨by rw [List.length_take, h.hlen]; omega, by omega, h.hmax, by have := h.hbig; omega, h.hnone, ?_⟩
  intro i hi
  obtain ⟨b, off, v, ha, hlt, hx, hc⟩ := h.hcell i (by omega)
  exact ⟨b, off, v, ha, hlt, by rw [List.getElem?_take, if_pos hi]; exact hx, hc⟩
theorem Rd.of_own {w : World} {B e : Nat} {a : Option Addr} {n m cap : Nat} {xs : List Value} (h : w.ownsRow B e 1 (.slice a n cap) m xs) (hc : m ≤ 140737488355328) : Rd w w.heap.size a n cap xs ∧ n = m := by
  have h1 := h.1
  rcases h.2 with ⟨hv, h0⟩ | ⟨g, cap', cur, hv, hg, hh, hc1, hc2, hc3, ht⟩
  · simp only [Value.slice.injEq] at hv
    obtain ⟨rfl, rfl, rfl⟩ := hv
    exact ⟨⟨by rw [h1, h0], Nat.le_refl _, by omega, by omega, fun _ => rfl, fun i hi => absurd hi (by omega)⟩, h0.symm⟩
  · simp only [Value.slice.injEq] at hv
    obtain ⟨rfl, rfl, rfl⟩ := hv
    refine ⟨⟨by omega, hc1, by unfold maxLen at hc2; omega, hc, (fun hn => by cases hn), ?_⟩, rfl⟩
    intro i hi
    have hi' : i < xs.length := by omega
    refine ⟨g, 0, xs[i], rfl, lt_of_block hh, List.getElem?_eq_getElem hi', ?_⟩
    rw [Nat.zero_add, h.cellAt i (by omega), List.getElem?_eq_getElem hi']
theorem Rd.alloc {w : World} {B : Nat} {a : Option Addr} {n cap : Nat} {xs : List Value} (h : Rd w B a n cap xs) (hB : B ≤ w.heap.size) (o : Obj) : Rd (w.alloc o) B a n cap xs :=
  h.below ((Below.refl B w).alloc hB o)
theorem Rd.none_ (w : World) (B : Nat) : Rd w B none 0 0 [] := ⟨rfl, Nat.le_refl _, by omega, by omega, fun _ => rfl, fun i hi => absurd hi (by omega)⟩
/-- strings, ints as values -/
def sv (l : List ByteArray) : List Value := l.map Value.string
def iv (l : List Int) : List Value := l.map (Value.int .i64)
def nv (l : List Nat) : List Value := l.map fun (n : Nat) => Value.int .i64 (n : Int)
theorem Rd.int {w : World} {B : Nat} {a : Option Addr} {n cap : Nat} {z : List Int} (h : Rd w B a n cap (iv z)) (i : Nat) (hi : i < n) : ∃ b off, a = some ⟨b, off, none⟩ ∧ b < B ∧ w.cell? ⟨b, off + i, none⟩ = some (.int .i64 (z.getD i 0)) := by
  obtain ⟨b, off, v, ha, hb, hx, hc⟩ := h.hcell i hi
  refine ⟨b, off, ha, hb, ?_⟩
  rw [hc]
  have : i < z.length := by have := h.hlen; simp [iv] at this; omega
  simp [iv, this] at hx
  simp [this, hx]
theorem Rd.str {w : World} {B : Nat} {a : Option Addr} {n cap : Nat} {z : List ByteArray} (h : Rd w B a n cap (sv z)) (i : Nat) (hi : i < n) : ∃ b off, a = some ⟨b, off, none⟩ ∧ b < B ∧ w.cell? ⟨b, off + i, none⟩ = some (.string (z.getD i ByteArray.empty)) := by
  obtain ⟨b, off, v, ha, hb, hx, hc⟩ := h.hcell i hi
  refine ⟨b, off, ha, hb, ?_⟩
  rw [hc]
  have : i < z.length := by have := h.hlen; simp [sv] at this; omega
  simp [sv, this] at hx
  simp [this, hx]
/-- edits as cells -/
def ed (l : List (Nat × Nat)) : List Value := l.flatMap fun x => [.int .i64 (x.1 : Int), .int .i64 (x.2 : Int)]
theorem ed_length (l : List (Nat × Nat)) : (ed l).length = l.length * 2 := by
  unfold ed
  induction l with
  | nil => rfl
  | cons x l ih => simp only [List.flatMap_cons, List.length_append, ih, List.length_cons, List.length_nil]; omega
theorem ed_append (l m : List (Nat × Nat)) : ed (l ++ m) = ed l ++ ed m := by simp [ed]
theorem ed_get (l : List (Nat × Nat)) (i : Nat) (h : i < l.length) : (ed l)[i * 2]? = some (.int .i64 (l[i].1 : Int)) ∧ (ed l)[i * 2 + 1]? = some (.int .i64 (l[i].2 : Int)) := by
  induction l generalizing i with
  | nil => simp at h
  | cons x l ih =>
    have e : ed (x :: l) = .int .i64 (x.1 : Int) :: .int .i64 (x.2 : Int) :: ed l := rfl
    cases i with
    | zero => simp [e]
    | succ i =>
      have := ih i (by simpa using h)
      rw [e, show (i + 1) * 2 = i * 2 + 1 + 1 from by omega]
      simpa using this
/-- the counts together -/
def tot (l : List (Nat × Nat)) : Nat := (l.map (·.2)).sum
theorem tot_append (l m : List (Nat × Nat)) : tot (l ++ m) = tot l + tot m := by simp [tot]
theorem add_tot (l : List (Nat × Nat)) (op n : Nat) : tot (add l op n) = tot l + n := by
  by_cases hn : n = 0
  · subst hn; rw [add_zero]; rfl
  rcases List.eq_nil_or_concat l with rfl | ⟨l', ⟨o, k⟩, rfl⟩
  · simp [add, hn, tot]
  · by_cases e : o = op
    · simp [add, hn, e, tot]; omega
    · simp [add, hn, e, tot]; omega
theorem add_same (l : List (Nat × Nat)) (op n k : Nat) (hn : 0 < n) : add (l ++ [(op, k)]) op n = l ++ [(op, k + n)] := by simp [add, show ¬ n = 0 by omega]
theorem add_other (l : List (Nat × Nat)) (o op n k : Nat) (hn : 0 < n) (h : o ≠ op) : add (l ++ [(o, k)]) op n = l ++ [(o, k)] ++ [(op, n)] := by simp [add, show ¬ n = 0 by omega, h]
theorem add_nil (op n : Nat) (hn : 0 < n) : add [] op n = [(op, n)] := by simp [add, show ¬ n = 0 by omega]
/-- block S holds a slice that is a script of the call's own -/
def ScrV (w : World) (B S : Nat) (v : Value) (l : List (Nat × Nat)) : Prop :=
  B ≤ S ∧ w.heap[S]? = some (.cells #[v] 89 (0, 0)) ∧ w.ownsRow B 82 2 v l.length (ed l) ∧ l.length ≤ tot l
def Scr (w : World) (B S : Nat) (l : List (Nat × Nat)) : Prop := ∃ v, ScrV w B S v l
theorem Scr.kp {ts : List TypeId} {w w' : World} {B S : Nat} {l : List (Nat × Nat)} (h : Scr w B S l) (k : Kp ts w w') (h1 : 89 ∉ ts) (h2 : 82 ∉ ts) : Scr w' B S l := by
  obtain ⟨v, hB, hS, ho, ht⟩ := h
  exact ⟨v, hB, k.block _ _ _ _ hS h1, k.own ho h2, ht⟩
theorem Scr.drewN {w : World} {B S : Nat} {l : List (Nat × Nat)} (h : Scr w B S l) (n : Nat) : Scr (w.drewN n) B S l := h
theorem Scr.lt {w : World} {B S : Nat} {l : List (Nat × Nat)} (h : Scr w B S l) : S < w.heap.size := by
  obtain ⟨v, hB, hS, ho, ht⟩ := h
  exact lt_of_block hS
end Go.Proofs.Ytlaneilmffdahaa.Ln
