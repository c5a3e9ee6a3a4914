/- The constants of SHA-256. -/
import Derived.Test.YtgmcdkkjemjneaaSmRound
import Derived.Deep.MidRow
namespace Go.Proofs.Ytgmcdkkjemjneaa.Sm
open Go.RowKit
set_option linter.unusedVariables false

def kc : List Int := [1116352408, 1899447441, 3049323471, 3921009573, 961987163, 1508970993, 2453635748, 2870763221, 3624381080, 310598401, 607225278, 1426881987, 1925078388, 2162078206, 2614888103, 3248222580, 3835390401, 4022224774, 264347078, 604807628, 770255983, 1249150122, 1555081692, 1996064986, 2554220882, 2821834349, 2952996808, 3210313671, 3336571891, 3584528711, 113926993, 338241895, 666307205, 773529912, 1294757372, 1396182291, 1695183700, 1986661051, 2177026350, 2456956037, 2730485921, 2820302411, 3259730800, 3345764771, 3516065817, 3600352804, 4094571909, 275423344, 430227734, 506948616, 659060556, 883997877, 958139571, 1322822218, 1537002063, 1747873779, 1955562222, 2024104815, 2227730452, 2361852424, 2428436474, 2756734187, 3204031479, 3329325298]
def uv (l : List Int) : List Value := l.map (Value.int .u32)
theorem uv_one (l : List Int) : ∀ u ∈ uv l, u.oneCell' = true := by
  intro u hu
  obtain ⟨x, _, rfl⟩ := List.mem_map.1 hu
  rfl
def kf (t : Nat) : Int := kc.getD t 0

theorem al_lt (w : World) (o : Obj) : w.heap.size < (w.alloc o).heap.size := by show w.heap.size < (w.heap.push o).size; simp
theorem al_le (w : World) (o : Obj) : w.heap.size ≤ (w.alloc o).heap.size := Nat.le_of_lt (al_lt w o)
theorem frz_new (w : World) (z : Array Value) (t : TypeId) (j : Nat) : (w.alloc (.cells z t)).frozen? ⟨w.heap.size, j, none⟩ = false := by
  have h : (w.alloc (.cells z t)).heap[w.heap.size]? = some (.cells z t (0, 0)) := by show (w.heap.push _)[w.heap.size]? = _; simp
  simp only [World.frozen?, h]
  simp
theorem there_new (w : World) (z : Array Value) (t : TypeId) (n : Nat) (h : n ≤ z.size) : (w.alloc (.cells z t)).there w.heap.size 0 n := by
  intro j hj
  constructor
  · rw [Nat.zero_add, World.cell?_alloc_new]
    simp; omega
  · rw [Nat.zero_add]
    exact frz_new w z t j
theorem below_setCells {B : Nat} {a : World} (b : Nat) (hb : B ≤ b) : ∀ (vs : List Value) (o : Nat) (w : World), Below B a w → Below B a (w.setCells b o vs)
  | [], _, _, h => h
  | v :: vs, o, w, h => below_setCells b hb vs (o + 1) _ (h.setCell (p := ⟨b, o, none⟩) hb v)
/-- a row that is stored whole -/
theorem row_setCells (b : Nat) (t : TypeId) (n : Nat) : ∀ (vs : List Value) (o : Nat) (w : World) (f : Nat → Value), w.rowIs b t n f → (w.setCells b o vs).rowIs b t n (fun j => if o ≤ j ∧ j < o + vs.length then vs.getD (j - o) undef else f j)
  | [], o, w, f, h => h.congr fun j hj => by rw [if_neg (by simp)]
  | v :: vs, o, w, f, h => by
    refine (row_setCells b t n vs (o + 1) _ _ (h.set o v)).congr fun j hj => ?_
    by_cases e : j = o
    · subst e
      rw [if_neg (by omega), if_pos rfl, if_pos (by simp)]
      simp
    · by_cases e2 : o + 1 ≤ j ∧ j < o + 1 + vs.length
      · rw [if_pos e2, if_pos (by simp; omega)]
        have : j - o = (j - (o + 1)) + 1 := by omega
        rw [this]
        simp
      · rw [if_neg e2, if_neg e, if_neg (by simp; omega)]

theorem row_new (w : World) (z : Array Value) (t : TypeId) : (w.alloc (.cells z t)).rowIs w.heap.size t z.size (fun i => z.getD i undef) :=
  ⟨z, by show (w.heap.push _)[w.heap.size]? = _; simp, rfl, fun i hi => by simp [hi]⟩
/-- a row's block, its cells told by a list -/
theorem row_block {w : World} {b : Nat} {t : TypeId} {n : Nat} {f : Nat → Value} (h : w.rowIs b t n f) (l : List Value) (hl : l.length = n) (hf : ∀ i, i < n → f i = l.getD i undef) : w.heap[b]? = some (.cells l.toArray t (0, 0)) := by
  obtain ⟨c, hb, hn, hc⟩ := h
  have : c = l.toArray := by
    apply Array.ext_getElem?
    intro i
    by_cases hi : i < n
    · rw [hc i hi, hf i hi]
      simp [hl, hi]
    · rw [Array.getElem?_eq_none (by omega), Array.getElem?_eq_none (by simp; omega)]
  rw [hb, this]

theorem row_stored {w : World} {b : Nat} {t : TypeId} {n : Nat} {f : Nat → Value} (h : w.rowIs b t n f) (vs : List Value) (hl : vs.length = n) : (w.setCells b 0 vs).heap[b]? = some (.cells vs.toArray t (0, 0)) :=
  row_block (row_setCells b t n vs 0 w f h) vs hl (fun i hi => by rw [if_pos (by omega), Nat.sub_zero])

set_option maxRecDepth 100000 in
set_option maxHeartbeats 4000000 in
theorem consts_any (w : World) : Calls Try.prog 32 #[] w fun e w' => e = .returned (.agg (uv kc).toArray) ∧ Below w.heap.size w w' := by
  have H1 := Lib.hid (show (uv kc).toArray.all (·.oneCell') = true from all_oneCell_toArray (uv_one kc))
  have HS : Hid ((Try.prog.info? 48).map (·.size) = some (uv kc).toArray.size) := Lib.hid (by rw [List.size_toArray, uv, List.length_map]; kernel_rfl)
  go_enter Try.func32, Try.ntmps32
  go_wp2_with (refine wpList_store_mid rfl _ _ _ rfl w.heap.size 0 (uv kc).toArray rfl rfl (there_new w _ _ _ (Nat.le_refl 64)) HS.out H1.out ?_; generalize hX : World.setCells _ _ _ _ = wX; have HX := Lib.hid hX; clear hX)
  have hlen : (uv kc).length = 64 := by rw [uv, List.length_map]; rfl
  have hb : wX.heap[w.heap.size]? = some (.cells (uv kc).toArray 48 (0, 0)) := by
    rw [← HX.out]
    refine row_stored (row_new w _ _) (uv kc) ?_
    exact hlen
  have HB : Below w.heap.size w wX := by
    rw [← HX.out]
    exact below_setCells _ (Nat.le_refl _) _ _ _ ((Below.refl _ _).alloc (Nat.le_refl _) _)
  refine bodyPost_ret (results_cell_row rfl _ _ w.heap.size _ _ _ _ rfl hb Try.underlying48 rfl HS.out) rfl ?_
  exact ⟨rfl, HB⟩
end Go.Proofs.Ytgmcdkkjemjneaa.Sm
