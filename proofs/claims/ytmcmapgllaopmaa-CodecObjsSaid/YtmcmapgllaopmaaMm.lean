/- Texts of one's own, merged: SmCopy, SmTake, SmPut, SmFin, SmSum, SmOf, SmRNum, SmRApp. -/
import Derived.Test.YtmcmapgllaopmaaMl
import Derived.Laws.IdiomCopy
import Derived.Deep.DeepCutAuto
import Derived.Deep.CutBlock
import Derived.Deep.RegionHeld3

section
/- copy into the middle of a block; the first state. -/
namespace Go.Proofs.Ytmcmapgllaopmaa.Sm
open Go.RowKit
set_option linter.unusedVariables false

theorem wp_copy_mid {w : World} {o : Oper} {a : Act} {K : Act → World → Prop} {Q : Exit → Act → World → Prop} (d s : Operand)
    (ho : o.op = .call { callee := .builtin .copy, args := #[d, s], argTypes := #[23, 23] })
    (dp sp : Option Addr) (dLen dCap sLen sCap : Nat) (hd : a.eval d = .slice dp dLen dCap) (hs : a.eval s = .slice sp sLen sCap)
    (g off : Nat) (cs : List Value) (hn : cs.length = Nat.min sLen dLen)
    (hpos : 0 < cs.length → dp = some ⟨g, off, none⟩ ∧ ∃ ad, sp = some ad ∧ ∀ j v, cs[j]? = some v → w.cell? (ad.add j) = some v)
    (hc : ∀ j, j < cs.length → (w.cell? ⟨g, off + j, none⟩).isSome = true) (hf : ∀ j, j < cs.length → w.frozen? ⟨g, off + j, none⟩ = false) (h1 : ∀ v ∈ cs, v.oneCell' = true)
    (h : K (a.put o.dst (goInt cs.length)) (w.setCells g off cs)) : o.wp Try.prog a w K Q := by
  have hz : (Try.prog.info? 5).map (·.size) = some 1 := by kernel_rfl
  by_cases h0 : cs.length = 0
  · obtain rfl : cs = [] := List.eq_nil_of_length_eq_zero h0
    have hrun := run_copy_none (P := Try.prog) w 23 23 o.type 5 dp sp dLen dCap sLen sCap Try.underlying23 hz (by simpa using hn.symm)
    unfold Oper.wp
    simp [execOp, ho, resolve, invoke, builtin, hd, hs, hrun, Result.andThen]
    exact h
  · obtain ⟨rfl, ad, rfl, hsrc⟩ := hpos (by omega)
    have hrun := run_copy_cells (P := Try.prog) w 23 23 o.type 5 g off dLen dCap ad sLen sCap cs Try.underlying23 hz hn hsrc hc hf h1
    unfold Oper.wp
    simp [execOp, ho, resolve, invoke, builtin, hd, hs, hrun, Result.andThen]
    exact h

theorem wpList_copy_mid {w : World} {ops : Array Oper} {rest : List Oper} {o : Oper} {a : Act} {Q : Exit → Act → World → Prop} (hgd : o.guard = none) (d s : Operand)
    (ho : o.op = .call { callee := .builtin .copy, args := #[d, s], argTypes := #[23, 23] })
    (dp sp : Option Addr) (dLen dCap sLen sCap : Nat) (hd : a.eval d = .slice dp dLen dCap) (hs : a.eval s = .slice sp sLen sCap)
    (g off : Nat) (cs : List Value) (hn : cs.length = Nat.min sLen dLen)
    (hpos : 0 < cs.length → dp = some ⟨g, off, none⟩ ∧ ∃ ad, sp = some ad ∧ ∀ j v, cs[j]? = some v → w.cell? (ad.add j) = some v)
    (hc : ∀ j, j < cs.length → (w.cell? ⟨g, off + j, none⟩).isSome = true) (hf : ∀ j, j < cs.length → w.frozen? ⟨g, off + j, none⟩ = false) (h1 : ∀ v ∈ cs, v.oneCell' = true)
    (h : wpList Try.prog ops Q rest (a.put o.dst (goInt cs.length)) (w.setCells g off cs)) : wpList Try.prog ops Q (o :: rest) a w :=
  wpList_plain hgd fun _ hK => wp_copy_mid d s ho dp sp dLen dCap sLen sCap hd hs g off cs hn hpos hc hf h1 (hK _ _ h)

theorem step_copy_mid {w : World} {ops : Array Oper} {o : Oper} {a : Act} {K : Act → World → Prop} {Q : Exit → Act → World → Prop} {E : Prop} (hgd : o.guard = none) (d s : Operand)
    (ho : o.op = .call { callee := .builtin .copy, args := #[d, s], argTypes := #[23, 23] })
    (dp sp : Option Addr) (dLen dCap sLen sCap : Nat) (hd : a.eval d = .slice dp dLen dCap) (hs : a.eval s = .slice sp sLen sCap)
    (g off : Nat) (cs : List Value) (hn : cs.length = Nat.min sLen dLen)
    (hpos : 0 < cs.length → dp = some ⟨g, off, none⟩ ∧ ∃ ad, sp = some ad ∧ ∀ j v, cs[j]? = some v → w.cell? (ad.add j) = some v)
    (hc : ∀ j, j < cs.length → (w.cell? ⟨g, off + j, none⟩).isSome = true) (hf : ∀ j, j < cs.length → w.frozen? ⟨g, off + j, none⟩ = false) (h1 : ∀ v ∈ cs, v.oneCell' = true)
    (h : K (a.put o.dst (goInt cs.length)) (w.setCells g off cs)) : if Region.wanted o (yielded ops a.tmps) = true then Oper.wp Try.prog o a w K Q else E := by
  have hw : Region.wanted o (yielded ops a.tmps) = true := by simp [Region.wanted, hgd]
  rw [if_pos hw]
  exact wp_copy_mid d s ho dp sp dLen dCap sLen sCap hd hs g off cs hn hpos hc hf h1 h

/-- the first state's words -/
def ic : List Int := [1779033703, 3144134277, 1013904242, 2773480762, 1359893119, 2600822924, 528734635, 1541459225]
def init : W8 := ⟨1779033703, 3144134277, 1013904242, 2773480762, 1359893119, 2600822924, 528734635, 1541459225⟩
theorem init_ok : init.ok := by
  intro i
  unfold init W8.at
  split <;> decide
theorem init_at (j : Nat) (h : j < 8) : ic.getD j 0 = init.at j := by
  rcases (show j = 0 ∨ j = 1 ∨ j = 2 ∨ j = 3 ∨ j = 4 ∨ j = 5 ∨ j = 6 ∨ j = 7 from by omega) with rfl | rfl | rfl | rfl | rfl | rfl | rfl | rfl <;> rfl

set_option maxRecDepth 100000 in
theorem first_any (w : World) : Calls Try.prog 108 #[] w fun e w' => e = .returned (.agg (uv ic).toArray) ∧ Below w.heap.size w w' := by
  have H1 := Lib.hid (show (uv ic).toArray.all (·.oneCell') = true from all_oneCell_toArray (uv_one ic))
  have HS : Hid ((Try.prog.info? 158).map (·.size) = some (uv ic).toArray.size) := Lib.hid (by rw [List.size_toArray, uv, List.length_map]; kernel_rfl)
  go_enter Try.func108, Try.ntmps108
  go_wp2_with (refine wpList_store_mid rfl _ _ _ rfl w.heap.size 0 (uv ic).toArray rfl rfl (there_new w _ _ _ (Nat.le_refl 8)) HS.out H1.out ?_; generalize hX : World.setCells _ _ _ _ = wX; have HX := Lib.hid hX; clear hX)
  have hlen : (uv ic).length = 8 := by rw [uv, List.length_map]; rfl
  have hb : wX.heap[w.heap.size]? = some (.cells (uv ic).toArray 158 (0, 0)) := by
    rw [← HX.out]
    refine row_stored (row_new w _ _) (uv ic) ?_
    exact hlen
  have HB : Below w.heap.size w wX := by
    rw [← HX.out]
    exact below_setCells _ (Nat.le_refl _) _ _ _ ((Below.refl _ _).alloc (Nat.le_refl _) _)
  refine bodyPost_ret (results_cell_row rfl _ _ w.heap.size _ _ _ _ rfl hb Try.underlying158 rfl HS.out) rfl ?_
  exact ⟨rfl, HB⟩

/-! plain: blocks -/
theorem blocks_take (q : Nat) : ∀ (s : W8) (l m : List Int), 64 * q ≤ l.length → blocks kf q s (l ++ m) = blocks kf q s l := by
  induction q with
  | zero => intros; rfl
  | succ q ih =>
    intro s l m h
    rw [blocks, blocks, List.take_append_of_le_length (by omega), List.drop_append_of_le_length (by omega)]
    exact ih _ _ _ (by rw [List.length_drop]; omega)
theorem blocks_add (p : Nat) : ∀ (q : Nat) (s : W8) (a b : List Int), a.length = 64 * p → blocks kf (p + q) s (a ++ b) = blocks kf q (blocks kf p s a) b := by
  induction p with
  | zero =>
    intro q s a b h
    obtain rfl : a = [] := List.eq_nil_of_length_eq_zero (by omega)
    rw [Nat.zero_add]; rfl
  | succ p ih =>
    intro q s a b h
    rw [show p + 1 + q = (p + q) + 1 by omega, blocks, blocks, List.take_append_of_le_length (by omega), List.drop_append_of_le_length (by omega)]
    exact ih _ _ _ _ (by rw [List.length_drop]; omega)
theorem blocks_ok (q : Nat) : ∀ (s : W8) (l : List Int), s.ok → (blocks kf q s l).ok := by
  induction q with
  | zero => intro s l h; exact h
  | succ q ih => intro s l h; exact ih _ _ (mixin_ok _ _)

/-- the state behind bytes: as many blocks as are whole -/
def run (B : List Int) : W8 := blocks kf (B.length / 64) init B
theorem run_ok (B : List Int) : (run B).ok := blocks_ok _ _ _ init_ok
/-- more bytes: those that waited with them -/
theorem run_more (B l : List Int) : run (B ++ l) = blocks kf ((B.length % 64 + l.length) / 64) (run B) (B.drop (64 * (B.length / 64)) ++ l) := by
  have e : B ++ l = B.take (64 * (B.length / 64)) ++ (B.drop (64 * (B.length / 64)) ++ l) := by rw [← List.append_assoc, List.take_append_drop]
  have hl : (B.take (64 * (B.length / 64))).length = 64 * (B.length / 64) := by rw [List.length_take]; omega
  have hq : (B ++ l).length / 64 = B.length / 64 + (B.length % 64 + l.length) / 64 := by rw [List.length_append]; omega
  rw [run, hq, e, blocks_add _ _ _ _ _ hl]
  congr 1
  rw [run]
  have h := blocks_take (B.length / 64) init (B.take (64 * (B.length / 64))) (B.drop (64 * (B.length / 64))) (by omega)
  rw [List.take_append_drop] at h
  exact h.symm

/-! the Hash, told by its bytes -/
structure Hc (F : Nat → Value) (S : W8) (x : Nat → Int) (c : Nat) : Prop where
  st : ∀ j, j < 8 → F j = .int .u32 (S.at j)
  wt : ∀ j, j < 64 → F (8 + j) = .int .u8 (x j)
  cnt : F 72 = .int .u64 c
/-- the bytes that wait -/
def Wt (B : List Int) (x : Nat → Int) : Prop := ∀ j, j < B.length % 64 → x j = B.getD (64 * (B.length / 64) + j) 0
/-- the Hash stands behind the bytes B -/
def Hs (B : List Int) (F : Nat → Value) : Prop := ∃ S x, Hc F S x B.length ∧ (B ≠ [] → S = run B) ∧ Wt B x

/-- bytes laid over the waiting ones -/
def layF (F : Nat → Value) (o : Nat) (vs : List Value) : Nat → Value := fun j => if o ≤ j ∧ j < o + vs.length then vs.getD (j - o) undef else F j

theorem row_lay {w : World} {b : Nat} {t : TypeId} {n : Nat} {F : Nat → Value} (h : w.rowIs b t n F) (o : Nat) (vs : List Value) : (w.setCells b o vs).rowIs b t n (layF F o vs) := row_setCells b t n vs o w F h

theorem grown_setCells {a : World} {H : Nat} : ∀ (vs : List Value) (o : Nat) (w : World), a.grownBy w (some H) → a.grownBy (w.setCells H o vs) (some H)
  | [], _, _, h => h
  | v :: vs, o, w, h => grown_setCells vs (o + 1) _ ⟨h.os, h.tape, h.output, by simpa [World.setCell] using h.size, fun i hi hne => (Below.heap_setCell w ⟨H, o, none⟩ v i (fun e => hne (by rw [e]))).trans (h.block i hi hne)⟩


theorem Hc.set72 {F : Nat → Value} {S : W8} {x : Nat → Int} {c : Nat} (h : Hc F S x c) (c' : Nat) : Hc (fun j => if j = 72 then .int .u64 c' else F j) S x c' :=
  ⟨fun j hj => by show (if j = 72 then _ else F j) = _; rw [if_neg (by omega), h.st j hj], fun j hj => by show (if 8 + j = 72 then _ else F (8 + j)) = _; rw [if_neg (by omega), h.wt j hj], by show (if 72 = 72 then _ else _) = _; rw [if_pos rfl]⟩
theorem Hc.state {F : Nat → Value} {S : W8} {x : Nat → Int} {c : Nat} (h : Hc F S x c) (T : W8) : Hc (stF F T) T x c :=
  ⟨fun j hj => by rw [stF, if_pos hj], fun j hj => by rw [stF, if_neg (by omega), h.wt j hj], by rw [stF, if_neg (by omega), h.cnt]⟩
theorem Hc.lay {F : Nat → Value} {S : W8} {x : Nat → Int} {c : Nat} (h : Hc F S x c) (o : Nat) (l : List Int) (ho : o + l.length ≤ 64) : Hc (layF F (8 + o) (bv l)) S (fun j => if o ≤ j ∧ j < o + l.length then l.getD (j - o) 0 else x j) c := by
  have hl : (bv l).length = l.length := by simp [bv]
  refine ⟨fun j hj => ?_, fun j hj => ?_, ?_⟩
  · rw [layF, if_neg (by omega), h.st j hj]
  · show layF F (8 + o) (bv l) (8 + j) = .int .u8 (if o ≤ j ∧ j < o + l.length then l.getD (j - o) 0 else x j)
    rw [layF, hl]
    by_cases e : o ≤ j ∧ j < o + l.length
    · rw [if_pos (by omega), if_pos e, show 8 + j - (8 + o) = j - o by omega]
      simp [bv, show j - o < l.length by omega]
    · rw [if_neg (by omega), if_neg e, h.wt j hj]
  · rw [layF, if_neg (by omega), h.cnt]
theorem Hc.first {F : Nat → Value} {S : W8} {x : Nat → Int} {c : Nat} (h : Hc F S x c) : Hc (layF F 0 (uv ic)) init x c := by
  have hl : (uv ic).length = 8 := by rw [uv, List.length_map]; rfl
  refine ⟨fun j hj => ?_, fun j hj => ?_, ?_⟩
  · rw [layF, if_pos (by omega), Nat.sub_zero, ← init_at j hj]
    have : j < ic.length := hj
    simp [uv, this]
  · rw [layF, if_neg (by omega), h.wt j hj]
  · rw [layF, if_neg (by omega), h.cnt]

theorem src_cell {w w' : World} {H g : Nat} (hG : w.grownBy w' (some H)) (hg : g < w.heap.size) (hgH : g ≠ H) (a : Nat) : w'.cell? ⟨g, a, none⟩ = w.cell? ⟨g, a, none⟩ := World.cell?_of_block (w := w) (hG.block g hg (fun e => hgH (Option.some.inj e)))

/-- what a copy into the waiting bytes asks -/
structure Cp (w : World) (H off : Nat) (A : Option Addr) (CS : List Value) : Prop where
  pos : 0 < CS.length → (some ⟨H, off, none⟩ : Option Addr) = some ⟨H, off, none⟩ ∧ ∃ ad, A = some ad ∧ ∀ j v, CS[j]? = some v → w.cell? (ad.add j) = some v
  here : ∀ j, j < CS.length → (w.cell? ⟨H, off + j, none⟩).isSome = true
  free : ∀ j, j < CS.length → w.frozen? ⟨H, off + j, none⟩ = false
  one : ∀ v ∈ CS, v.oneCell' = true

theorem Cp.mk' {w0 w : World} {H tH off g o k : Nat} {F : Nat → Value} {A : Option Addr} {l : List Int} (hrow : w.rowIs H tH 73 F) (hG : w0.grownBy w (some H)) (hg : g < w0.heap.size) (hgH : g ≠ H) (hoff : off + k ≤ 73) (hl : l.length = k) (hA : 0 < k → A = some ⟨g, o, none⟩) (hc : ∀ i, i < k → w0.cell? ⟨g, o + i, none⟩ = some (.int .u8 (l.getD i 0))) : Cp w H off A (bv l) := by
  have hlen : (bv l).length = k := by simp [bv, hl]
  refine ⟨fun h => ⟨rfl, ⟨g, o, none⟩, hA (by omega), fun j v hj => ?_⟩, fun j hj => ?_, fun j hj => hrow.frozen _, bv_one l⟩
  · have hj2 := (List.getElem?_eq_some_iff.1 hj).1
    rw [hlen] at hj2
    rw [Addr.add_mid, src_cell hG hg hgH, hc j hj2, ← hj]
    simp [bv, hl, hj2]
  · rw [hrow.cell (by omega)]; rfl

/-- bytes that only wait -/
theorem hs_wait {B l : List Int} {F : Nat → Value} {x : Nat → Int} {n m r : Nat} (hn : B.length = n) (hm : l.length = m) (hr : r = n % 64) (hk : r + m < 64) (hW : Wt B x)
    (hc : Hc F (run B) (fun j => if r ≤ j ∧ j < r + l.length then l.getD (j - r) 0 else x j) (n + m)) : Hs (B ++ l) F := by
  have hl : (B ++ l).length = n + m := by rw [List.length_append, hn, hm]
  refine ⟨run B, _, hl ▸ hc, fun _ => ?_, ?_⟩
  · rw [run_more, show (B.length % 64 + l.length) / 64 = 0 by omega]; rfl
  · intro j hj
    rw [hl] at hj
    have e1 : (n + m) / 64 = n / 64 := by omega
    rw [hl, e1]
    show (if r ≤ j ∧ j < r + l.length then l.getD (j - r) 0 else x j) = _
    by_cases h : r ≤ j
    · rw [if_pos ⟨h, by omega⟩]
      simp only [List.getD]
      rw [List.getElem?_append_right (by omega), show 64 * (n / 64) + j - B.length = j - r by omega]
    · rw [if_neg (by omega), hW j (by omega), hn]
      simp only [List.getD]
      rw [List.getElem?_append_left (by omega)]

/-- the waiting block is full -/
theorem full_block {B l : List Int} {x : Nat → Int} {n m r : Nat} (hn : B.length = n) (hm : l.length = m) (hr : r = n % 64) (hk : 64 ≤ r + m) (hW : Wt B x) (i : Nat) (hi : i < 64) :
    (if r ≤ i ∧ i < r + (l.take (64 - r)).length then (l.take (64 - r)).getD (i - r) 0 else x i) = (B.drop (64 * (n / 64)) ++ l.take (64 - r)).getD i 0 := by
  have hd : (B.drop (64 * (n / 64))).length = r := by rw [List.length_drop]; omega
  have ht : (l.take (64 - r)).length = 64 - r := by rw [List.length_take]; omega
  simp only [List.getD]
  by_cases h : r ≤ i
  · rw [if_pos ⟨h, by omega⟩, List.getElem?_append_right (by omega), hd]
  · rw [if_neg (by omega), List.getElem?_append_left (by omega), List.getElem?_drop]
    have := hW i (by omega)
    rw [hn] at this
    simpa [List.getD] using this
theorem run_full {B l : List Int} {n m r : Nat} (hn : B.length = n) (hm : l.length = m) (hr : r = n % 64) (hk : 64 ≤ r + m) : blocks kf (64 / 64) (run B) (B.drop (64 * (n / 64)) ++ l.take (64 - r)) = run (B ++ l.take (64 - r)) := by
  have ht : (l.take (64 - r)).length = 64 - r := by rw [List.length_take]; omega
  rw [run_more, ht, hn, show (n % 64 + (64 - r)) / 64 = 64 / 64 by omega]

/-- the end: whole blocks, and what waits -/
theorem hs_end {B l : List Int} {F : Nat → Value} {x : Nat → Int} {n m : Nat} (hB : B.length % 64 = 0) (hm : l.length = m) (hn : n = B.length + m)
    (hc : Hc F (blocks kf ((m - m % 64) / 64) (run B) (l.take (m - m % 64))) (fun j => if 0 ≤ j ∧ j < 0 + (l.drop (m - m % 64)).length then (l.drop (m - m % 64)).getD (j - 0) 0 else x j) n) : Hs (B ++ l) F := by
  have hl : (B ++ l).length = n := by rw [List.length_append, hm, hn]
  refine ⟨_, _, hl ▸ hc, fun _ => ?_, ?_⟩
  · rw [run_more, hm, hB, show B.drop (64 * (B.length / 64)) = [] from List.drop_eq_nil_of_le (by omega), List.nil_append, Nat.zero_add, show m / 64 = (m - m % 64) / 64 by omega]
    have h := blocks_take ((m - m % 64) / 64) (run B) (l.take (m - m % 64)) (l.drop (m - m % 64)) (by rw [List.length_take]; omega)
    rw [List.take_append_drop] at h
    exact h.symm
  · intro j hj
    rw [hl] at hj
    have hd : (l.drop (m - m % 64)).length = m % 64 := by rw [List.length_drop]; omega
    show (if 0 ≤ j ∧ j < 0 + (l.drop (m - m % 64)).length then (l.drop (m - m % 64)).getD (j - 0) 0 else x j) = _
    rw [if_pos ⟨Nat.zero_le _, by omega⟩, hl]
    simp only [List.getD, Nat.sub_zero]
    rw [List.getElem?_append_right (by omega), List.getElem?_drop, show m - m % 64 + j = 64 * (n / 64) + j - B.length by omega]

end Go.Proofs.Ytmcmapgllaopmaa.Sm
end

section
/- take, walked. -/
namespace Go.Proofs.Ytmcmapgllaopmaa.Sm
open Go.RowKit
set_option linter.unusedVariables false

set_option maxRecDepth 100000 in
set_option maxHeartbeats 4000000 in
theorem take_any (H tH : Nat) (F : Nat → Value) (B : List Int) (A : Option Addr) (g o m C : Nat) (l : List Int) (w : World) (hrow : w.rowIs H tH 73 F) (hs : Hs B F) (n : Nat) (hnB : B.length = n) (hn : n + m ≤ 140737488355328)
    (hlen : l.length = m) (hm : m ≤ C) (hC : C ≤ 9223372036854775807) (hA : 0 < m → A = some ⟨g, o, none⟩) (hgH : g ≠ H) (hg : g < w.heap.size) (hby : ∀ i, i < m → 0 ≤ l.getD i 0 ∧ l.getD i 0 ≤ 255) (hB : ∀ i, i < n → 0 ≤ B.getD i 0 ∧ B.getD i 0 ≤ 255)
    (hcell : ∀ i, i < m → w.cell? ⟨g, o + i, none⟩ = some (.int .u8 (l.getD i 0))) :
    Calls Try.prog 103 #[.pointer (some ⟨H, 0, none⟩), .slice A m C] w fun e w' => e = .returned (.tuple #[]) ∧ (∃ F', w'.rowIs H tH 73 F' ∧ Hs (B ++ l) F') ∧ w.grownBy w' (some H) := by
  obtain ⟨S, x, hc, hS, hW⟩ := hs
  have H1 := Lib.hid (show (uv ic).toArray.all (·.oneCell') = true from all_oneCell_toArray (uv_one ic))
  have HS8 : Hid ((Try.prog.info? 158).map (·.size) = some (uv ic).toArray.size) := Lib.hid (by rw [List.size_toArray, uv, List.length_map]; kernel_rfl)
  have HBy := Lib.hid hby
  have HBB := Lib.hid hB
  have HCe := Lib.hid hcell
  have HA := Lib.hid hA
  have HRow := Lib.hid hrow
  have HC := Lib.hid hc
  have HW := Lib.hid hW
  have hHlt := hrow.lt
  have h72 : w.cell? ⟨H, 72, none⟩ = some (.int .u64 n) := by rw [hrow.cell (by omega), hc.cnt, hnB]
  have HG0 := Lib.hid (World.grownBy.refl w (some H))
  have HSt := Lib.hid hS
  clear hby hB hcell hA hrow hc hW hS
  have HN := Lib.hid hnB
  rw [hnB] at HC
  clear hnB
  go_enter Try.func103, Try.ntmps103
  go_upto_if 11 with (fail)
  go_cut [4] (fun s4 wc => s4 = undef ∧ ∃ F1, Hid (wc.rowIs H tH 73 F1) ∧ Hid (Hc F1 (run B) x n) ∧ Hid (w.grownBy wc (some H)))
  case first =>
    by_cases h0 : n = 0
    · have hd : ((n : Int) == 0) = true := by simp [h0]
      have h8 : w.cell? ⟨H, 0, none⟩ = some (F 0) := HRow.out.cell (by omega)
      go_wp2_with fail
      refine (first_any w).mono ?_
      rintro e w1 ⟨rfl, hb1⟩
      have hbl : w1.heap[H]? = w.heap[H]? := hb1.block H hHlt
      have HR1 := Lib.hid (World.rowIs.of_block HRow.out hbl)
      have HG1 : Hid (w.grownBy w1 (some H)) := Lib.hid ⟨hb1.os, hb1.tape, hb1.output, hb1.size, fun i hi _ => hb1.block i hi⟩
      have HTh : Hid (w1.there H 0 (uv ic).toArray.size) := Lib.hid (fun j hj => by
        have h8 : (uv ic).toArray.size = 8 := by rw [List.size_toArray, uv, List.length_map]; rfl
        rw [h8] at hj
        rw [Nat.zero_add]
        exact ⟨by rw [HR1.out.cell (by omega)]; rfl, HR1.out.frozen _⟩)
      clear hb1 hbl h8
      generalize hIC : (uv ic).toArray = IC at *
      have HIC := Lib.hid hIC
      clear hIC
      go_wp2_with (refine wpList_store_mid rfl _ _ _ rfl H 0 IC rfl rfl HTh.out HS8.out H1.out ?_)
      go_meet
      case rel => exact ⟨rfl, layF F 0 IC.toList, Lib.hid (row_lay HR1.out 0 _), Lib.hid (by
        obtain rfl : B = [] := List.eq_nil_of_length_eq_zero (by rw [HN.out, h0])
        rw [← HIC.out]
        exact HC.out.first), Lib.hid (grown_setCells _ _ _ HG1.out)⟩
    · have hd : ((n : Int) == 0) = false := by simp; omega
      go_wp2_with fail
      go_meet
      case rel => exact ⟨rfl, F, HRow, Lib.hid (by
        rw [← HSt.out (fun e => h0 (by rw [← HN.out, e]; rfl))]
        exact HC.out), HG0⟩
  case rest =>
    obtain ⟨rfl, F1, HR1, HC1, HG1⟩ := hcut
    clear HRow HC HG0 HSt h72 H1 HS8
    obtain ⟨r, hr⟩ : ∃ r, r = n % 64 := ⟨_, rfl⟩
    have hr64 : r < 64 := by omega
    have ir : (n : Int) % 64 = (r : Int) := by omega
    have HRr := Lib.hid hr
    clear hr
    have wr : IntKind.i64.wrap (r : Int) = (r : Int) := by simp [IntKind.wrap, IntKind.signed, IntKind.bits]; omega
    have z0 : (0 : Int) ≤ (r : Int) := by omega
    have z1 : (r : Int) ≤ 64 := by omega
    have z2 : (r : Int) < 64 := by omega
    have hne64 : ¬ 64 = r := by omega
    have h72 : wc.cell? ⟨H, 72, none⟩ = some (.int .u64 n) := by rw [HR1.out.cell (by omega), HC1.out.cnt]
    have f72 : wc.frozen? ⟨H, 72, none⟩ = false := HR1.out.frozen _
    have HR2 := Lib.hid (HR1.out.set 72 (.int .u64 ((n + m : Nat) : Int)))
    have HC2 := Lib.hid (HC1.out.set72 (n + m))
    have HG2 : Hid (w.grownBy (wc.setCell ⟨H, 72, none⟩ (.int .u64 ((n + m : Nat) : Int))) (some H)) := Lib.hid (grown_setCells [_] 72 _ HG1.out)
    rw [show ((n + m : Nat) : Int) = (n : Int) + (m : Int) from by omega] at HR2 HC2 HG2
    clear HR1 HC1 HG1
    have HCe2 := Lib.hid (fun i hi => HCe.out i hi)
    go_upto_if 33 with (fail)
    go_cut [1] (fun s1 wd => ∃ (A1 : Option Addr) (m1 C1 o1 : Nat) (B1 l1 : List Int) (F2 : Nat → Value) (x2 : Nat → Int), s1 = .slice A1 m1 C1 ∧ m1 ≤ C1 ∧ C1 ≤ 9223372036854775807 ∧ m1 ≤ 140737488355328 ∧ Hid (0 < m1 → A1 = some ⟨g, o1, none⟩) ∧ Hid (l1.length = m1) ∧ Hid (B1 ++ l1 = B ++ l) ∧ Hid (B1.length % 64 = 0) ∧ Hid (n + m = B1.length + m1) ∧ Hid (∀ i, i < m1 → 0 ≤ l1.getD i 0 ∧ l1.getD i 0 ≤ 255) ∧ Hid (∀ i, i < m1 → w.cell? ⟨g, o1 + i, none⟩ = some (.int .u8 (l1.getD i 0))) ∧ Hid (wd.rowIs H tH 73 F2) ∧ Hid (Hc F2 (run B1) x2 (n + m)) ∧ Hid (w.grownBy wd (some H)))
    case first =>
      by_cases hr0 : r = 0
      · have hrd : decide ((0 : Int) < (r : Int)) = false := by simp; omega
        go_wp2_with fail
        go_meet
        case rel => exact ⟨A, m, C, o, B, l, _, _, rfl, hm, hC, by omega, HA, Lib.hid hlen, Lib.hid rfl, Lib.hid (by rw [HN.out, ← HRr.out, hr0]), Lib.hid (by rw [HN.out]), HBy, HCe, HR2, HC2, HG2⟩
      have hrd : decide ((0 : Int) < (r : Int)) = true := by simp; omega
      by_cases hk : r + m < 64
      · have hmin : m = Nat.min m (64 - r) := by show m = min m (64 - r); omega
        have HCp := Lib.hid (Cp.mk' (off := 8 + r) HR2.out HG2.out hg hgH (by omega) hlen HA.out HCe.out)
        have HR3 := Lib.hid (row_lay HR2.out (8 + r) (bv l))
        have HC3 := Lib.hid (HC2.out.lay r l (by omega))
        have HG3 := Lib.hid (grown_setCells (bv l) (8 + r) _ HG2.out)
        have hlc : (bv l).length = m := by simp [bv, hlen]
        have hgo : goInt (bv l).length = .int .i64 m := by rw [hlc]; rfl
        have HMn : Hid ((bv l).length = Nat.min m (64 - r)) := Lib.hid (by rw [hlc]; exact hmin)
        have hrm : decide ((r : Int) + (m : Int) < 64) = true := by simp; omega
        have HFin := Lib.hid (hs_wait HN.out hlen HRr.out hk HW.out HC3.out)
        clear HC3
        generalize bv l = CS at *
        clear HR2 HC2 HG2 hmin hlc
        go_wp2_with (refine wpList_copy_mid rfl (.tmp 38) (.tmp 39) rfl (some ⟨H, 8 + r, none⟩) A (64 - r) (64 - r) m C rfl rfl H (8 + r) CS HMn.out HCp.out.pos HCp.out.here HCp.out.free HCp.out.one ?_; rw [hgo])
        all_goals (refine bodyPost_ret (results_none rfl _ _ _) rfl ?_; exact ⟨rfl, ⟨_, HR3.out, HFin.out⟩, HG3.out⟩)
      have hk64 : 64 ≤ r + m := by omega
      obtain ⟨k, hkr⟩ : ∃ k, r + k = 64 := ⟨64 - r, by omega⟩
      have hk1 : 64 - r = k := by omega
      have hkm : k ≤ m := by omega
      have hk0 : 0 < k := by omega
      have hAe := HA.out (by omega)
      have hlt : (l.take k).length = k := by rw [List.length_take]; omega
      have HCp := Lib.hid (Cp.mk' (A := A) (l := l.take k) (off := 8 + r) (k := k) HR2.out HG2.out hg hgH (by omega) hlt (fun _ => hAe) (fun i hi => by
        rw [HCe.out i (by omega)]
        simp [List.getD, hi]))
      have HR3 := Lib.hid (row_lay HR2.out (8 + r) (bv (l.take k)))
      have HC3 := Lib.hid (HC2.out.lay r (l.take k) (by omega))
      have HG3 := Lib.hid (grown_setCells (bv (l.take k)) (8 + r) _ HG2.out)
      have hlc : (bv (l.take k)).length = k := by rw [bv, List.length_map, hlt]
      have hgo : goInt (bv (l.take k)).length = .int .i64 k := by rw [hlc]; rfl
      have HMn : Hid ((bv (l.take k)).length = Nat.min m k) := Lib.hid (by rw [hlc]; show k = min m k; omega)
      have hrm : decide ((r : Int) + (k : Int) < 64) = false := by simp; omega
      have HFB := Lib.hid (full_block HN.out hlen HRr.out hk64 HW.out)
      have HRF := Lib.hid (run_full HN.out hlen HRr.out hk64)
      rw [hk1] at HFB HRF
      have hd1 : (B.drop (64 * (n / 64))).length = r := by rw [List.length_drop, HN.out, HRr.out]; omega
      have HL1 : Hid ((B.drop (64 * (n / 64)) ++ l.take k).length = 64) := Lib.hid (by rw [List.length_append, hlt, hd1]; omega)
      have HBy1 : Hid (∀ i, i < 64 → 0 ≤ (B.drop (64 * (n / 64)) ++ l.take k).getD i 0 ∧ (B.drop (64 * (n / 64)) ++ l.take k).getD i 0 ≤ 255) := Lib.hid (fun i hi => by
        simp only [List.getD]
        by_cases h : i < r
        · rw [List.getElem?_append_left (by omega), List.getElem?_drop]
          exact HBB.out _ (by have := HRr.out; omega)
        · rw [List.getElem?_append_right (by omega), hd1]
          have := HBy.out (i - r) (by omega)
          simpa [List.getD, show i - r < k by omega] using this)
      have HC4 : Hid (∃ FX x', ((wc.setCell ⟨H, 72, none⟩ (.int .u64 ((n : Int) + (m : Int)))).setCells H (8 + r) (bv (l.take k))).rowIs H tH 73 FX ∧ Hc FX (run B) x' (n + m) ∧ ∀ i, i < 64 → x' i = (B.drop (64 * (n / 64)) ++ l.take k).getD i 0) := Lib.hid ⟨_, _, HR3.out, HC3.out, HFB.out⟩
      clear HR3 HC3 HFB HR2 HC2 HG2 hlc hlt hd1
      generalize bv (l.take k) = CS at *
      obtain ⟨L1, hL1⟩ : ∃ L1, L1 = B.drop (64 * (n / 64)) ++ l.take k := ⟨_, rfl⟩
      rw [← hL1] at HRF HL1 HBy1 HC4
      clear hL1
      subst hAe
      obtain ⟨A2, hA2⟩ : ∃ A2, A2 = (if C = k then (some ⟨g, o, none⟩ : Option Addr) else some ⟨g, o + k, none⟩) := ⟨_, rfl⟩
      have HA2 : Hid (0 < m - k → A2 = some ⟨g, o + k, none⟩) := Lib.hid (fun h => by rw [hA2, if_neg (by omega)])
      have hcut := hA2.symm
      clear hA2
      have k0 : (0 : Int) ≤ (k : Int) := by omega
      have k1 : (k : Int) ≤ (m : Int) := by omega
      have kw : IntKind.i64.wrap (k : Int) = (k : Int) := by simp [IntKind.wrap, IntKind.signed, IntKind.bits]; omega
      generalize hwX : (wc.setCell ⟨H, 72, none⟩ (.int .u64 ((n : Int) + (m : Int)))).setCells H (8 + r) CS = wX at *
      have HWX := Lib.hid hwX
      clear hwX
      go_wp2_with (refine wpList_copy_mid rfl (.tmp 38) (.tmp 39) rfl (some ⟨H, 8 + r, none⟩) (some ⟨g, o, none⟩) k k m C rfl rfl H (8 + r) CS HMn.out HCp.out.pos HCp.out.here HCp.out.free HCp.out.one ?_; rw [hgo, HWX.out])
      obtain ⟨FX, x', hrX, hcX, hx'⟩ := HC4.out
      refine (mix_any H tH FX (run B) (run_ok B) (some ⟨H, 8, none⟩) H 8 64 64 L1 wX hrX hcX.st HL1.out (by omega) (by omega) (by omega) (fun _ => rfl) HBy1.out (fun w' hg' hsm i hi => by rw [hsm (8 + i) (by omega) (by omega), hrX.cell (by omega), hcX.wt i hi, hx' i hi])).mono ?_
      rintro e w5 ⟨rfl, hr5, hg5⟩
      rw [HRF.out] at hr5
      have HR5 := Lib.hid hr5
      have HG5 := Lib.hid (grown_trans HG3.out hg5)
      have HC5 := Lib.hid (hcX.state (run (B ++ l.take k)))
      have HO5 : Hid (m - k ≤ C - k ∧ C - k ≤ 9223372036854775807 ∧ m - k ≤ 140737488355328) := Lib.hid ⟨by omega, by omega, by omega⟩
      have HL5 : Hid ((l.drop k).length = m - k) := Lib.hid (by rw [List.length_drop, hlen])
      have HD5 : Hid ((B ++ l.take k) ++ l.drop k = B ++ l) := Lib.hid (by rw [List.append_assoc, List.take_append_drop])
      have hBk : (B ++ l.take k).length = n + k := by rw [List.length_append, HN.out, List.length_take]; omega
      have HM5 : Hid ((B ++ l.take k).length % 64 = 0) := Lib.hid (by rw [hBk]; have := HRr.out; omega)
      have HN5 : Hid (n + m = (B ++ l.take k).length + (m - k)) := Lib.hid (by rw [hBk]; omega)
      have HY5 : Hid (∀ i, i < m - k → 0 ≤ (l.drop k).getD i 0 ∧ (l.drop k).getD i 0 ≤ 255) := Lib.hid (fun i hi => by
        have := HBy.out (k + i) (by omega)
        simpa [List.getD, List.getElem?_drop] using this)
      have HE5 : Hid (∀ i, i < m - k → w.cell? ⟨g, o + k + i, none⟩ = some (.int .u8 ((l.drop k).getD i 0))) := Lib.hid (fun i hi => by
        have := HCe.out (k + i) (by omega)
        rw [← Nat.add_assoc] at this
        rw [this]
        simp [List.getD, List.getElem?_drop])
      clear hr5 hg5 hrX hcX hx' HRF HBy1 HL1 HC4 hBk HWX HCp HMn
      go_wp2_with fail
      go_meet
      case rel => exact ⟨A2, m - k, C - k, o + k, B ++ l.take k, l.drop k, _, x', rfl, HO5.out.1, HO5.out.2.1, HO5.out.2.2, HA2, HL5, HD5, HM5, HN5, HY5, HE5, HR5, HC5, HG5⟩
    case rest =>
      clear HR2 HC2 HG2 HA HBy HCe HCe2 HW ir wr z0 z1 z2 hne64
      obtain ⟨A1, m1, C1, o1, B1, l1, F2, x2, rfl, hm1, hC1, hbig1, HA1, HL1, HD1, HM1, HN1, HY1, HE1, HR1, HC1, HG1⟩ := hcut
      obtain ⟨v, hv⟩ : ∃ v, v = m1 - m1 % 64 := ⟨_, rfl⟩
      have v0 : (0 : Int) ≤ (v : Int) := by omega
      have v1 : (v : Int) ≤ (m1 : Int) := by omega
      have vw : IntKind.i64.wrap ((m1 : Int) - (m1 : Int) % 64) = (v : Int) := by simp [IntKind.wrap, IntKind.signed, IntKind.bits]; omega
      have vr : (m1 : Int) - (m1 : Int) % 64 = (v : Int) := by omega
      have HV := Lib.hid hv
      clear hv
      have hv64 : v / 64 = (m1 - m1 % 64) / 64 := by rw [HV.out]
      have hvm : m1 - v = m1 % 64 := by have := HV.out; omega
      have hvm2 : m1 - v < 64 := by omega
      have hvle : v ≤ m1 := by omega
      have hHlt1 := HR1.out.lt
      obtain ⟨A3, hA3⟩ : ∃ A3, A3 = (if C1 = v then A1 else Option.map (fun x : Addr => x.add v) A1) := ⟨_, rfl⟩
      have HA3 : Hid (0 < m1 - v → A3 = some ⟨g, o1 + v, none⟩) := Lib.hid (fun h => by
        rw [hA3, if_neg (by omega), HA1.out (by omega), Option.map_some, Addr.add_mid])
      have hcut3 := hA3.symm
      clear hA3
      have HMx := Lib.hid (mix_any H tH F2 (run B1) (run_ok B1) A1 g o1 v C1 (l1.take v) wc HR1.out HC1.out.st (by rw [List.length_take, HL1.out]; omega) (by omega) hC1 (by omega) (fun h => HA1.out (by omega)) (fun i hi => by
        have := HY1.out i (by omega)
        simpa [List.getD, hi] using this) (fun w' hg' hsm i hi => by
        rw [src_cell (grown_trans HG1.out hg') hg hgH, HE1.out i (by omega)]
        simp [List.getD, hi]))
      go_wp2_with fail
      refine HMx.out.mono ?_
      rintro e w5 ⟨rfl, hr5, hg5⟩
      have HR5 := Lib.hid hr5
      have HG5 := Lib.hid (grown_trans HG1.out hg5)
      have HC5 := Lib.hid (HC1.out.state (blocks kf (v / 64) (run B1) (l1.take v)))
      have hld : (l1.drop v).length = m1 - v := by rw [List.length_drop, HL1.out]
      have HCp := Lib.hid (Cp.mk' (w := w5.drew) (A := A3) (l := l1.drop v) (off := 8) (o := o1 + v) (k := m1 - v) (World.rowIs.drew HR5.out) (w0 := w) (grown_drewN HG5.out 1) hg hgH (by omega) hld HA3.out (fun i hi => by
        have := HE1.out (v + i) (by omega)
        rw [← Nat.add_assoc] at this
        rw [this]
        simp [List.getD, List.getElem?_drop]))
      have hlc : (bv (l1.drop v)).length = m1 - v := by rw [bv, List.length_map, hld]
      have HMn : Hid ((bv (l1.drop v)).length = Nat.min (m1 - v) 64) := Lib.hid (by rw [hlc]; show m1 - v = min (m1 - v) 64; omega)
      have HR6 := Lib.hid (row_lay (World.rowIs.drew HR5.out) 8 (bv (l1.drop v)))
      have HG6 := Lib.hid (grown_setCells (bv (l1.drop v)) 8 _ (grown_drewN HG5.out 1))
      have HC6 := Lib.hid (HC5.out.lay 0 (l1.drop v) (by omega))
      have HFin := Lib.hid (hs_end (F := layF (stF F2 (blocks kf (v / 64) (run B1) (l1.take v))) 8 (bv (l1.drop v))) (x := x2) HM1.out HL1.out HN1.out (by rw [← HV.out]; exact HC6.out))
      rw [HD1.out] at HFin
      clear hvm hv64 hr5 hg5 HMx HC6 HC5 HR5 HG5 hlc hld HR1 HC1 HG1
      generalize bv (l1.drop v) = CS at *
      go_wp2_with fail
      go_region_held3 (fun _ => True) (trivial) (first
        | (refine step_copy_mid rfl (.tmp 68) (.tmp 71) rfl (some ⟨H, 8, none⟩) A3 64 64 (m1 - v) (C1 - v) rfl rfl H 8 CS HMn.out HCp.out.pos HCp.out.here HCp.out.free HCp.out.one ?_))
      all_goals go_end0
      all_goals exact ⟨rfl, ⟨_, HR6.out, HFin.out⟩, HG6.out⟩
end Go.Proofs.Ytmcmapgllaopmaa.Sm
end

section
/- putWord, and the end of the bytes. -/
namespace Go.Proofs.Ytmcmapgllaopmaa.Sm
open Go.RowKit
set_option linter.unusedVariables false

/-- a word's bytes -/
def wb (x : Int) : List Int := [x / 16777216, x / 65536 % 256, x / 256 % 256, x % 256]
theorem wb_length (x : Int) : (wb x).length = 4 := rfl
theorem wb_range (x : Int) (h0 : 0 ≤ x) (h1 : x < 4294967296) : ∀ y ∈ wb x, 0 ≤ y ∧ y ≤ 255 := by
  intro y hy
  simp only [wb, List.mem_cons, List.not_mem_nil, or_false] at hy
  omega

set_option maxRecDepth 100000 in
set_option maxHeartbeats 1000000 in
theorem put_any (g t o n c k : Nat) (F : Nat → Value) (x : Int) (w : World) (h0 : 0 ≤ x) (h1 : x < 4294967296) (hn : 4 ≤ n) (hrow : w.rowIs g t k F) (hk : o + 4 ≤ k) :
    Calls Try.prog 105 #[.slice (some ⟨g, o, none⟩) n c, .int .u32 x] w fun e w' => e = .returned (.tuple #[]) ∧ w' = w.setCells g o (bv (wb x)) := by
  have c0 : w.cell? ⟨g, o, none⟩ = some (F o) := hrow.cell (by omega)
  have c1 : w.cell? ⟨g, o + 1, none⟩ = some (F (o + 1)) := hrow.cell (by omega)
  have c2 : w.cell? ⟨g, o + 2, none⟩ = some (F (o + 2)) := hrow.cell (by omega)
  have c3 : w.cell? ⟨g, o + 3, none⟩ = some (F (o + 3)) := hrow.cell (by omega)
  have f0 : ∀ j, w.frozen? ⟨g, j, none⟩ = false := fun j => hrow.frozen j
  clear hrow
  go_enter Try.func105, Try.ntmps105
  go_wp2
  go_end0
  exact ⟨rfl, rfl⟩
end Go.Proofs.Ytmcmapgllaopmaa.Sm
end

section
/- finish: the end of FIPS 180-4 behind the bytes. -/
namespace Go.Proofs.Ytmcmapgllaopmaa.Sm
open Go.RowKit
set_option linter.unusedVariables false

/-- how long the end is -/
def padN (n : Nat) : Nat := if 64 - n % 64 < 9 then 128 - n % 64 else 64 - n % 64
/-- the end behind n bytes -/
def pad (n : Nat) : List Int := 128 :: List.replicate (padN n - 9) 0 ++ (wb (((n : Int) * 8) / 4294967296) ++ wb (((n : Int) * 8) % 4294967296))
theorem padN_ge (n : Nat) : 9 ≤ padN n ∧ padN n ≤ 128 ∧ (n + padN n) % 64 = 0 := by unfold padN; split <;> omega
theorem pad_length (n : Nat) : (pad n).length = padN n := by
  have := padN_ge n
  simp only [pad, List.length_append, List.length_cons, List.length_replicate, wb_length]
  omega
theorem pad_range (n : Nat) (hn : n ≤ 140737488355328) : ∀ i, i < padN n → 0 ≤ (pad n).getD i 0 ∧ (pad n).getD i 0 ≤ 255 := by
  intro i hi
  have hl : i < (pad n).length := by rw [pad_length]; exact hi
  have hm : (pad n).getD i 0 ∈ pad n := by
    rw [List.getD, List.getElem?_eq_getElem hl]; exact List.getElem_mem hl
  generalize (pad n).getD i 0 = y at hm
  simp only [pad, List.mem_append, List.mem_cons] at hm
  rcases hm with (rfl | hm) | hm | hm
  · omega
  · rw [List.eq_of_mem_replicate hm]; omega
  · exact wb_range _ (by omega) (by omega) y hm
  · exact wb_range _ (by omega) (by omega) y hm

/-- the array of the end: noughts, the bit, the length -/
def endF (n : Nat) : Nat → Value := layF (layF (layF (fun _ => .int .u8 0) 0 (bv [128])) (padN n - 8) (bv (wb (((n : Int) * 8) / 4294967296)))) (padN n - 4) (bv (wb (((n : Int) * 8) % 4294967296)))

theorem endF_at (n i : Nat) (hi : i < padN n) : endF n i = .int .u8 ((pad n).getD i 0) := by
  have hp := padN_ge n
  have hb : ∀ l : List Int, (bv l).length = l.length := fun l => by simp [bv]
  unfold endF
  rw [layF, hb, wb_length]
  by_cases h1 : padN n - 4 ≤ i ∧ i < padN n - 4 + 4
  · rw [if_pos h1]
    simp only [pad, List.getD]
    rw [List.getElem?_append_right (by simp; omega), List.getElem?_append_right (by simp [wb_length]; omega)]
    simp only [List.length_cons, List.length_replicate, wb_length]
    rw [show i - (padN n - 9 + 1) - 4 = i - (padN n - 4) by omega]
    rcases (show i - (padN n - 4) = 0 ∨ i - (padN n - 4) = 1 ∨ i - (padN n - 4) = 2 ∨ i - (padN n - 4) = 3 by omega) with e | e | e | e <;> rw [e] <;> rfl
  · rw [if_neg h1, layF, hb, wb_length]
    by_cases h2 : padN n - 8 ≤ i ∧ i < padN n - 8 + 4
    · rw [if_pos h2]
      simp only [pad, List.getD]
      rw [List.getElem?_append_right (by simp; omega), List.getElem?_append_left (by simp [wb_length]; omega)]
      simp only [List.length_cons, List.length_replicate]
      rw [show i - (padN n - 9 + 1) = i - (padN n - 8) by omega]
      rcases (show i - (padN n - 8) = 0 ∨ i - (padN n - 8) = 1 ∨ i - (padN n - 8) = 2 ∨ i - (padN n - 8) = 3 by omega) with e | e | e | e <;> rw [e] <;> rfl
    · rw [if_neg h2, layF, hb]
      simp only [pad, List.getD]
      rw [List.getElem?_append_left (by simp; omega)]
      by_cases h3 : i = 0
      · subst h3; rw [if_pos (by simp)]; rfl
      · rw [if_neg (by simp; omega)]
        obtain ⟨k, rfl⟩ : ∃ k, i = k + 1 := ⟨i - 1, by omega⟩
        rw [List.getElem?_cons_succ, List.getElem?_replicate, if_pos (by omega)]
        rfl

theorem zeros_at (N i : Nat) (h : i < N) : (bv (List.replicate N 0)).toArray.getD i undef = .int .u8 0 := by simp [bv, h]
theorem row_apart {b E : Nat} {t : TypeId} {n : Nat} {F : Nat → Value} (hne : b ≠ E) : ∀ (vs : List Value) (o : Nat) (w : World), w.rowIs b t n F → (w.setCells E o vs).rowIs b t n F
  | [], _, _, h => h
  | v :: vs, o, w, h => row_apart hne vs (o + 1) _ (h.setOther hne v)
theorem grown_apart {a : World} {H E : Nat} (hE : a.heap.size ≤ E) : ∀ (vs : List Value) (o : Nat) (w : World), a.grownBy w (some H) → a.grownBy (w.setCells E o vs) (some H)
  | [], _, _, h => h
  | v :: vs, o, w, h => grown_apart hE vs (o + 1) _ ⟨h.os, h.tape, h.output, by simpa [World.setCell] using h.size, fun i hi hne => (Below.heap_setCell w ⟨E, o, none⟩ v i (by show i ≠ E; omega)).trans (h.block i hi hne)⟩

set_option maxRecDepth 100000 in
theorem zero128 (w : World) : (zeroValue 172).run Try.prog w = .ok (.agg (bv (List.replicate 128 0)).toArray) w := by
  rfl

set_option maxRecDepth 100000 in
set_option maxHeartbeats 4000000 in
theorem finish_any (H tH : Nat) (F : Nat → Value) (B : List Int) (w : World) (hrow : w.rowIs H tH 73 F) (hs : Hs B F) (n : Nat) (hnB : B.length = n) (hn : n ≤ 1099511627776) (hB : ∀ i, i < n → 0 ≤ B.getD i 0 ∧ B.getD i 0 ≤ 255) :
    Calls Try.prog 104 #[.pointer (some ⟨H, 0, none⟩)] w fun e w' => e = .returned (.tuple #[]) ∧ (∃ F', w'.rowIs H tH 73 F' ∧ Hs (B ++ pad n) F') ∧ w.grownBy w' (some H) := by
  have h72 : w.cell? ⟨H, 72, none⟩ = some (.int .u64 n) := by
    obtain ⟨S, x, hc, -, -⟩ := hs
    rw [hrow.cell (by omega), hc.cnt, hnB]
  have HRow := Lib.hid hrow
  have HS := Lib.hid hs
  have HB := Lib.hid hB
  have hHlt := hrow.lt
  clear hrow hs hB
  have hz := zero128
  generalize hZ : (bv (List.replicate 128 0)).toArray = Z at *
  have HZ := Lib.hid hZ
  clear hZ
  go_enter Try.func104, Try.ntmps104
  go_upto_region 2 with (fail)
  have hE0 : (w.alloc (.cells Z 172)).rowIs w.heap.size 172 128 (fun _ => .int .u8 0) := by
    have h := row_new w Z 172
    have hz : Z.size = 128 := by rw [← HZ.out, List.size_toArray, bv, List.length_map, List.length_replicate]
    rw [hz] at h
    refine h.congr fun i hi => ?_
    rw [← HZ.out]
    exact zeros_at 128 i hi
  have HH0 := Lib.hid (World.rowIs.alloc HRow.out (.cells Z 172))
  have HG0 : Hid (w.grownBy (w.alloc (.cells Z 172)) (some H)) := Lib.hid (by
    have h := (Below.refl w.heap.size w).alloc (Nat.le_refl _) (.cells Z 172)
    exact ⟨h.os, h.tape, h.output, h.size, fun i hi _ => h.block i hi⟩)
  have HE0 := Lib.hid hE0
  have hEH : w.heap.size ≠ H := by omega
  have hEw := Nat.le_refl w.heap.size
  clear hE0 HZ hz HRow
  generalize w.alloc (.cells Z 172) = wE at *
  generalize hEE : w.heap.size = E at *
  have HEE := Lib.hid hEE
  clear hEE h72
  have cE : wE.cell? ⟨E, 0, none⟩ = some (.int .u8 0) := HE0.out.cell (by omega)
  have fE : wE.frozen? ⟨E, 0, none⟩ = false := HE0.out.frozen _
  have HE1 : Hid ((wE.setCell ⟨E, 0, none⟩ (.int .u8 128)).rowIs E 172 128 (layF (fun _ => .int .u8 0) 0 (bv [128]))) := Lib.hid (row_lay HE0.out 0 (bv [128]))
  have HH1 : Hid ((wE.setCell ⟨E, 0, none⟩ (.int .u8 128)).rowIs H tH 73 F) := Lib.hid (HH0.out.setOther (fun e => hEH e.symm) _)
  have HG1 : Hid (w.grownBy (wE.setCell ⟨E, 0, none⟩ (.int .u8 128)) (some H)) := Lib.hid ⟨HG0.out.os, HG0.out.tape, HG0.out.output, by simpa [World.setCell] using HG0.out.size, fun i hi hne => (Below.heap_setCell wE ⟨E, 0, none⟩ _ i (by show i ≠ E; have := HEE.out; omega)).trans (HG0.out.block i hi hne)⟩
  have h72 : (wE.setCell ⟨E, 0, none⟩ (.int .u8 128)).cell? ⟨H, 72, none⟩ = some (.int .u64 n) := by
    obtain ⟨S, x, hc, -, -⟩ := HS.out
    rw [HH1.out.cell (by omega), hc.cnt, hnB]
  obtain ⟨r, hr⟩ : ∃ r, r = n % 64 := ⟨_, rfl⟩
  have ir : (n : Int) % 64 = (r : Int) := by omega
  obtain ⟨q, hq⟩ : ∃ q, q + r = 64 := ⟨64 - r, by omega⟩
  have iq : (64 : Int) - (r : Int) = (q : Int) := by omega
  obtain ⟨P, hP⟩ : ∃ P, P = padN n := ⟨_, rfl⟩
  have hpr := padN_ge n
  rw [← hP] at hpr
  have hPq : (q < 9 ∧ P = q + 64) ∨ (9 ≤ q ∧ P = q) := by
    rw [hP]; unfold padN
    split
    · exact .inl ⟨by omega, by omega⟩
    · exact .inr ⟨by omega, by omega⟩
  have HP := Lib.hid hP
  have HHr := Lib.hid hr
  clear hP hr HE0 HH0 HG0
  obtain ⟨p8, h8⟩ : ∃ p8, p8 + 8 = P := ⟨P - 8, by omega⟩
  obtain ⟨p4, h4⟩ : ∃ p4, p4 + 4 = P := ⟨P - 4, by omega⟩
  have i8 : (P : Int) - 8 = (p8 : Int) := by omega
  have i4 : (P : Int) - 4 = (p4 : Int) := by omega
  have j8 : (p8 : Int) ≤ 128 := by omega
  have j4 : (p4 : Int) ≤ 128 := by omega
  have jP : (P : Int) ≤ 128 := by omega
  have z8 : (0 : Int) ≤ (p8 : Int) := by omega
  have z4 : (0 : Int) ≤ (p4 : Int) := by omega
  have zP : (0 : Int) ≤ (P : Int) := by omega
  have w8 : IntKind.i64.wrap (p8 : Int) = (p8 : Int) := by simp [IntKind.wrap, IntKind.signed, IntKind.bits]; omega
  have w4 : IntKind.i64.wrap (p4 : Int) = (p4 : Int) := by simp [IntKind.wrap, IntKind.signed, IntKind.bits]; omega
  have wP : IntKind.i64.wrap (P : Int) = (P : Int) := by simp [IntKind.wrap, IntKind.signed, IntKind.bits]; omega
  have n8 : ¬ 128 = p8 := by omega
  have n4 : ¬ 128 = p4 := by omega
  have l8 : 4 ≤ 128 - p8 := by omega
  have l4 : 4 ≤ 128 - p4 := by omega
  have b8 : p8 + 4 ≤ 128 := by omega
  have b4 : p4 + 4 ≤ 128 := by omega
  have HQ := Lib.hid hq
  have H8 := Lib.hid h8
  have H4 := Lib.hid h4
  have HPR := Lib.hid hpr
  clear hq h8 h4 hpr
  rcases hPq with ⟨hq9, hPe⟩ | ⟨hq9, hPe⟩
  · have hd : decide ((q : Int) < 9) = true := by simp; omega
    have iP : (q : Int) + 64 = (P : Int) := by omega
    clear hPe hq9
    go_wp2_with fail
    refine (put_any E 172 p8 (128 - p8) (128 - p8) 128 _ ((n : Int) * 8 / 4294967296) _ (by omega) (by omega) l8 HE1.out b8).mono ?_
    rintro e w2 ⟨rfl, rfl⟩
    have HE2 := Lib.hid (row_lay HE1.out p8 (bv (wb ((n : Int) * 8 / 4294967296))))
    have HH2 := Lib.hid (row_apart (fun e => hEH e.symm) (bv (wb ((n : Int) * 8 / 4294967296))) p8 _ HH1.out)
    have HG2 := Lib.hid (grown_apart (show w.heap.size ≤ E from by have := HEE.out; omega) (bv (wb ((n : Int) * 8 / 4294967296))) p8 _ HG1.out)
    clear HE1 HH1 HG1 h72 cE fE
    generalize (wE.setCell ⟨E, 0, none⟩ (.int .u8 128)).setCells E p8 (bv (wb ((n : Int) * 8 / 4294967296))) = w2 at *
    go_wp2_with fail
    refine (put_any E 172 p4 (128 - p4) (128 - p4) 128 _ ((n : Int) * 8 % 4294967296) _ (by omega) (by omega) l4 HE2.out b4).mono ?_
    rintro e w3 ⟨rfl, rfl⟩
    have HE3 := Lib.hid (row_lay HE2.out p4 (bv (wb ((n : Int) * 8 % 4294967296))))
    have HH3 := Lib.hid (row_apart (fun e => hEH e.symm) (bv (wb ((n : Int) * 8 % 4294967296))) p4 _ HH2.out)
    have HG3 := Lib.hid (grown_apart (show w.heap.size ≤ E from by have := HEE.out; omega) (bv (wb ((n : Int) * 8 % 4294967296))) p4 _ HG2.out)
    clear HE2 HH2 HG2
    generalize w2.setCells E p4 (bv (wb ((n : Int) * 8 % 4294967296))) = w3 at *
    have HT := Lib.hid (take_any H tH F B (some ⟨E, 0, none⟩) E 0 P 128 (pad n) w3 HH3.out HS.out n hnB (by omega) (by rw [pad_length, HP.out]) (by omega) (by omega) (fun _ => rfl) hEH HE3.out.lt (by rw [HP.out]; exact pad_range n (by omega)) HB.out (fun i hi => by
      rw [Nat.zero_add, HE3.out.cell (by omega)]
      have h := endF_at n i (by rw [← HP.out]; exact hi)
      rw [endF, ← HP.out, show P - 8 = p8 from by have := H8.out; omega, show P - 4 = p4 from by have := H4.out; omega] at h
      exact congrArg some h))
    clear HE3
    go_wp2_with fail
    refine HT.out.mono ?_
    rintro e w4 ⟨rfl, hf, hg⟩
    have HFf := Lib.hid hf
    have HGf := Lib.hid (grown_trans HG3.out hg)
    clear hf hg HT
    go_wp2_with fail
    go_end0
    exact ⟨rfl, HFf.out, HGf.out⟩
  · have hd : decide ((q : Int) < 9) = false := by simp; omega
    subst hPe
    go_wp2_with fail
    refine (put_any E 172 p8 (128 - p8) (128 - p8) 128 _ ((n : Int) * 8 / 4294967296) _ (by omega) (by omega) l8 HE1.out b8).mono ?_
    rintro e w2 ⟨rfl, rfl⟩
    have HE2 := Lib.hid (row_lay HE1.out p8 (bv (wb ((n : Int) * 8 / 4294967296))))
    have HH2 := Lib.hid (row_apart (fun e => hEH e.symm) (bv (wb ((n : Int) * 8 / 4294967296))) p8 _ HH1.out)
    have HG2 := Lib.hid (grown_apart (show w.heap.size ≤ E from by have := HEE.out; omega) (bv (wb ((n : Int) * 8 / 4294967296))) p8 _ HG1.out)
    clear HE1 HH1 HG1 h72 cE fE
    generalize (wE.setCell ⟨E, 0, none⟩ (.int .u8 128)).setCells E p8 (bv (wb ((n : Int) * 8 / 4294967296))) = w2 at *
    go_wp2_with fail
    refine (put_any E 172 p4 (128 - p4) (128 - p4) 128 _ ((n : Int) * 8 % 4294967296) _ (by omega) (by omega) l4 HE2.out b4).mono ?_
    rintro e w3 ⟨rfl, rfl⟩
    have HE3 := Lib.hid (row_lay HE2.out p4 (bv (wb ((n : Int) * 8 % 4294967296))))
    have HH3 := Lib.hid (row_apart (fun e => hEH e.symm) (bv (wb ((n : Int) * 8 % 4294967296))) p4 _ HH2.out)
    have HG3 := Lib.hid (grown_apart (show w.heap.size ≤ E from by have := HEE.out; omega) (bv (wb ((n : Int) * 8 % 4294967296))) p4 _ HG2.out)
    clear HE2 HH2 HG2
    generalize w2.setCells E p4 (bv (wb ((n : Int) * 8 % 4294967296))) = w3 at *
    have HT := Lib.hid (take_any H tH F B (some ⟨E, 0, none⟩) E 0 P 128 (pad n) w3 HH3.out HS.out n hnB (by omega) (by rw [pad_length, HP.out]) (by omega) (by omega) (fun _ => rfl) hEH HE3.out.lt (by rw [HP.out]; exact pad_range n (by omega)) HB.out (fun i hi => by
      rw [Nat.zero_add, HE3.out.cell (by omega)]
      have h := endF_at n i (by rw [← HP.out]; exact hi)
      rw [endF, ← HP.out, show P - 8 = p8 from by have := H8.out; omega, show P - 4 = p4 from by have := H4.out; omega] at h
      exact congrArg some h))
    clear HE3
    go_wp2_with fail
    refine HT.out.mono ?_
    rintro e w4 ⟨rfl, hf, hg⟩
    have HFf := Lib.hid hf
    have HGf := Lib.hid (grown_trans HG3.out hg)
    clear hf hg HT
    go_wp2_with fail
    go_end0
    exact ⟨rfl, HFf.out, HGf.out⟩
end Go.Proofs.Ytmcmapgllaopmaa.Sm
end

section
/- Sum: on a copy. -/
namespace Go.Proofs.Ytmcmapgllaopmaa.Sm
open Go.RowKit
set_option linter.unusedVariables false

/-- the sum's bytes -/
def dig (S : W8) : List Int := wb S.a ++ (wb S.b ++ (wb S.c ++ (wb S.d ++ (wb S.e ++ (wb S.f ++ (wb S.g ++ wb S.h))))))
theorem dig_length (S : W8) : (dig S).length = 32 := by simp [dig, wb_length]
theorem dig_word (S : W8) (k j : Nat) (hk : k < 8) (hj : j < 4) : (dig S).getD (4 * k + j) 0 = (wb (S.at k)).getD j 0 := by
  rcases (show k = 0 ∨ k = 1 ∨ k = 2 ∨ k = 3 ∨ k = 4 ∨ k = 5 ∨ k = 6 ∨ k = 7 from by omega) with rfl | rfl | rfl | rfl | rfl | rfl | rfl | rfl <;>
  rcases (show j = 0 ∨ j = 1 ∨ j = 2 ∨ j = 3 from by omega) with rfl | rfl | rfl | rfl <;> rfl

def z73 : List Value := uv (List.replicate 8 0) ++ (bv (List.replicate 64 0) ++ [.int .u64 0])
set_option maxRecDepth 100000 in
theorem zero32 (w : World) : (zeroValue 37).run Try.prog w = .ok (.agg (bv (List.replicate 32 0)).toArray) w := by rfl
set_option maxRecDepth 100000 in
theorem zeroH (w : World) : (zeroValue 167).run Try.prog w = .ok (.agg z73.toArray) w := by rfl

/-- a row's cells as a list -/
def cellsOf (F : Nat → Value) (n : Nat) : List Value := (List.range n).map F
theorem cellsOf_length (F : Nat → Value) (n : Nat) : (cellsOf F n).length = n := by simp [cellsOf]
theorem row_range {w : World} {b : Nat} {t : TypeId} {n : Nat} {F : Nat → Value} (h : w.rowIs b t n F) (o k : Nat) (hk : o + k ≤ n) : w.rangeAt b o (cellsOf (fun j => F (o + j)) k) := by
  intro j v hj
  have hl := (List.getElem?_eq_some_iff.1 hj).1
  rw [cellsOf_length] at hl
  rw [h.cell (by omega), ← hj]
  simp [cellsOf, hl]
theorem hs_one {B : List Int} {F : Nat → Value} (h : Hs B F) : ∀ j, j < 73 → (F j).oneCell' = true := by
  obtain ⟨S, x, hc, -, -⟩ := h
  intro j hj
  by_cases h1 : j < 8
  · rw [hc.st j h1]; rfl
  · by_cases h2 : j < 72
    · have := hc.wt (j - 8) (by omega)
      rw [show 8 + (j - 8) = j by omega] at this
      rw [this]; rfl
    · rw [show j = 72 by omega, hc.cnt]; rfl
theorem row_new_list (w : World) (l : List Value) (t : TypeId) : (w.alloc (.cells l.toArray t)).rowIs w.heap.size t l.length (fun i => l.getD i undef) := by
  have h := row_new w l.toArray t
  rw [List.size_toArray] at h
  exact h.congr fun i hi => by simp

theorem row_zeros (w : World) (N : Nat) (t : TypeId) : (w.alloc (.cells (bv (List.replicate N 0)).toArray t)).rowIs w.heap.size t N (fun _ => .int .u8 0) := by
  have h := row_new w (bv (List.replicate N 0)).toArray t
  have hl : (bv (List.replicate N 0)).toArray.size = N := by simp [bv]
  rw [hl] at h
  exact h.congr fun i hi => zeros_at N i hi

set_option maxRecDepth 100000 in
set_option maxHeartbeats 4000000 in
theorem sum_any (H tH : Nat) (F : Nat → Value) (B : List Int) (w : World) (hrow : w.rowIs H tH 73 F) (hs : Hs B F) (n : Nat) (hnB : B.length = n) (hn : n ≤ 1099511627776) (hB : ∀ i, i < n → 0 ≤ B.getD i 0 ∧ B.getD i 0 ≤ 255) :
    Calls Try.prog 93 #[.pointer (some ⟨H, 0, none⟩)] w fun e w' => e = .returned (.agg (bv (dig (run (B ++ pad n)))).toArray) ∧ Below w.heap.size w w' := by
  have hz1 := zero32
  have hz2 := zeroH
  generalize hZ1 : (bv (List.replicate 32 0)).toArray = Z1 at *
  generalize hZ2 : z73.toArray = Z2 at *
  have HZ1 := Lib.hid hZ1
  have HZ2 := Lib.hid hZ2
  clear hZ1 hZ2
  have HRow := Lib.hid hrow
  have HS := Lib.hid hs
  have HB := Lib.hid hB
  have hHlt := hrow.lt
  clear hrow hs hB
  go_enter Try.func93, Try.ntmps93
  go_upto_region 1 with (fail)
  have HB1 := Lib.hid ((Below.refl w.heap.size w).alloc (Nat.le_refl _) (.cells Z1 37))
  have HO1 : Hid ((w.alloc (.cells Z1 37)).rowIs w.heap.size 37 32 (fun _ => .int .u8 0)) := Lib.hid (by
    rw [← HZ1.out]
    exact row_zeros w 32 _)
  have HR1 := Lib.hid (World.rowIs.alloc HRow.out (.cells Z1 37))
  have hs1 := al_lt w (.cells Z1 37)
  generalize w.alloc (.cells Z1 37) = w1 at *
  generalize hO : w.heap.size = O at *
  have HO := Lib.hid hO
  clear hO
  have HCR := Lib.hid (row_range HR1.out 0 73 (Nat.le_refl _))
  have HCL : Hid ((Try.prog.info? 167).map (·.size) = some (cellsOf (fun j => F (0 + j)) 73).length) := Lib.hid (by rw [cellsOf_length]; kernel_rfl)
  have HC1 : Hid ((cellsOf (fun j => F (0 + j)) 73).toArray.all (·.oneCell') = true) := Lib.hid (all_oneCell_toArray (fun v hv => by
    obtain ⟨j, hj, rfl⟩ := List.mem_map.1 hv
    rw [Nat.zero_add]
    exact hs_one HS.out j (List.mem_range.1 hj)))
  have HZs : Hid (73 ≤ Z2.size) := Lib.hid (by rw [← HZ2.out]; simp [z73, uv, bv])
  have HCg : Hid (∀ j, j < 73 → (cellsOf (fun j => F (0 + j)) 73).getD j undef = F j) := Lib.hid (fun j hj => by simp [cellsOf, hj])
  have HCn : Hid ((cellsOf (fun j => F (0 + j)) 73).length = 73) := Lib.hid (cellsOf_length _ _)
  have HCL2 : Hid ((Try.prog.info? 167).map (·.size) = some (cellsOf (fun j => F (0 + j)) 73).toArray.size) := Lib.hid (by rw [List.size_toArray]; exact HCL.out)
  generalize cellsOf (fun j => F (0 + j)) 73 = CL at *
  go_upto_region 2 with (first
    | (refine wpList_load_mid rfl _ _ rfl H 0 rfl CL _ HCR.out Try.underlying167 rfl HCL.out ?_)
    | (refine wpList_store_mid rfl _ _ _ rfl w1.heap.size 0 CL.toArray rfl rfl (there_new w1 Z2 _ _ (by rw [List.size_toArray, HCn.out]; exact HZs.out)) HCL2.out HC1.out ?_))
  have hOL : O ≠ w1.heap.size := by omega
  have hsL := al_lt w1 (.cells Z2 167)
  have HL2 : Hid (((w1.alloc (.cells Z2 167)).setCells w1.heap.size 0 CL).rowIs w1.heap.size 167 73 F) := Lib.hid (by
    have h0 := row_new w1 Z2 167
    have hz : Z2.size = 73 := by rw [← HZ2.out]; simp [z73, uv, bv]
    rw [hz] at h0
    refine (row_lay h0 0 CL).congr fun j hj => ?_
    rw [layF, HCn.out, if_pos (by omega), Nat.sub_zero]
    exact HCg.out j hj)
  have HO2 : Hid (((w1.alloc (.cells Z2 167)).setCells w1.heap.size 0 CL).rowIs O 37 32 (fun _ => .int .u8 0)) := Lib.hid (row_apart hOL CL 0 _ (World.rowIs.alloc HO1.out _))
  have HB2 : Hid (Below O w ((w1.alloc (.cells Z2 167)).setCells w1.heap.size 0 CL)) := Lib.hid (below_setCells _ (by omega) CL 0 _ (HB1.out.alloc (by omega) _))
  clear HO1 HR1 HCR HCL HCL2 HC1 HCg HCn HZs HB1 hz2 HZ2 HRow
  generalize (w1.alloc (.cells Z2 167)).setCells w1.heap.size 0 CL = w2 at *
  have hOw1 : O < w1.heap.size := hs1
  generalize hL : w1.heap.size = L at *
  clear hsL hL hs1
  have HFn := Lib.hid (finish_any L 167 F B w2 HL2.out HS.out n hnB hn HB.out)
  have hLw := HL2.out.lt
  go_wp2_with fail
  refine HFn.out.mono ?_
  rintro e w3 ⟨rfl, ⟨F', hf, hs'⟩, hg⟩
  have HL3 := Lib.hid hf
  have HO3 := Lib.hid (World.rowIs.of_block HO2.out (hg.block O HO2.out.lt (fun e => hOL (Option.some.inj e))))
  have HB3 := Lib.hid (HB2.out.grown hg (by omega) (fun k hk => by
    have := Option.some.inj hk
    omega))
  obtain ⟨S, x, hc, hS, -⟩ := hs'
  have hpad : B ++ pad n ≠ [] := by
    intro h
    have := congrArg List.length h
    rw [List.length_append, pad_length] at this
    have := padN_ge n
    simp at *
    omega
  have hSe := hS hpad
  have hS' := hSe
  have HSe := Lib.hid hSe
  obtain ⟨a, b, c, d, e, f, g, h⟩ := S
  have H8c : Hid (w3.rangeAt L 0 [.int .u32 a, .int .u32 b, .int .u32 c, .int .u32 d, .int .u32 e, .int .u32 f, .int .u32 g, .int .u32 h]) := Lib.hid (fun j v hj => by
    have hj8 : j < 8 := (List.getElem?_eq_some_iff.1 hj).1
    rw [Nat.zero_add, HL3.out.cell (by omega), hc.st j hj8, ← hj]
    rcases (show j = 0 ∨ j = 1 ∨ j = 2 ∨ j = 3 ∨ j = 4 ∨ j = 5 ∨ j = 6 ∨ j = 7 from by omega) with rfl | rfl | rfl | rfl | rfl | rfl | rfl | rfl <;> rfl)
  have H8s : Hid ((Try.prog.info? 158).map (·.size) = some ([.int .u32 a, .int .u32 b, .int .u32 c, .int .u32 d, .int .u32 e, .int .u32 f, .int .u32 g, .int .u32 h] : List Value).length) := Lib.hid (by kernel_rfl)
  have HP4 : Hid ((w3.alloc (.cells Z1 37)).rowIs w3.heap.size 37 32 (fun _ => .int .u8 0)) := Lib.hid (by rw [← HZ1.out]; exact row_zeros w3 32 _)
  have HO4 := Lib.hid (World.rowIs.alloc HO3.out (.cells Z1 37))
  have HB4 := Lib.hid (HB3.out.alloc (HO.out ▸ HB3.out.size) (.cells Z1 37))
  have H8d := Lib.hid (World.rangeAt_alloc H8c.out (.cells Z1 37))
  have hO3 := HO3.out.lt
  have hran : Hid (∀ k, k < 8 → 0 ≤ W8.at ⟨a, b, c, d, e, f, g, h⟩ k ∧ W8.at ⟨a, b, c, d, e, f, g, h⟩ k < 4294967296) := Lib.hid (fun k _ => by rw [HSe.out]; exact run_ok _ k)
  clear hf hg hc hS hSe HFn HL2 HO2 HB2 HL3 HO3 HB3 H8c hpad
  go_upto_region 4 with (fail)
  generalize w3.alloc (.cells Z1 37) = w4 at *
  generalize hP : w3.heap.size = P at *
  have hOP : O ≠ P := by omega
  have hPw : Hid (O ≤ P) := Lib.hid (by omega)
  clear hP
  go_wp2_with (refine wpList_load_mid rfl _ _ rfl L 0 rfl _ _ H8d.out Try.underlying158 rfl H8s.out ?_)
  have HD0 : Hid (∀ j, j < 4 * 0 → (fun _ => Value.int .u8 0 : Nat → Value) j = .int .u8 ((dig ⟨a, b, c, d, e, f, g, h⟩).getD j 0)) := Lib.hid (fun j hj => absurd hj (by omega))
  clear H8d H8s hz1 HZ1 HS HB HSe
  have HSe := Lib.hid hS'
  clear hS'
  go_loopw [13] (fun i wr => ∃ (k : Nat) (G : Nat → Value), i = .int .i64 k ∧ k ≤ 8 ∧ Hid (wr.rowIs P 37 32 G) ∧ Hid (∀ j, j < 4 * k → G j = .int .u8 ((dig ⟨a, b, c, d, e, f, g, h⟩).getD j 0)) ∧ Hid (wr.rowIs O 37 32 (fun _ => .int .u8 0)) ∧ Hid (Below O w wr)) (fun i _ => 8 - (intOf i).toNat)
  case atStart => exact ⟨0, _, rfl, by omega, HP4, HD0, HO4, HB4⟩
  case round =>
    clear HP4 HD0 HO4 HB4
    obtain ⟨k, G, rfl, hk, HP, HD, HO4, HB4⟩ := hrel
    by_cases hk8 : k < 8
    · have hidx := idx8 a b c d e f g h k hk8
      have k0 : (0 : Int) ≤ (k : Int) := by omega
      have k1 : (k : Int) < 8 := by omega
      obtain ⟨q, hq⟩ : ∃ q, q = 4 * k := ⟨_, rfl⟩
      have iq : 4 * (k : Int) = (q : Int) := by omega
      have wq : IntKind.i64.wrap (q : Int) = (q : Int) := by simp [IntKind.wrap, IntKind.signed, IntKind.bits]; omega
      have q0 : (0 : Int) ≤ (q : Int) := by omega
      have q1 : (q : Int) ≤ 32 := by omega
      have hne : ¬ 32 = q := by omega
      have HX := Lib.hid (put_any P 37 q (32 - q) (32 - q) 32 G (W8.at ⟨a, b, c, d, e, f, g, h⟩ k) wr (hran.out k hk8).1 (hran.out k hk8).2 (by omega) HP.out (by omega))
      have HP2 := Lib.hid (row_lay HP.out q (bv (wb (W8.at ⟨a, b, c, d, e, f, g, h⟩ k))))
      have HO5 := Lib.hid (row_apart hOP (bv (wb (W8.at ⟨a, b, c, d, e, f, g, h⟩ k))) q wr HO4.out)
      have HB5 := Lib.hid (below_setCells P hPw.out (bv (wb (W8.at ⟨a, b, c, d, e, f, g, h⟩ k))) q wr HB4.out)
      have HD2 : Hid (∀ j, j < 4 * (k + 1) → layF G q (bv (wb (W8.at ⟨a, b, c, d, e, f, g, h⟩ k))) j = .int .u8 ((dig ⟨a, b, c, d, e, f, g, h⟩).getD j 0)) := Lib.hid (fun j hj => by
        have hl : (bv (wb (W8.at ⟨a, b, c, d, e, f, g, h⟩ k))).length = 4 := rfl
        rw [layF, hl, hq]
        by_cases h1 : 4 * k ≤ j ∧ j < 4 * k + 4
        · rw [if_pos h1]
          have h2 := dig_word ⟨a, b, c, d, e, f, g, h⟩ k (j - 4 * k) hk8 (by omega)
          rw [show 4 * k + (j - 4 * k) = j by omega] at h2
          rw [h2]
          have hw : (wb (W8.at ⟨a, b, c, d, e, f, g, h⟩ k)).length = 4 := rfl
          simp [bv, List.getD, hw, show j - 4 * k < 4 by omega]
        · rw [if_neg h1]
          exact HD.out j (by omega))
      clear hq
      clear HP HD HO4 HB4
      generalize W8.at ⟨a, b, c, d, e, f, g, h⟩ k = X at *
      go_wp2_with fail
      refine HX.out.mono ?_
      rintro e w' ⟨rfl, rfl⟩
      clear HX
      go_wp2_with fail
      go_roundw
      case rel => exact ⟨k + 1, _, by go_num, by omega, HP2, HD2, HO5, HB5⟩
      case measure => simp [intOf]; omega
    · have hk2 : k = 8 := by omega
      have hdl := dig_length ⟨a, b, c, d, e, f, g, h⟩
      have hD2 : ∀ j, j < 32 → G j = .int .u8 ((dig ⟨a, b, c, d, e, f, g, h⟩).getD j 0) := fun j hj => HD.out j (by omega)
      have HRg : Hid (wr.rangeAt P 0 (bv (dig ⟨a, b, c, d, e, f, g, h⟩))) := Lib.hid (fun j v hj => by
        have hl := (List.getElem?_eq_some_iff.1 hj).1
        rw [bv, List.length_map, hdl] at hl
        rw [Nat.zero_add, HP.out.cell hl, hD2 j hl, ← hj]
        simp [bv, hdl, hl])
      have hbl : (bv (dig ⟨a, b, c, d, e, f, g, h⟩)).length = 32 := by rw [bv, List.length_map, hdl]
      have HSz : Hid ((Try.prog.info? 37).map (·.size) = some (bv (dig ⟨a, b, c, d, e, f, g, h⟩)).length) := Lib.hid (by rw [hbl]; kernel_rfl)
      have HSz2 : Hid ((Try.prog.info? 37).map (·.size) = some (bv (dig ⟨a, b, c, d, e, f, g, h⟩)).toArray.size) := Lib.hid (by rw [List.size_toArray]; exact HSz.out)
      have HOne := Lib.hid (all_oneCell_toArray (bv_one (dig ⟨a, b, c, d, e, f, g, h⟩)))
      have HTh : Hid (wr.there O 0 (bv (dig ⟨a, b, c, d, e, f, g, h⟩)).toArray.size) := Lib.hid (fun j hj => by
        rw [List.size_toArray, hbl] at hj
        rw [Nat.zero_add]
        exact ⟨by rw [HO4.out.cell hj]; rfl, HO4.out.frozen _⟩)
      have HSt := Lib.hid (row_stored HO4.out (bv (dig ⟨a, b, c, d, e, f, g, h⟩)) hbl)
      have HBf := Lib.hid (below_setCells O (Nat.le_refl _) (bv (dig ⟨a, b, c, d, e, f, g, h⟩)) 0 wr HB4.out)
      have HDg : Hid (bv (dig ⟨a, b, c, d, e, f, g, h⟩) = bv (dig (run (B ++ pad n)))) := Lib.hid (by rw [HSe.out])
      have hkd : decide ((k : Int) < 8) = false := by simp; omega
      clear HD HP HO4 HB4 hD2 hdl hbl hk2
      generalize bv (dig ⟨a, b, c, d, e, f, g, h⟩) = DL at *
      go_wp2_with (first
        | (refine wpList_load_mid rfl _ _ rfl P 0 rfl DL _ HRg.out Try.underlying37 rfl HSz.out ?_)
        | (refine wpList_store_mid rfl _ _ _ rfl O 0 DL.toArray rfl rfl HTh.out HSz2.out HOne.out ?_))
      refine bodyPost_ret (results_cell_row rfl _ _ O _ _ _ _ rfl HSt.out Try.underlying37 rfl HSz2.out) rfl ?_
      refine ⟨by rw [HDg.out], ?_⟩
      rw [HO.out]
      exact HBf.out
end Go.Proofs.Ytmcmapgllaopmaa.Sm
end

section
/- New, Write, Of. -/
namespace Go.Proofs.Ytmcmapgllaopmaa.Sm
open Go.RowKit
set_option linter.unusedVariables false

/-- the sum of bytes -/
def sha (D : List Int) : List Int := dig (run (D ++ pad D.length))

/-- a row of bytes that does not lie in block H -/
def RowOk (w : World) (H : Nat) (A : Option Addr) (m C : Nat) (l : List Int) : Prop :=
  l.length = m ∧ m ≤ C ∧ C ≤ 9223372036854775807 ∧ (∀ i, i < m → 0 ≤ l.getD i 0 ∧ l.getD i 0 ≤ 255) ∧ ∃ g o, (0 < m → A = some ⟨g, o, none⟩) ∧ g ≠ H ∧ g < w.heap.size ∧ ∀ i, i < m → w.cell? ⟨g, o + i, none⟩ = some (.int .u8 (l.getD i 0))

theorem RowOk.grown {w w' : World} {H : Nat} {A : Option Addr} {m C : Nat} {l : List Int} (h : RowOk w H A m C l) (hG : w.grownBy w' (some H)) : RowOk w' H A m C l := by
  obtain ⟨h1, h2, h3, h4, g, o, h5, h6, h7, h8⟩ := h
  exact ⟨h1, h2, h3, h4, g, o, h5, h6, Nat.lt_of_lt_of_le h7 hG.size, fun i hi => by rw [src_cell hG h7 h6, h8 i hi]⟩

/-- the bytes of the first k rows -/
def rowsTo (lf : Nat → List Int) (k : Nat) : List Int := (List.range k).flatMap lf
theorem rowsTo_succ (lf : Nat → List Int) (k : Nat) : rowsTo lf (k + 1) = rowsTo lf k ++ lf k := by simp [rowsTo, List.range_succ]

theorem getD_append_range (a b : List Int) (ha : ∀ i, i < a.length → 0 ≤ a.getD i 0 ∧ a.getD i 0 ≤ 255) (hb : ∀ i, i < b.length → 0 ≤ b.getD i 0 ∧ b.getD i 0 ≤ 255) : ∀ i, i < (a ++ b).length → 0 ≤ (a ++ b).getD i 0 ∧ (a ++ b).getD i 0 ≤ 255 := by
  intro i hi
  rw [List.length_append] at hi
  simp only [List.getD] at *
  by_cases h : i < a.length
  · rw [List.getElem?_append_left h]; exact ha i h
  · rw [List.getElem?_append_right (by omega)]; exact hb (i - a.length) (by omega)

set_option maxRecDepth 100000 in
set_option maxHeartbeats 2000000 in
theorem write_any (H tH : Nat) (F : Nat → Value) (B : List Int) (Ar : Option Addr) (gr orr N Cr : Nat) (Af : Nat → Option Addr) (mf Cf : Nat → Nat) (lf : Nat → List Int) (w : World) (hrow : w.rowIs H tH 73 F) (hs : Hs B F)
    (hN : N ≤ Cr) (hCr : Cr ≤ 9223372036854775807) (hbig : N ≤ 10000000) (hAr : 0 < N → Ar = some ⟨gr, orr, none⟩) (hgr : gr ≠ H) (hgw : gr < w.heap.size) (hcell : ∀ i, i < N → w.cell? ⟨gr, orr + i, none⟩ = some (.slice (Af i) (mf i) (Cf i)))
    (hok : ∀ i, i < N → RowOk w H (Af i) (mf i) (Cf i) (lf i)) (htot : ∀ k, k ≤ N → B.length + (rowsTo lf k).length ≤ 1099511627776) (hB : ∀ i, i < B.length → 0 ≤ B.getD i 0 ∧ B.getD i 0 ≤ 255) :
    Calls Try.prog 92 #[.pointer (some ⟨H, 0, none⟩), .slice Ar N Cr] w fun e w' => e = .returned (.tuple #[]) ∧ (∃ F', w'.rowIs H tH 73 F' ∧ Hs (B ++ rowsTo lf N) F') ∧ w.grownBy w' (some H) ∧ ∀ i, i < (B ++ rowsTo lf N).length → 0 ≤ (B ++ rowsTo lf N).getD i 0 ∧ (B ++ rowsTo lf N).getD i 0 ≤ 255 := by
  have HRow := Lib.hid hrow
  have HS := Lib.hid (show Hs (B ++ rowsTo lf 0) F by simpa [rowsTo] using hs)
  have HCe := Lib.hid hcell
  have HOk := Lib.hid hok
  have HTot := Lib.hid htot
  have HB0 := Lib.hid (show ∀ i, i < (B ++ rowsTo lf 0).length → 0 ≤ (B ++ rowsTo lf 0).getD i 0 ∧ (B ++ rowsTo lf 0).getD i 0 ≤ 255 by simpa [rowsTo] using hB)
  have HA := Lib.hid hAr
  have HG0 := Lib.hid (World.grownBy.refl w (some H))
  clear hrow hs hcell hok htot hB hAr
  go_enter Try.func92, Try.ntmps92
  go_wp2_with fail
  go_loopw [8] (fun i wr => ∃ (k : Nat) (F : Nat → Value), i = .int .i64 k ∧ k ≤ N ∧ Hid (wr.rowIs H tH 73 F) ∧ Hid (Hs (B ++ rowsTo lf k) F) ∧ Hid (w.grownBy wr (some H)) ∧ Hid (∀ i, i < (B ++ rowsTo lf k).length → 0 ≤ (B ++ rowsTo lf k).getD i 0 ∧ (B ++ rowsTo lf k).getD i 0 ≤ 255)) (fun i _ => N - (intOf i).toNat)
  case atStart => exact ⟨0, F, rfl, Nat.zero_le _, HRow, HS, HG0, HB0⟩
  case round =>
    clear HRow HS HG0 HB0
    obtain ⟨k, F, rfl, hk, HRow, HS, HG, HB⟩ := hrel
    by_cases hlt : k < N
    · have hAe := HA.out (by omega)
      subst hAe
      have hc : wr.cell? ⟨gr, orr + k, none⟩ = some (.slice (Af k) (mf k) (Cf k)) := by rw [src_cell HG.out hgw hgr, HCe.out k hlt]
      obtain ⟨h1, h2, h3, h4, g, o, h5, h6, h7, h8⟩ := (HOk.out k hlt).grown HG.out
      have ht := HTot.out (k + 1) (by omega)
      rw [rowsTo_succ, List.length_append, h1] at ht
      have HT := Lib.hid (take_any H tH F (B ++ rowsTo lf k) (Af k) g o (mf k) (Cf k) (lf k) wr HRow.out HS.out _ rfl (by rw [List.length_append]; omega) h1 h2 h3 h5 h6 h7 h4 HB.out h8)
      have HB2 := Lib.hid (getD_append_range (B ++ rowsTo lf k) (lf k) HB.out (by rw [h1]; exact h4))
      rw [List.append_assoc, ← rowsTo_succ] at HT HB2
      have k0 : (0 : Int) ≤ (k : Int) := by omega
      clear h1 h2 h3 h4 h5 h6 h7 h8 ht HRow HS HB
      go_wp2_with fail
      refine HT.out.mono ?_
      rintro e w' ⟨rfl, ⟨F', hf, hs'⟩, hg⟩
      have HR2 := Lib.hid hf
      have HS2 := Lib.hid hs'
      have HG2 := Lib.hid (grown_trans HG.out hg)
      clear hf hs' hg HT HG hc
      go_wp2_with fail
      go_roundw
      case rel => exact ⟨k + 1, F', by go_num, by omega, HR2, HS2, HG2, HB2⟩
      case measure => simp [intOf]; omega
    · have e : k = N := by omega
      subst e
      go_wp2_with fail
      go_end0
      exact ⟨rfl, ⟨F, HRow.out, HS.out⟩, HG.out, HB.out⟩

set_option maxRecDepth 100000 in
theorem new_any (w : World) : Calls Try.prog 91 #[] w fun e w' => e = .returned (.pointer (some ⟨w.heap.size, 0, none⟩)) ∧ w' = w.alloc (.cells z73.toArray 167) := by
  have hz2 := zeroH
  generalize hZ2 : z73.toArray = Z2 at *
  clear hZ2
  have hcl : (Value.agg Z2).cells = Z2 := rfl
  go_enter Try.func91, Try.ntmps91
  go_wp2
  go_ret
  exact ⟨rfl, rfl⟩

theorem bv_zero (N j : Nat) (h : j < N) : (bv (List.replicate N 0))[j]? = some (.int .u8 0) := by simp [bv, h]
theorem hs_new (w : World) : ∃ F, (w.alloc (.cells z73.toArray 167)).rowIs w.heap.size 167 73 F ∧ Hs [] F := by
  have h := row_new w z73.toArray 167
  have hz : z73.toArray.size = 73 := by simp [z73, uv, bv]
  rw [hz] at h
  refine ⟨_, h, ⟨0, 0, 0, 0, 0, 0, 0, 0⟩, fun _ => 0, ⟨fun j hj => ?_, fun j hj => ?_, ?_⟩, fun hne => absurd rfl hne, fun j hj => absurd hj (by simp)⟩
  · rcases (show j = 0 ∨ j = 1 ∨ j = 2 ∨ j = 3 ∨ j = 4 ∨ j = 5 ∨ j = 6 ∨ j = 7 from by omega) with rfl | rfl | rfl | rfl | rfl | rfl | rfl | rfl <;> rfl
  · have e : z73.toArray.getD (8 + j) undef = z73.getD (8 + j) undef := by simp
    have hA : (uv (List.replicate 8 0)).length = 8 := by rw [uv, List.length_map, List.length_replicate]
    have hB : (bv (List.replicate 64 0)).length = 64 := by rw [bv, List.length_map, List.length_replicate]
    rw [e, z73, List.getD, List.getElem?_append_right (by omega), hA, show 8 + j - 8 = j by omega, List.getElem?_append_left (by omega), bv_zero 64 j hj]
    rfl
  · rfl

set_option maxRecDepth 100000 in
set_option maxHeartbeats 2000000 in
theorem of_any (Ar : Option Addr) (gr orr N Cr : Nat) (Af : Nat → Option Addr) (mf Cf : Nat → Nat) (lf : Nat → List Int) (w : World)
    (hN : N ≤ Cr) (hCr : Cr ≤ 9223372036854775807) (hbig : N ≤ 10000000) (hAr : 0 < N → Ar = some ⟨gr, orr, none⟩) (hgw : 0 < N → gr < w.heap.size) (hcell : ∀ i, i < N → w.cell? ⟨gr, orr + i, none⟩ = some (.slice (Af i) (mf i) (Cf i)))
    (hok : ∀ i, i < N → RowOk w w.heap.size (Af i) (mf i) (Cf i) (lf i)) (htot : ∀ k, k ≤ N → (rowsTo lf k).length ≤ 1099511627776) :
    Calls Try.prog 59 #[.slice Ar N Cr] w fun e w' => e = .returned (.agg (bv (sha (rowsTo lf N))).toArray) ∧ Below w.heap.size w w' := by
  obtain ⟨g2, hg2, hA2, hc2⟩ : ∃ g2, g2 ≤ w.heap.size ∧ (0 < N → Ar = some ⟨g2, orr, none⟩) ∧ (∀ i, i < N → g2 < w.heap.size ∧ w.cell? ⟨g2, orr + i, none⟩ = some (.slice (Af i) (mf i) (Cf i))) := by
    by_cases h : 0 < N
    · exact ⟨gr, Nat.le_of_lt (hgw h), hAr, fun i hi => ⟨hgw h, hcell i hi⟩⟩
    · exact ⟨w.heap.size, Nat.le_refl _, fun h' => absurd h' h, fun i hi => absurd hi (by omega)⟩
  clear hcell hAr hgw
  have hz1 := zero32
  generalize hZ1 : (bv (List.replicate 32 0)).toArray = Z1 at *
  have HZ1 := Lib.hid hZ1
  clear hZ1
  have HCe := Lib.hid hc2
  have HOk := Lib.hid hok
  have HTot := Lib.hid htot
  have HA := Lib.hid hA2
  clear hc2 hok htot hA2
  go_enter Try.func59, Try.ntmps59
  go_upto_region 1 with (fail)
  have HB1 := Lib.hid ((Below.refl w.heap.size w).alloc (Nat.le_refl _) (.cells Z1 37))
  have HO1 : Hid ((w.alloc (.cells Z1 37)).rowIs w.heap.size 37 32 (fun _ => .int .u8 0)) := Lib.hid (by
    rw [← HZ1.out]
    exact row_zeros w 32 _)
  have hs1 := al_lt w (.cells Z1 37)
  generalize w.alloc (.cells Z1 37) = w1 at *
  generalize hO : w.heap.size = O at *
  have HO := Lib.hid hO
  clear hO
  clear hz1 HZ1
  go_wp2_with fail
  refine (new_any w1).mono ?_
  rintro e w2 ⟨rfl, hw2⟩
  obtain ⟨F, hr, hs⟩ := hs_new w1
  rw [← hw2] at hr
  have HO2 : Hid (w2.rowIs O 37 32 (fun _ => .int .u8 0)) := Lib.hid (by rw [hw2]; exact World.rowIs.alloc HO1.out _)
  have HB2 : Hid (Below O w w2) := Lib.hid (by rw [hw2]; exact HB1.out.alloc (by omega) _)
  have hs2 : w1.heap.size < w2.heap.size := by rw [hw2]; exact al_lt w1 _
  generalize hH : w1.heap.size = H at *
  have HW := Lib.hid (write_any H 167 F [] Ar g2 orr N Cr Af mf Cf lf w2 hr hs hN hCr hbig HA.out (by omega) (by omega) (fun i hi => by
    have h := HCe.out i hi
    rw [HB2.out.cell (p := ⟨g2, orr + i, none⟩) (by have hOw := HO.out; show g2 < O; omega)]; exact h.2) (fun i hi => by
    obtain ⟨h1, h2, h3, h4, g, o, h5, h6, h7, h8⟩ := HOk.out i hi
    have hOw := HO.out
    exact ⟨h1, h2, h3, h4, g, o, h5, by omega, by omega, fun j hj => by rw [HB2.out.cell (p := ⟨g, o + j, none⟩) (by show g < O; omega)]; exact h8 j hj⟩) (fun k hk => by simpa using HTot.out k hk) (fun i hi => absurd hi (by simp)))
  rw [List.nil_append] at HW
  clear hr hs hH hw2 HO1 HB1
  go_wp2_with fail
  refine HW.out.mono ?_
  rintro e w3 ⟨rfl, ⟨F', hf, hs'⟩, hg, hB⟩
  have HO3 := Lib.hid (World.rowIs.of_block HO2.out (hg.block O (by omega) (fun e => by have := Option.some.inj e; omega)))
  have HB3 := Lib.hid (HB2.out.grown hg (by omega) (fun k hk => by
    have := Option.some.inj hk
    omega))
  have HSm := Lib.hid (sum_any H 167 F' (rowsTo lf N) w3 hf hs' _ rfl (HTot.out N (Nat.le_refl _)) hB)
  have hO3 := HO3.out.lt
  clear hf hs' hg hB HW HO2 HB2
  go_wp2_with fail
  refine HSm.out.mono ?_
  rintro e w4 ⟨rfl, hb4⟩
  have HO4 := Lib.hid (World.rowIs.of_block HO3.out (hb4.block O hO3))
  have HB4 := Lib.hid (HB3.out.trans (hb4.mono (by omega)))
  have hdl := dig_length (run (rowsTo lf N ++ pad (rowsTo lf N).length))
  have HDg : Hid (bv (dig (run (rowsTo lf N ++ pad (rowsTo lf N).length))) = bv (sha (rowsTo lf N))) := Lib.hid rfl
  have hbl : (bv (dig (run (rowsTo lf N ++ pad (rowsTo lf N).length)))).length = 32 := by rw [bv, List.length_map, hdl]
  have HSz2 : Hid ((Try.prog.info? 37).map (·.size) = some (bv (dig (run (rowsTo lf N ++ pad (rowsTo lf N).length)))).toArray.size) := Lib.hid (by rw [List.size_toArray, hbl]; kernel_rfl)
  have HOne := Lib.hid (all_oneCell_toArray (bv_one (dig (run (rowsTo lf N ++ pad (rowsTo lf N).length)))))
  have HTh : Hid (w4.there O 0 (bv (dig (run (rowsTo lf N ++ pad (rowsTo lf N).length)))).toArray.size) := Lib.hid (fun j hj => by
    rw [List.size_toArray, hbl] at hj
    rw [Nat.zero_add]
    exact ⟨by rw [HO4.out.cell hj]; rfl, HO4.out.frozen _⟩)
  have HSt := Lib.hid (row_stored HO4.out (bv (dig (run (rowsTo lf N ++ pad (rowsTo lf N).length)))) hbl)
  have HBf := Lib.hid (below_setCells O (Nat.le_refl _) (bv (dig (run (rowsTo lf N ++ pad (rowsTo lf N).length)))) 0 w4 HB4.out)
  clear hb4 hdl hbl HSm HO3 HB3 HO4 HB4
  generalize bv (dig (run (rowsTo lf N ++ pad (rowsTo lf N).length))) = DL at *
  go_wp2_with (refine wpList_store_mid rfl _ _ _ rfl O 0 DL.toArray rfl rfl HTh.out HSz2.out HOne.out ?_)
  refine bodyPost_ret (results_cell_row rfl _ _ O _ _ _ _ rfl HSt.out Try.underlying37 rfl HSz2.out) rfl ?_
  refine ⟨by rw [HDg.out], ?_⟩
  rw [HO.out]
  exact HBf.out
end Go.Proofs.Ytmcmapgllaopmaa.Sm
end

section
/- The document's Num at eight bytes. -/
namespace Go.Proofs.Ytmcmapgllaopmaa.Sm
open Go.RowKit
set_option linter.unusedVariables false

theorem info5 : (Try.prog.info? 5).map (fun i => (i.zero, i.size, i.bytes)) = some (some (.int .u8 0), 1, 1) := by kernel_rfl

/-- a number's eight bytes -/
def be8 (x : Int) : List Int := [x / 72057594037927936, x / 281474976710656 % 256, x / 1099511627776 % 256, x / 4294967296 % 256, x / 16777216 % 256, x / 65536 % 256, x / 256 % 256, x % 256]
theorem div_div (x : Int) (c : Nat) : x / 4294967296 / (c : Int) = x / ((4294967296 * c : Nat) : Int) := by
  rw [show (((4294967296 * c : Nat) : Int)) = 4294967296 * (c : Int) from by simp]
  first
    | exact Int.ediv_ediv_eq_ediv_mul _ (by decide)
    | exact (Int.ediv_ediv_of_nonneg (by decide))
    | exact Int.ediv_ediv (by decide)
    | simp [Int.ediv_ediv]
theorem be8_wb (x : Int) (h0 : 0 ≤ x) (h1 : x < 18446744073709551616) : be8 x = wb (x / 4294967296) ++ wb (x % 4294967296) := by
  simp only [be8, wb, List.cons_append, List.nil_append, List.cons.injEq, and_true]
  have e1 : x / 4294967296 / 16777216 = x / 72057594037927936 := div_div x 16777216
  have e2 : x / 4294967296 / 65536 = x / 281474976710656 := div_div x 65536
  have e3 : x / 4294967296 / 256 = x / 1099511627776 := div_div x 256
  rw [e1, e2, e3]
  refine ⟨rfl, rfl, rfl, trivial, ?_, ?_, ?_, ?_⟩ <;> omega

set_option maxHeartbeats 1000000 in
theorem rnum_any (B : Nat) (v : Value) (n : Nat) (xs : List Value) (x : Int) (w : World) (hB : B ≤ w.heap.size) (hown : w.ownsRow B 5 1 v n xs) (hn : n ≤ 140737488300000) (h0 : 0 ≤ x) (h1 : x < 18446744073709551616) :
    Calls Try.prog 53 #[v, .int .i64 8, .int .u64 x] w (OwnRet B (n + 8) (xs ++ bv (be8 x)) w) := by
  obtain ⟨i0, hi, hz0, hz1, hz2⟩ := info_parts info5
  have HO := Lib.hid hown
  clear hown
  have HB := Lib.hid (Below.refl B w)
  go_enter Try.func53, Try.ntmps53
  go_wp2
  go_loopw [0, 7] (fun b i wr => ∃ (m q : Nat), m + q = 8 ∧ i = .int .i64 ((m : Int) - 1) ∧ Hid (wr.ownsRow B 5 1 b (n + q) (xs ++ bv ((be8 x).take q))) ∧ Hid (Below B w wr)) (fun _ i _ => (intOf i + 1).toNat)
  case atStart => exact ⟨8, 0, by omega, rfl, Lib.hid (by simpa [bv] using HO.out), HB⟩
  case round =>
    clear HB HO
    obtain ⟨m, q, hmq, rfl, HO, HB⟩ := hrel
    have hsz := HB.out.size
    rcases (show (m = 0 ∧ q = 8) ∨ (m = 1 ∧ q = 7) ∨ (m = 2 ∧ q = 6) ∨ (m = 3 ∧ q = 5) ∨ (m = 4 ∧ q = 4) ∨ (m = 5 ∧ q = 3) ∨ (m = 6 ∧ q = 2) ∨ (m = 7 ∧ q = 1) ∨ (m = 8 ∧ q = 0) from by omega) with ⟨rfl, rfl⟩ | ⟨rfl, rfl⟩ | ⟨rfl, rfl⟩ | ⟨rfl, rfl⟩ | ⟨rfl, rfl⟩ | ⟨rfl, rfl⟩ | ⟨rfl, rfl⟩ | ⟨rfl, rfl⟩ | ⟨rfl, rfl⟩
    · go_wp2
      go_ret
      exact ⟨_, rfl, HO.out, HB.out⟩
    · go_wp2_with (at_builtin; refine wpList_append_own _ rfl _ _ 23 rfl B 5 i0 (.int .u8 0) 1 1 Try.underlying23 hi hz0 hz1 hz2 rfl (by decide) _ _ _ rfl (HO.out.alloc _) ⟨wr.heap.size, 0, none⟩ 1 1 (bv [x % 256]) rfl rfl ?c1 (bv_one _) ?c3 ?c4 ?c5 ?_)
      case c1 => first | exact new_cells [x % 256] wr _ | (intro j u hj; simpa [bv] using hj)
      case c3 => unfold maxLen; omega
      case c4 => omega
      case c5 => first | omega | (simp; omega)
      intro v1 w1 ho hg hn2
      have HO1 : Hid (w1.ownsRow B 5 1 v1 (n + 8) (xs ++ bv ((be8 x).take 8))) := Lib.hid (own_eq ho (by simp [bv, be8]) (by omega))
      have HB1 := Lib.hid (HB.out.trans (((Below.refl B wr).alloc (by omega) _).trans (below_grown (by first | omega | (simp; omega)) (HO.out.alloc _) hg)))
      clear ho hg hn2 HO HB
      go_wp2
      go_roundw
      case rel => exact ⟨0, 8, by omega, rfl, HO1, HB1⟩
      case measure => simp [intOf]
    · go_wp2_with (at_builtin; refine wpList_append_own _ rfl _ _ 23 rfl B 5 i0 (.int .u8 0) 1 1 Try.underlying23 hi hz0 hz1 hz2 rfl (by decide) _ _ _ rfl (HO.out.alloc _) ⟨wr.heap.size, 0, none⟩ 1 1 (bv [x / 256 % 256]) rfl rfl ?c1 (bv_one _) ?c3 ?c4 ?c5 ?_)
      case c1 => first | exact new_cells [x / 256 % 256] wr _ | (intro j u hj; simpa [bv] using hj)
      case c3 => unfold maxLen; omega
      case c4 => omega
      case c5 => first | omega | (simp; omega)
      intro v1 w1 ho hg hn2
      have HO1 : Hid (w1.ownsRow B 5 1 v1 (n + 7) (xs ++ bv ((be8 x).take 7))) := Lib.hid (own_eq ho (by simp [bv, be8]) (by omega))
      have HB1 := Lib.hid (HB.out.trans (((Below.refl B wr).alloc (by omega) _).trans (below_grown (by first | omega | (simp; omega)) (HO.out.alloc _) hg)))
      clear ho hg hn2 HO HB
      go_wp2
      go_roundw
      case rel => exact ⟨1, 7, by omega, rfl, HO1, HB1⟩
      case measure => simp [intOf]
    · go_wp2_with (at_builtin; refine wpList_append_own _ rfl _ _ 23 rfl B 5 i0 (.int .u8 0) 1 1 Try.underlying23 hi hz0 hz1 hz2 rfl (by decide) _ _ _ rfl (HO.out.alloc _) ⟨wr.heap.size, 0, none⟩ 1 1 (bv [x / 65536 % 256]) rfl rfl ?c1 (bv_one _) ?c3 ?c4 ?c5 ?_)
      case c1 => first | exact new_cells [x / 65536 % 256] wr _ | (intro j u hj; simpa [bv] using hj)
      case c3 => unfold maxLen; omega
      case c4 => omega
      case c5 => first | omega | (simp; omega)
      intro v1 w1 ho hg hn2
      have HO1 : Hid (w1.ownsRow B 5 1 v1 (n + 6) (xs ++ bv ((be8 x).take 6))) := Lib.hid (own_eq ho (by simp [bv, be8]) (by omega))
      have HB1 := Lib.hid (HB.out.trans (((Below.refl B wr).alloc (by omega) _).trans (below_grown (by first | omega | (simp; omega)) (HO.out.alloc _) hg)))
      clear ho hg hn2 HO HB
      go_wp2
      go_roundw
      case rel => exact ⟨2, 6, by omega, rfl, HO1, HB1⟩
      case measure => simp [intOf]
    · go_wp2_with (at_builtin; refine wpList_append_own _ rfl _ _ 23 rfl B 5 i0 (.int .u8 0) 1 1 Try.underlying23 hi hz0 hz1 hz2 rfl (by decide) _ _ _ rfl (HO.out.alloc _) ⟨wr.heap.size, 0, none⟩ 1 1 (bv [x / 16777216 % 256]) rfl rfl ?c1 (bv_one _) ?c3 ?c4 ?c5 ?_)
      case c1 => first | exact new_cells [x / 16777216 % 256] wr _ | (intro j u hj; simpa [bv] using hj)
      case c3 => unfold maxLen; omega
      case c4 => omega
      case c5 => first | omega | (simp; omega)
      intro v1 w1 ho hg hn2
      have HO1 : Hid (w1.ownsRow B 5 1 v1 (n + 5) (xs ++ bv ((be8 x).take 5))) := Lib.hid (own_eq ho (by simp [bv, be8]) (by omega))
      have HB1 := Lib.hid (HB.out.trans (((Below.refl B wr).alloc (by omega) _).trans (below_grown (by first | omega | (simp; omega)) (HO.out.alloc _) hg)))
      clear ho hg hn2 HO HB
      go_wp2
      go_roundw
      case rel => exact ⟨3, 5, by omega, rfl, HO1, HB1⟩
      case measure => simp [intOf]
    · go_wp2_with (at_builtin; refine wpList_append_own _ rfl _ _ 23 rfl B 5 i0 (.int .u8 0) 1 1 Try.underlying23 hi hz0 hz1 hz2 rfl (by decide) _ _ _ rfl (HO.out.alloc _) ⟨wr.heap.size, 0, none⟩ 1 1 (bv [x / 4294967296 % 256]) rfl rfl ?c1 (bv_one _) ?c3 ?c4 ?c5 ?_)
      case c1 => first | exact new_cells [x / 4294967296 % 256] wr _ | (intro j u hj; simpa [bv] using hj)
      case c3 => unfold maxLen; omega
      case c4 => omega
      case c5 => first | omega | (simp; omega)
      intro v1 w1 ho hg hn2
      have HO1 : Hid (w1.ownsRow B 5 1 v1 (n + 4) (xs ++ bv ((be8 x).take 4))) := Lib.hid (own_eq ho (by simp [bv, be8]) (by omega))
      have HB1 := Lib.hid (HB.out.trans (((Below.refl B wr).alloc (by omega) _).trans (below_grown (by first | omega | (simp; omega)) (HO.out.alloc _) hg)))
      clear ho hg hn2 HO HB
      go_wp2
      go_roundw
      case rel => exact ⟨4, 4, by omega, rfl, HO1, HB1⟩
      case measure => simp [intOf]
    · go_wp2_with (at_builtin; refine wpList_append_own _ rfl _ _ 23 rfl B 5 i0 (.int .u8 0) 1 1 Try.underlying23 hi hz0 hz1 hz2 rfl (by decide) _ _ _ rfl (HO.out.alloc _) ⟨wr.heap.size, 0, none⟩ 1 1 (bv [x / 1099511627776 % 256]) rfl rfl ?c1 (bv_one _) ?c3 ?c4 ?c5 ?_)
      case c1 => first | exact new_cells [x / 1099511627776 % 256] wr _ | (intro j u hj; simpa [bv] using hj)
      case c3 => unfold maxLen; omega
      case c4 => omega
      case c5 => first | omega | (simp; omega)
      intro v1 w1 ho hg hn2
      have HO1 : Hid (w1.ownsRow B 5 1 v1 (n + 3) (xs ++ bv ((be8 x).take 3))) := Lib.hid (own_eq ho (by simp [bv, be8]) (by omega))
      have HB1 := Lib.hid (HB.out.trans (((Below.refl B wr).alloc (by omega) _).trans (below_grown (by first | omega | (simp; omega)) (HO.out.alloc _) hg)))
      clear ho hg hn2 HO HB
      go_wp2
      go_roundw
      case rel => exact ⟨5, 3, by omega, rfl, HO1, HB1⟩
      case measure => simp [intOf]
    · go_wp2_with (at_builtin; refine wpList_append_own _ rfl _ _ 23 rfl B 5 i0 (.int .u8 0) 1 1 Try.underlying23 hi hz0 hz1 hz2 rfl (by decide) _ _ _ rfl (HO.out.alloc _) ⟨wr.heap.size, 0, none⟩ 1 1 (bv [x / 281474976710656 % 256]) rfl rfl ?c1 (bv_one _) ?c3 ?c4 ?c5 ?_)
      case c1 => first | exact new_cells [x / 281474976710656 % 256] wr _ | (intro j u hj; simpa [bv] using hj)
      case c3 => unfold maxLen; omega
      case c4 => omega
      case c5 => first | omega | (simp; omega)
      intro v1 w1 ho hg hn2
      have HO1 : Hid (w1.ownsRow B 5 1 v1 (n + 2) (xs ++ bv ((be8 x).take 2))) := Lib.hid (own_eq ho (by simp [bv, be8]) (by omega))
      have HB1 := Lib.hid (HB.out.trans (((Below.refl B wr).alloc (by omega) _).trans (below_grown (by first | omega | (simp; omega)) (HO.out.alloc _) hg)))
      clear ho hg hn2 HO HB
      go_wp2
      go_roundw
      case rel => exact ⟨6, 2, by omega, rfl, HO1, HB1⟩
      case measure => simp [intOf]
    · go_wp2_with (at_builtin; refine wpList_append_own _ rfl _ _ 23 rfl B 5 i0 (.int .u8 0) 1 1 Try.underlying23 hi hz0 hz1 hz2 rfl (by decide) _ _ _ rfl (HO.out.alloc _) ⟨wr.heap.size, 0, none⟩ 1 1 (bv [x / 72057594037927936]) rfl rfl ?c1 (bv_one _) ?c3 ?c4 ?c5 ?_)
      case c1 => first | exact new_cells [x / 72057594037927936] wr _ | (intro j u hj; simpa [bv] using hj)
      case c3 => unfold maxLen; omega
      case c4 => omega
      case c5 => first | omega | (simp; omega)
      intro v1 w1 ho hg hn2
      have HO1 : Hid (w1.ownsRow B 5 1 v1 (n + 1) (xs ++ bv ((be8 x).take 1))) := Lib.hid (own_eq ho (by simp [bv, be8]) (by omega))
      have HB1 := Lib.hid (HB.out.trans (((Below.refl B wr).alloc (by omega) _).trans (below_grown (by first | omega | (simp; omega)) (HO.out.alloc _) hg)))
      clear ho hg hn2 HO HB
      go_wp2
      go_roundw
      case rel => exact ⟨7, 1, by omega, rfl, HO1, HB1⟩
      case measure => simp [intOf]
end Go.Proofs.Ytmcmapgllaopmaa.Sm
end

section
/- append of bytes that are read, behind a row of the call's own. -/
namespace Go.Proofs.Ytmcmapgllaopmaa.Sm
open Go.RowKit
set_option linter.unusedVariables false

/-- a slice of bytes that is read -/
structure RdB (w : World) (A : Option Addr) (n C : Nat) (l : List Int) : Prop where
  len : l.length = n
  cap : n ≤ C
  max : C ≤ 9223372036854775807
  big : n ≤ 140737488355328
  none : A = none → C = 0
  byte : ∀ i, i < n → 0 ≤ l.getD i 0 ∧ l.getD i 0 ≤ 255
  cell : ∀ x, A = some x → (0 < n → x.block < w.heap.size) ∧ ∀ i, i < n → w.cell? (x.add i) = some (.int .u8 (l.getD i 0))

theorem RdB.below {w w' : World} {A : Option Addr} {n C : Nat} {l : List Int} (h : RdB w A n C l) (hb : Below w.heap.size w w') : RdB w' A n C l :=
  ⟨h.len, h.cap, h.max, h.big, h.none, h.byte, fun x hx => by
    obtain ⟨h1, h2⟩ := h.cell x hx
    refine ⟨fun h0 => Nat.lt_of_lt_of_le (h1 h0) hb.size, fun i hi => ?_⟩
    rw [hb.cell (p := x.add i) (by have : (x.add i).block = x.block := by unfold Addr.add; split <;> rfl
                                   rw [this]; exact h1 (by omega))]
    exact h2 i hi⟩

theorem own_slice' {w : World} {B e sz n : Nat} {v : Value} {xs : List Value} (h : w.ownsRow B e sz v n xs) : ∃ A c, v = .slice A n c := by
  rcases h.2 with ⟨rfl, rfl⟩ | ⟨g, cap, cur, rfl, _⟩ <;> exact ⟨_, _, rfl⟩

theorem wpList_append_rd (w : World) {ops : Array Oper} {rest : List Oper} {o : Oper} {a : Act} {Q : Exit → Act → World → Prop} (hgd : o.guard = none) (s x : Operand)
    (ho : o.op = .call { callee := .builtin .append, args := #[s, x], argTypes := #[23, 23] })
    (B : Nat) (v : Value) (n : Nat) (d : List Int) (hs : a.eval s = v) (hown : w.ownsRow B 5 1 v n (bv d))
    (A : Option Addr) (m c : Nat) (l : List Int) (hx : a.eval x = .slice A m c) (hsl : RdB w A m c l)
    (hbytes : (n + m) * 1 ≤ 140737488355328) (hbase : B ≤ w.heap.size)
    (h : ∀ A' C' w', w'.ownsRow B 5 1 (.slice A' (n + m) C') (n + m) (bv (d ++ l)) → Below B w w' → wpList Try.prog ops Q rest (a.put o.dst (.slice A' (n + m) C')) w') :
    wpList Try.prog ops Q (o :: rest) a w := by
  refine wpList_plain hgd fun K hK => ?_
  obtain ⟨i0, hi, hz0, hz1, hz2⟩ := info_parts info5
  have key : ∃ A' C' w', (Builtin.append_ #[23, 23] o.type #[v, .slice A m c]).run Try.prog w = .ok (.slice A' (n + m) C') w' ∧ w'.ownsRow B 5 1 (.slice A' (n + m) C') (n + m) (bv (d ++ l)) ∧ Below B w w' := by
    cases A with
    | none =>
      have hc := hsl.none rfl
      have hm : m = 0 := by have := hsl.cap; omega
      subst hm hc
      obtain rfl : l = [] := List.eq_nil_of_length_eq_zero hsl.len
      obtain ⟨A', C', rfl⟩ := own_slice' hown
      refine ⟨A', C', w, run_append_owned_none (P := Try.prog) w B 23 o.type 5 i0 1 Try.underlying23 hi _ _ _ hown, ?_, Below.refl B w⟩
      rw [List.append_nil]
      exact hown
    | some y =>
      obtain ⟨-, hcc⟩ := hsl.cell y rfl
      have hll := hsl.len
      have hnw : ∀ j u, (bv l)[j]? = some u → w.cell? (y.add j) = some u := by
        intro j u hj
        have hj1 := (List.getElem?_eq_some_iff.1 hj).1
        rw [bv, List.length_map, hll] at hj1
        rw [hcc j hj1, ← hj]
        simp [bv, hll, hj1]
      obtain ⟨v', w', hr, h2, h3, h4⟩ := run_append_own (P := Try.prog) w B 23 o.type 5 i0 (.int .u8 0) 1 1 Try.underlying23 hi hz0 hz1 hz2 rfl (by decide) v n (bv d) hown y m c (bv l) (by rw [bv, List.length_map, hll]; omega) hnw (bv_one l) (by unfold maxLen; omega) hbytes hbase
      obtain ⟨A', C', rfl⟩ := own_slice' h2
      exact ⟨A', C', w', hr, by rw [show bv (d ++ l) = bv d ++ bv l from by simp [bv]]; exact h2, below_grown hbase hown h3⟩
  obtain ⟨A', C', w', hr, h2, h3⟩ := key
  unfold Oper.wp execOp
  simp only [ho, resolve, invoke, builtin, Sem.run_bind, Sem.run_pure, Result.andThen_ok, List.map_toArray, List.map_cons, List.map_nil, hs, hx, hr]
  exact hK _ _ (h A' C' w' h2 h3)

/-- []byte{} -/
theorem own_empty_u (w : World) (B : Nat) (h : B ≤ w.heap.size) : (w.alloc (.cells #[] 5)).ownsRow B 5 1 (.slice (some ⟨w.heap.size, 0, none⟩) 0 0) 0 (bv []) := by
  refine ⟨rfl, Or.inr ⟨w.heap.size, 0, #[], rfl, h, ?_, Nat.le_refl _, by unfold maxLen; omega, rfl, rfl⟩⟩
  show (w.heap.push _)[w.heap.size]? = _
  simp
end Go.Proofs.Ytmcmapgllaopmaa.Sm
end
