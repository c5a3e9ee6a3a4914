/- copy into the middle of a block; the first state. -/
import Derived.Test.YtgmcdkkjemjneaaSmMixC
import Derived.Laws.IdiomCopy
namespace Go.Proofs.Ytgmcdkkjemjneaa.Sm
open Go.RowKit
set_option linter.unusedVariables false

theorem wp_copy_mid {w : World} {o : Oper} {a : Act} {K : Act → World → Prop} {Q : Exit → Act → World → Prop} (d s : Operand)
    (ho : o.op = .call { callee := .builtin .copy, args := #[d, s], argTypes := #[24, 24] })
    (dp sp : Option Addr) (dLen dCap sLen sCap : Nat) (hd : a.eval d = .slice dp dLen dCap) (hs : a.eval s = .slice sp sLen sCap)
    (g off : Nat) (cs : List Value) (hn : cs.length = Nat.min sLen dLen)
    (hpos : 0 < cs.length → dp = some ⟨g, off, none⟩ ∧ ∃ ad, sp = some ad ∧ ∀ j v, cs[j]? = some v → w.cell? (ad.add j) = some v)
    (hc : ∀ j, j < cs.length → (w.cell? ⟨g, off + j, none⟩).isSome = true) (hf : ∀ j, j < cs.length → w.frozen? ⟨g, off + j, none⟩ = false) (h1 : ∀ v ∈ cs, v.oneCell' = true)
    (h : K (a.put o.dst (goInt cs.length)) (w.setCells g off cs)) : o.wp Try.prog a w K Q := by
  have hz : (Try.prog.info? 5).map (·.size) = some 1 := by kernel_rfl
  by_cases h0 : cs.length = 0
  · obtain rfl : cs = [] := List.eq_nil_of_length_eq_zero h0
    have hrun := run_copy_none (P := Try.prog) w 24 24 o.type 5 dp sp dLen dCap sLen sCap Try.underlying24 hz (by simpa using hn.symm)
    unfold Oper.wp
    simp [execOp, ho, resolve, invoke, builtin, hd, hs, hrun, Result.andThen]
    exact h
  · obtain ⟨rfl, ad, rfl, hsrc⟩ := hpos (by omega)
    have hrun := run_copy_cells (P := Try.prog) w 24 24 o.type 5 g off dLen dCap ad sLen sCap cs Try.underlying24 hz hn hsrc hc hf h1
    unfold Oper.wp
    simp [execOp, ho, resolve, invoke, builtin, hd, hs, hrun, Result.andThen]
    exact h

theorem wpList_copy_mid {w : World} {ops : Array Oper} {rest : List Oper} {o : Oper} {a : Act} {Q : Exit → Act → World → Prop} (hgd : o.guard = none) (d s : Operand)
    (ho : o.op = .call { callee := .builtin .copy, args := #[d, s], argTypes := #[24, 24] })
    (dp sp : Option Addr) (dLen dCap sLen sCap : Nat) (hd : a.eval d = .slice dp dLen dCap) (hs : a.eval s = .slice sp sLen sCap)
    (g off : Nat) (cs : List Value) (hn : cs.length = Nat.min sLen dLen)
    (hpos : 0 < cs.length → dp = some ⟨g, off, none⟩ ∧ ∃ ad, sp = some ad ∧ ∀ j v, cs[j]? = some v → w.cell? (ad.add j) = some v)
    (hc : ∀ j, j < cs.length → (w.cell? ⟨g, off + j, none⟩).isSome = true) (hf : ∀ j, j < cs.length → w.frozen? ⟨g, off + j, none⟩ = false) (h1 : ∀ v ∈ cs, v.oneCell' = true)
    (h : wpList Try.prog ops Q rest (a.put o.dst (goInt cs.length)) (w.setCells g off cs)) : wpList Try.prog ops Q (o :: rest) a w :=
  wpList_plain hgd fun _ hK => wp_copy_mid d s ho dp sp dLen dCap sLen sCap hd hs g off cs hn hpos hc hf h1 (hK _ _ h)

theorem step_copy_mid {w : World} {ops : Array Oper} {o : Oper} {a : Act} {K : Act → World → Prop} {Q : Exit → Act → World → Prop} {E : Prop} (hgd : o.guard = none) (d s : Operand)
    (ho : o.op = .call { callee := .builtin .copy, args := #[d, s], argTypes := #[24, 24] })
    (dp sp : Option Addr) (dLen dCap sLen sCap : Nat) (hd : a.eval d = .slice dp dLen dCap) (hs : a.eval s = .slice sp sLen sCap)
    (g off : Nat) (cs : List Value) (hn : cs.length = Nat.min sLen dLen)
    (hpos : 0 < cs.length → dp = some ⟨g, off, none⟩ ∧ ∃ ad, sp = some ad ∧ ∀ j v, cs[j]? = some v → w.cell? (ad.add j) = some v)
    (hc : ∀ j, j < cs.length → (w.cell? ⟨g, off + j, none⟩).isSome = true) (hf : ∀ j, j < cs.length → w.frozen? ⟨g, off + j, none⟩ = false) (h1 : ∀ v ∈ cs, v.oneCell' = true)
    (h : K (a.put o.dst (goInt cs.length)) (w.setCells g off cs)) : if Region.wanted o (yielded ops a.tmps) = true then Oper.wp Try.prog o a w K Q else E := by
  have hw : Region.wanted o (yielded ops a.tmps) = true := by simp [Region.wanted, hgd]
  rw [if_pos hw]
  exact wp_copy_mid d s ho dp sp dLen dCap sLen sCap hd hs g off cs hn hpos hc hf h1 h

/-- the first state's words -/
def ic : List Int := [1779033703, 3144134277, 1013904242, 2773480762, 1359893119, 2600822924, 528734635, 1541459225]
def init : W8 := ⟨1779033703, 3144134277, 1013904242, 2773480762, 1359893119, 2600822924, 528734635, 1541459225⟩
theorem init_ok : init.ok := by
  intro i
  unfold init W8.at
  split <;> decide
theorem init_at (j : Nat) (h : j < 8) : ic.getD j 0 = init.at j := by
  rcases (show j = 0 ∨ j = 1 ∨ j = 2 ∨ j = 3 ∨ j = 4 ∨ j = 5 ∨ j = 6 ∨ j = 7 from by omega) with rfl | rfl | rfl | rfl | rfl | rfl | rfl | rfl <;> rfl

set_option maxRecDepth 100000 in
theorem first_any (w : World) : Calls Try.prog 29 #[] w fun e w' => e = .returned (.agg (uv ic).toArray) ∧ Below w.heap.size w w' := by
  have H1 := Lib.hid (show (uv ic).toArray.all (·.oneCell') = true from all_oneCell_toArray (uv_one ic))
  have HS : Hid ((Try.prog.info? 49).map (·.size) = some (uv ic).toArray.size) := Lib.hid (by rw [List.size_toArray, uv, List.length_map]; kernel_rfl)
  go_enter Try.func29, Try.ntmps29
  go_wp2_with (refine wpList_store_mid rfl _ _ _ rfl w.heap.size 0 (uv ic).toArray rfl rfl (there_new w _ _ _ (Nat.le_refl 8)) HS.out H1.out ?_; generalize hX : World.setCells _ _ _ _ = wX; have HX := Lib.hid hX; clear hX)
  have hlen : (uv ic).length = 8 := by rw [uv, List.length_map]; rfl
  have hb : wX.heap[w.heap.size]? = some (.cells (uv ic).toArray 49 (0, 0)) := by
    rw [← HX.out]
    refine row_stored (row_new w _ _) (uv ic) ?_
    exact hlen
  have HB : Below w.heap.size w wX := by
    rw [← HX.out]
    exact below_setCells _ (Nat.le_refl _) _ _ _ ((Below.refl _ _).alloc (Nat.le_refl _) _)
  refine bodyPost_ret (results_cell_row rfl _ _ w.heap.size _ _ _ _ rfl hb Try.underlying49 rfl HS.out) rfl ?_
  exact ⟨rfl, HB⟩

/-! plain: blocks -/
theorem blocks_take (q : Nat) : ∀ (s : W8) (l m : List Int), 64 * q ≤ l.length → blocks kf q s (l ++ m) = blocks kf q s l := by
  induction q with
  | zero => intros; rfl
  | succ q ih =>
    intro s l m h
    rw [blocks, blocks, List.take_append_of_le_length (by omega), List.drop_append_of_le_length (by omega)]
    exact ih _ _ _ (by rw [List.length_drop]; omega)
theorem blocks_add (p : Nat) : ∀ (q : Nat) (s : W8) (a b : List Int), a.length = 64 * p → blocks kf (p + q) s (a ++ b) = blocks kf q (blocks kf p s a) b := by
  induction p with
  | zero =>
    intro q s a b h
    obtain rfl : a = [] := List.eq_nil_of_length_eq_zero (by omega)
    rw [Nat.zero_add]; rfl
  | succ p ih =>
    intro q s a b h
    rw [show p + 1 + q = (p + q) + 1 by omega, blocks, blocks, List.take_append_of_le_length (by omega), List.drop_append_of_le_length (by omega)]
    exact ih _ _ _ _ (by rw [List.length_drop]; omega)
theorem blocks_ok (q : Nat) : ∀ (s : W8) (l : List Int), s.ok → (blocks kf q s l).ok := by
  induction q with
  | zero => intro s l h; exact h
  | succ q ih => intro s l h; exact ih _ _ (mixin_ok _ _)

/-- the state behind bytes: as many blocks as are whole -/
def run (B : List Int) : W8 := blocks kf (B.length / 64) init B
theorem run_ok (B : List Int) : (run B).ok := blocks_ok _ _ _ init_ok
/-- more bytes: those that waited with them -/
theorem run_more (B l : List Int) : run (B ++ l) = blocks kf ((B.length % 64 + l.length) / 64) (run B) (B.drop (64 * (B.length / 64)) ++ l) := by
  have e : B ++ l = B.take (64 * (B.length / 64)) ++ (B.drop (64 * (B.length / 64)) ++ l) := by rw [← List.append_assoc, List.take_append_drop]
  have hl : (B.take (64 * (B.length / 64))).length = 64 * (B.length / 64) := by rw [List.length_take]; omega
  have hq : (B ++ l).length / 64 = B.length / 64 + (B.length % 64 + l.length) / 64 := by rw [List.length_append]; omega
  rw [run, hq, e, blocks_add _ _ _ _ _ hl]
  congr 1
  rw [run]
  have h := blocks_take (B.length / 64) init (B.take (64 * (B.length / 64))) (B.drop (64 * (B.length / 64))) (by omega)
  rw [List.take_append_drop] at h
  exact h.symm

/-! the Hash, told by its bytes -/
structure Hc (F : Nat → Value) (S : W8) (x : Nat → Int) (c : Nat) : Prop where
  st : ∀ j, j < 8 → F j = .int .u32 (S.at j)
  wt : ∀ j, j < 64 → F (8 + j) = .int .u8 (x j)
  cnt : F 72 = .int .u64 c
/-- the bytes that wait -/
def Wt (B : List Int) (x : Nat → Int) : Prop := ∀ j, j < B.length % 64 → x j = B.getD (64 * (B.length / 64) + j) 0
/-- the Hash stands behind the bytes B -/
def Hs (B : List Int) (F : Nat → Value) : Prop := ∃ S x, Hc F S x B.length ∧ (B ≠ [] → S = run B) ∧ Wt B x

/-- bytes laid over the waiting ones -/
def layF (F : Nat → Value) (o : Nat) (vs : List Value) : Nat → Value := fun j => if o ≤ j ∧ j < o + vs.length then vs.getD (j - o) undef else F j

theorem row_lay {w : World} {b : Nat} {t : TypeId} {n : Nat} {F : Nat → Value} (h : w.rowIs b t n F) (o : Nat) (vs : List Value) : (w.setCells b o vs).rowIs b t n (layF F o vs) := row_setCells b t n vs o w F h

theorem grown_setCells {a : World} {H : Nat} : ∀ (vs : List Value) (o : Nat) (w : World), a.grownBy w (some H) → a.grownBy (w.setCells H o vs) (some H)
  | [], _, _, h => h
  | v :: vs, o, w, h => grown_setCells vs (o + 1) _ ⟨h.os, h.tape, h.output, by simpa [World.setCell] using h.size, fun i hi hne => (Below.heap_setCell w ⟨H, o, none⟩ v i (fun e => hne (by rw [e]))).trans (h.block i hi hne)⟩


theorem Hc.set72 {F : Nat → Value} {S : W8} {x : Nat → Int} {c : Nat} (h : Hc F S x c) (c' : Nat) : Hc (fun j => if j = 72 then .int .u64 c' else F j) S x c' :=
  ⟨fun j hj => by show (if j = 72 then _ else F j) = _; rw [if_neg (by omega), h.st j hj], fun j hj => by show (if 8 + j = 72 then _ else F (8 + j)) = _; rw [if_neg (by omega), h.wt j hj], by show (if 72 = 72 then _ else _) = _; rw [if_pos rfl]⟩
theorem Hc.state {F : Nat → Value} {S : W8} {x : Nat → Int} {c : Nat} (h : Hc F S x c) (T : W8) : Hc (stF F T) T x c :=
  ⟨fun j hj => by rw [stF, if_pos hj], fun j hj => by rw [stF, if_neg (by omega), h.wt j hj], by rw [stF, if_neg (by omega), h.cnt]⟩
theorem Hc.lay {F : Nat → Value} {S : W8} {x : Nat → Int} {c : Nat} (h : Hc F S x c) (o : Nat) (l : List Int) (ho : o + l.length ≤ 64) : Hc (layF F (8 + o) (bv l)) S (fun j => if o ≤ j ∧ j < o + l.length then l.getD (j - o) 0 else x j) c := by
  have hl : (bv l).length = l.length := by simp [bv]
  refine ⟨fun j hj => ?_, fun j hj => ?_, ?_⟩
  · rw [layF, if_neg (by omega), h.st j hj]
  · show layF F (8 + o) (bv l) (8 + j) = .int .u8 (if o ≤ j ∧ j < o + l.length then l.getD (j - o) 0 else x j)
    rw [layF, hl]
    by_cases e : o ≤ j ∧ j < o + l.length
    · rw [if_pos (by omega), if_pos e, show 8 + j - (8 + o) = j - o by omega]
      simp [bv, show j - o < l.length by omega]
    · rw [if_neg (by omega), if_neg e, h.wt j hj]
  · rw [layF, if_neg (by omega), h.cnt]
theorem Hc.first {F : Nat → Value} {S : W8} {x : Nat → Int} {c : Nat} (h : Hc F S x c) : Hc (layF F 0 (uv ic)) init x c := by
  have hl : (uv ic).length = 8 := by rw [uv, List.length_map]; rfl
  refine ⟨fun j hj => ?_, fun j hj => ?_, ?_⟩
  · rw [layF, if_pos (by omega), Nat.sub_zero, ← init_at j hj]
    have : j < ic.length := hj
    simp [uv, this]
  · rw [layF, if_neg (by omega), h.wt j hj]
  · rw [layF, if_neg (by omega), h.cnt]

theorem src_cell {w w' : World} {H g : Nat} (hG : w.grownBy w' (some H)) (hg : g < w.heap.size) (hgH : g ≠ H) (a : Nat) : w'.cell? ⟨g, a, none⟩ = w.cell? ⟨g, a, none⟩ := World.cell?_of_block (w := w) (hG.block g hg (fun e => hgH (Option.some.inj e)))

/-- what a copy into the waiting bytes asks -/
structure Cp (w : World) (H off : Nat) (A : Option Addr) (CS : List Value) : Prop where
  pos : 0 < CS.length → (some ⟨H, off, none⟩ : Option Addr) = some ⟨H, off, none⟩ ∧ ∃ ad, A = some ad ∧ ∀ j v, CS[j]? = some v → w.cell? (ad.add j) = some v
  here : ∀ j, j < CS.length → (w.cell? ⟨H, off + j, none⟩).isSome = true
  free : ∀ j, j < CS.length → w.frozen? ⟨H, off + j, none⟩ = false
  one : ∀ v ∈ CS, v.oneCell' = true

theorem Cp.mk' {w0 w : World} {H tH off g o k : Nat} {F : Nat → Value} {A : Option Addr} {l : List Int} (hrow : w.rowIs H tH 73 F) (hG : w0.grownBy w (some H)) (hg : g < w0.heap.size) (hgH : g ≠ H) (hoff : off + k ≤ 73) (hl : l.length = k) (hA : 0 < k → A = some ⟨g, o, none⟩) (hc : ∀ i, i < k → w0.cell? ⟨g, o + i, none⟩ = some (.int .u8 (l.getD i 0))) : Cp w H off A (bv l) := by
  have hlen : (bv l).length = k := by simp [bv, hl]
  refine ⟨fun h => ⟨rfl, ⟨g, o, none⟩, hA (by omega), fun j v hj => ?_⟩, fun j hj => ?_, fun j hj => hrow.frozen _, bv_one l⟩
  · have hj2 := (List.getElem?_eq_some_iff.1 hj).1
    rw [hlen] at hj2
    rw [Addr.add_mid, src_cell hG hg hgH, hc j hj2, ← hj]
    simp [bv, hl, hj2]
  · rw [hrow.cell (by omega)]; rfl

/-- bytes that only wait -/
theorem hs_wait {B l : List Int} {F : Nat → Value} {x : Nat → Int} {n m r : Nat} (hn : B.length = n) (hm : l.length = m) (hr : r = n % 64) (hk : r + m < 64) (hW : Wt B x)
    (hc : Hc F (run B) (fun j => if r ≤ j ∧ j < r + l.length then l.getD (j - r) 0 else x j) (n + m)) : Hs (B ++ l) F := by
  have hl : (B ++ l).length = n + m := by rw [List.length_append, hn, hm]
  refine ⟨run B, _, hl ▸ hc, fun _ => ?_, ?_⟩
  · rw [run_more, show (B.length % 64 + l.length) / 64 = 0 by omega]; rfl
  · intro j hj
    rw [hl] at hj
    have e1 : (n + m) / 64 = n / 64 := by omega
    rw [hl, e1]
    show (if r ≤ j ∧ j < r + l.length then l.getD (j - r) 0 else x j) = _
    by_cases h : r ≤ j
    · rw [if_pos ⟨h, by omega⟩]
      simp only [List.getD]
      rw [List.getElem?_append_right (by omega), show 64 * (n / 64) + j - B.length = j - r by omega]
    · rw [if_neg (by omega), hW j (by omega), hn]
      simp only [List.getD]
      rw [List.getElem?_append_left (by omega)]

/-- the waiting block is full -/
theorem full_block {B l : List Int} {x : Nat → Int} {n m r : Nat} (hn : B.length = n) (hm : l.length = m) (hr : r = n % 64) (hk : 64 ≤ r + m) (hW : Wt B x) (i : Nat) (hi : i < 64) :
    (if r ≤ i ∧ i < r + (l.take (64 - r)).length then (l.take (64 - r)).getD (i - r) 0 else x i) = (B.drop (64 * (n / 64)) ++ l.take (64 - r)).getD i 0 := by
  have hd : (B.drop (64 * (n / 64))).length = r := by rw [List.length_drop]; omega
  have ht : (l.take (64 - r)).length = 64 - r := by rw [List.length_take]; omega
  simp only [List.getD]
  by_cases h : r ≤ i
  · rw [if_pos ⟨h, by omega⟩, List.getElem?_append_right (by omega), hd]
  · rw [if_neg (by omega), List.getElem?_append_left (by omega), List.getElem?_drop]
    have := hW i (by omega)
    rw [hn] at this
    simpa [List.getD] using this
theorem run_full {B l : List Int} {n m r : Nat} (hn : B.length = n) (hm : l.length = m) (hr : r = n % 64) (hk : 64 ≤ r + m) : blocks kf (64 / 64) (run B) (B.drop (64 * (n / 64)) ++ l.take (64 - r)) = run (B ++ l.take (64 - r)) := by
  have ht : (l.take (64 - r)).length = 64 - r := by rw [List.length_take]; omega
  rw [run_more, ht, hn, show (n % 64 + (64 - r)) / 64 = 64 / 64 by omega]

/-- the end: whole blocks, and what waits -/
theorem hs_end {B l : List Int} {F : Nat → Value} {x : Nat → Int} {n m : Nat} (hB : B.length % 64 = 0) (hm : l.length = m) (hn : n = B.length + m)
    (hc : Hc F (blocks kf ((m - m % 64) / 64) (run B) (l.take (m - m % 64))) (fun j => if 0 ≤ j ∧ j < 0 + (l.drop (m - m % 64)).length then (l.drop (m - m % 64)).getD (j - 0) 0 else x j) n) : Hs (B ++ l) F := by
  have hl : (B ++ l).length = n := by rw [List.length_append, hm, hn]
  refine ⟨_, _, hl ▸ hc, fun _ => ?_, ?_⟩
  · rw [run_more, hm, hB, show B.drop (64 * (B.length / 64)) = [] from List.drop_eq_nil_of_le (by omega), List.nil_append, Nat.zero_add, show m / 64 = (m - m % 64) / 64 by omega]
    have h := blocks_take ((m - m % 64) / 64) (run B) (l.take (m - m % 64)) (l.drop (m - m % 64)) (by rw [List.length_take]; omega)
    rw [List.take_append_drop] at h
    exact h.symm
  · intro j hj
    rw [hl] at hj
    have hd : (l.drop (m - m % 64)).length = m % 64 := by rw [List.length_drop]; omega
    show (if 0 ≤ j ∧ j < 0 + (l.drop (m - m % 64)).length then (l.drop (m - m % 64)).getD (j - 0) 0 else x j) = _
    rw [if_pos ⟨Nat.zero_le _, by omega⟩, hl]
    simp only [List.getD, Nat.sub_zero]
    rw [List.getElem?_append_right (by omega), List.getElem?_drop, show m - m % 64 + j = 64 * (n / 64) + j - B.length by omega]

end Go.Proofs.Ytgmcdkkjemjneaa.Sm
