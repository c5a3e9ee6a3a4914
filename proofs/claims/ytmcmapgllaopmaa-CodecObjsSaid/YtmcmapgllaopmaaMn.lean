/- Texts of one's own, merged: SmROf0, SmROfP, SmROfQ, SmROfR, SmROfS, SmROfT, SmROfV, SmROfU. -/
import Derived.Test.YtmcmapgllaopmaaMm
import Derived.StillTailTactics

section
/- What stands while the document's Of works. -/
namespace Go.Proofs.Ytmcmapgllaopmaa.Sm
open Go.RowKit
set_option linter.unusedVariables false

set_option maxRecDepth 100000 in
theorem zero48 (w : World) : (zeroValue 157).run Try.prog w = .ok (.agg (uv (List.replicate 64 0)).toArray) w := by rfl
set_option maxRecDepth 100000 in
theorem zero49 (w : World) : (zeroValue 158).run Try.prog w = .ok (.agg (uv (List.replicate 8 0)).toArray) w := by rfl
theorem uv_len (l : List Int) : (uv l).length = l.length := by simp [uv]
/-- an array that is made and filled at once -/
theorem row_filled (w : World) (z vs : List Value) (t : TypeId) (n : Nat) (hz : z.length = n) (hv : vs.length = n) : ((w.alloc (.cells z.toArray t)).setCells w.heap.size 0 vs).rowIs w.heap.size t n (fun i => vs.getD i undef) := by
  have h := row_new_list w z t
  rw [hz] at h
  refine (row_lay h 0 vs).congr fun j hj => ?_
  rw [layF, hv, if_pos (by omega), Nat.sub_zero]
theorem below_filled (w : World) (z vs : List Value) (t : TypeId) : Below w.heap.size w ((w.alloc (.cells z.toArray t)).setCells w.heap.size 0 vs) :=
  below_setCells _ (Nat.le_refl _) _ _ _ ((Below.refl _ _).alloc (Nat.le_refl _) _)

def sF (S : W8) : Nat → Value := fun i => .int .u32 (S.at i)
/-- what stands while the document's Of works: the result's row, the constants, the state -/
structure Rf (w wr : World) (O KB HB MB : Nat) (F : Nat → Value) : Prop where
  rowO : wr.rowIs O 37 32 (fun _ => .int .u8 0)
  rowK : wr.rowIs KB 157 64 (fun i => .int .u32 (kf i))
  rowH : wr.rowIs HB 158 8 F
  bel : Below O w wr
  hO : O < MB
  hK : KB < MB
  hH : HB < MB
  hOH : O < HB
  hKH : KB ≠ HB
  sz : MB ≤ wr.heap.size
theorem Rf.below {w wr wr' : World} {O KB HB MB : Nat} {F : Nat → Value} (h : Rf w wr O KB HB MB F) (hb : Below MB wr wr') : Rf w wr' O KB HB MB F :=
  ⟨h.rowO.of_block (hb.block O h.hO), h.rowK.of_block (hb.block KB h.hK), h.rowH.of_block (hb.block HB h.hH), h.bel.trans (hb.mono (Nat.le_of_lt h.hO)), h.hO, h.hK, h.hH, h.hOH, h.hKH, Nat.le_trans h.sz hb.size⟩
theorem pad_stop (n k : Nat) (h : k < padN n - 9) : (n + 1 + k) % 64 ≠ 56 := by
  unfold padN at h
  split at h <;> omega
theorem pad_end (n : Nat) : (n + 1 + (padN n - 9)) % 64 = 56 := by
  unfold padN
  split <;> omega

theorem Rf.same {w wr wr' : World} {O KB HB MB : Nat} {F : Nat → Value} (h : Rf w wr O KB HB MB F) (e1 : wr'.heap = wr.heap) (e2 : wr'.os = wr.os) (e3 : wr'.tape = wr.tape) (e4 : wr'.output = wr.output) : Rf w wr' O KB HB MB F :=
  ⟨h.rowO.of_block (by rw [e1]), h.rowK.of_block (by rw [e1]), h.rowH.of_block (by rw [e1]), ⟨e2.trans h.bel.os, e3.trans h.bel.tape, e4.trans h.bel.output, by rw [e1]; exact h.bel.size, fun i hi => by rw [e1]; exact h.bel.block i hi⟩, h.hO, h.hK, h.hH, h.hOH, h.hKH, by rw [e1]; exact h.sz⟩

/-- .. while it works over the blocks -/
structure Bk (w wr : World) (O KB HB MB WB g L : Nat) (P : List Int) (F fW : Nat → Value) : Prop where
  rf : Rf w wr O KB HB MB F
  rowW : wr.rowIs WB 157 64 fW
  byte : ∀ i, i < L → wr.cell? ⟨g, i, none⟩ = some (.int .u8 (P.getD i 0))
  hW : MB ≤ WB
  hg : MB ≤ g
  hgW : g ≠ WB
  hgl : g < wr.heap.size
theorem cell_same {wr wr' : World} (e1 : wr'.heap = wr.heap) (a : Addr) : wr'.cell? a = wr.cell? a := by
  unfold World.cell?; rw [e1]
theorem Bk.same {w wr wr' : World} {O KB HB MB WB g L : Nat} {P : List Int} {F fW : Nat → Value} (h : Bk w wr O KB HB MB WB g L P F fW) (e1 : wr'.heap = wr.heap) (e2 : wr'.os = wr.os) (e3 : wr'.tape = wr.tape) (e4 : wr'.output = wr.output) : Bk w wr' O KB HB MB WB g L P F fW :=
  ⟨h.rf.same e1 e2 e3 e4, h.rowW.of_block (by rw [e1]), fun i hi => by rw [cell_same e1]; exact h.byte i hi, h.hW, h.hg, h.hgW, by rw [e1]; exact h.hgl⟩
theorem Bk.setW {w wr : World} {O KB HB MB WB g L : Nat} {P : List Int} {F fW : Nat → Value} (h : Bk w wr O KB HB MB WB g L P F fW) (t : Nat) (v : Value) : Bk w (wr.setCell ⟨WB, t, none⟩ v) O KB HB MB WB g L P F (fun j => if j = t then v else fW j) :=
  ⟨h.rf.below ((Below.refl MB wr).setCell h.hW v), h.rowW.set t v, fun i hi => by
    rw [World.cell?_setCell_other _ _ _ _ (by simp only [ne_eq, Addr.mk.injEq, not_and]; intro e; exact absurd e.symm h.hgW)]; exact h.byte i hi, h.hW, h.hg, h.hgW, by simpa [World.setCell] using h.hgl⟩
theorem Bk.setV {w wr : World} {O KB HB MB WB g L : Nat} {P : List Int} {F fW : Nat → Value} (h : Bk w wr O KB HB MB WB g L P F fW) {V : Nat} (hV : WB < V) (hgV : g ≠ V) (t : Nat) (v : Value) : Bk w (wr.setCell ⟨V, t, none⟩ v) O KB HB MB WB g L P F fW :=
  ⟨h.rf.below ((Below.refl MB wr).setCell (Nat.le_of_lt (Nat.lt_of_le_of_lt h.hW hV)) v), h.rowW.setOther (Nat.ne_of_lt hV) v, fun i hi => by
    rw [World.cell?_setCell_other _ _ _ _ (by simp only [ne_eq, Addr.mk.injEq, not_and]; intro e; exact absurd e.symm hgV)]; exact h.byte i hi, h.hW, h.hg, h.hgW, by simpa [World.setCell] using h.hgl⟩
theorem Bk.setH {w wr : World} {O KB HB MB WB g L : Nat} {P : List Int} {F fW : Nat → Value} (h : Bk w wr O KB HB MB WB g L P F fW) (t : Nat) (v : Value) : Bk w (wr.setCell ⟨HB, t, none⟩ v) O KB HB MB WB g L P (fun j => if j = t then v else F j) fW :=
  ⟨⟨h.rf.rowO.setOther (Nat.ne_of_lt h.rf.hOH) v, h.rf.rowK.setOther h.rf.hKH v, h.rf.rowH.set t v, h.rf.bel.setCell (Nat.le_of_lt h.rf.hOH) v, h.rf.hO, h.rf.hK, h.rf.hH, h.rf.hOH, h.rf.hKH, by simpa [World.setCell] using h.rf.sz⟩,
   h.rowW.setOther (fun e => by have := h.hW; have := h.rf.hH; have : WB = HB := e; omega) v, fun i hi => by
    rw [World.cell?_setCell_other _ _ _ _ (by simp only [ne_eq, Addr.mk.injEq, not_and]; intro e; have := h.hg; have := h.rf.hH; omega)]; exact h.byte i hi, h.hW, h.hg, h.hgW, by simpa [World.setCell] using h.hgl⟩
theorem Bk.below {w wr wr' : World} {O KB HB MB WB g L : Nat} {P : List Int} {F fW : Nat → Value} (h : Bk w wr O KB HB MB WB g L P F fW) (hb : Below wr.heap.size wr wr') : Bk w wr' O KB HB MB WB g L P F fW :=
  ⟨h.rf.below (hb.mono h.rf.sz), h.rowW.of_block (hb.block WB h.rowW.lt), fun i hi => by
    rw [hb.cell (p := ⟨g, i, none⟩) h.hgl]; exact h.byte i hi, h.hW, h.hg, h.hgW, Nat.lt_of_lt_of_le h.hgl hb.size⟩

/-- .. while it works over the rounds of a block -/
structure Vk (w wr : World) (O KB HB MB WB g L : Nat) (P : List Int) (F fW : Nat → Value) (V : Nat) (T : W8) : Prop where
  bk : Bk w wr O KB HB MB WB g L P F fW
  rowV : wr.rowIs V 158 8 (sF T)
  hV : WB < V
  hgV : g ≠ V
theorem Vk.same {w wr wr' : World} {O KB HB MB WB g L V : Nat} {P : List Int} {F fW : Nat → Value} {T : W8} (h : Vk w wr O KB HB MB WB g L P F fW V T) (e1 : wr'.heap = wr.heap) (e2 : wr'.os = wr.os) (e3 : wr'.tape = wr.tape) (e4 : wr'.output = wr.output) : Vk w wr' O KB HB MB WB g L P F fW V T :=
  ⟨h.bk.same e1 e2 e3 e4, h.rowV.of_block (by rw [e1]), h.hV, h.hgV⟩
/-- eight cells of the rounds' state, laid one by one -/
def set8 (wr : World) (V : Nat) (a b c d e f g h : Int) : World :=
  (((((((wr.setCell ⟨V, 7, none⟩ (.int .u32 h)).setCell ⟨V, 6, none⟩ (.int .u32 g)).setCell ⟨V, 5, none⟩ (.int .u32 f)).setCell ⟨V, 4, none⟩ (.int .u32 e)).setCell ⟨V, 3, none⟩ (.int .u32 d)).setCell ⟨V, 2, none⟩ (.int .u32 c)).setCell ⟨V, 1, none⟩ (.int .u32 b)).setCell ⟨V, 0, none⟩ (.int .u32 a)
theorem Vk.set8 {w wr : World} {O KB HB MB WB g L V : Nat} {P : List Int} {F fW : Nat → Value} {T : W8} (k : Vk w wr O KB HB MB WB g L P F fW V T) (a b c d e f h i : Int) : Vk w (set8 wr V a b c d e f h i) O KB HB MB WB g L P F fW V ⟨a, b, c, d, e, f, h, i⟩ :=
  ⟨(((((((k.bk.setV k.hV k.hgV 7 _).setV k.hV k.hgV 6 _).setV k.hV k.hgV 5 _).setV k.hV k.hgV 4 _).setV k.hV k.hgV 3 _).setV k.hV k.hgV 2 _).setV k.hV k.hgV 1 _).setV k.hV k.hgV 0 _,
   ((((((((k.rowV.set 7 _).set 6 _).set 5 _).set 4 _).set 3 _).set 2 _).set 1 _).set 0 _).congr (fun j hj => by
    rcases (show j = 0 ∨ j = 1 ∨ j = 2 ∨ j = 3 ∨ j = 4 ∨ j = 5 ∨ j = 6 ∨ j = 7 from by omega) with rfl | rfl | rfl | rfl | rfl | rfl | rfl | rfl <;> rfl), k.hV, k.hgV⟩

theorem sched_alt (m : Nat → Int) (t : Nat) (h : 16 ≤ t) : sched m t = (sched m (t - 16) + small (sched m (t - 15)) 7 18 3 + sched m (t - 7) + small (sched m (t - 2)) 17 19 10) % 4294967296 := by
  rw [sched_high m t h]
  unfold ad
  generalize sched m (t - 16) = a
  generalize small (sched m (t - 15)) 7 18 3 = b
  generalize sched m (t - 7) = c
  generalize small (sched m (t - 2)) 17 19 10 = d
  omega
theorem step_alt (s : W8) (k w : Int) :
    step s k w = ⟨(s.h + big s.e 6 11 25 + ch s.e s.f s.g + k + w + big s.a 2 13 22 + maj s.a s.b s.c) % 4294967296, s.a, s.b, s.c, (s.d + (s.h + big s.e 6 11 25 + ch s.e s.f s.g + k + w)) % 4294967296, s.e, s.f, s.g⟩ := by
  unfold step ad
  simp only [W8.mk.injEq, and_true, Int.emod_add_emod, Int.add_emod_emod]
  generalize big s.e 6 11 25 = p
  generalize ch s.e s.f s.g = q
  generalize big s.a 2 13 22 = r
  generalize maj s.a s.b s.c = m
  congr 1
  omega
theorem pad_of (l : List Int) (n : Nat) : l ++ 128 :: List.replicate (padN n - 9) 0 ++ be8 (8 * (n : Int)) = l ++ pad n ∨ ¬ n ≤ 1000000000 := by
  by_cases h : n ≤ 1000000000
  · left
    rw [be8_wb _ (by omega) (by omega), pad, show 8 * (n : Int) = (n : Int) * 8 by omega]
    simp
  · right; exact h
theorem bytes_range (l : List Int) (n : Nat) (hl : l.length = n) (hn : n ≤ 1000000000) (hb : ∀ i, i < n → 0 ≤ l.getD i 0 ∧ l.getD i 0 ≤ 255) : ∀ i, i < n + padN n → 0 ≤ (l ++ pad n).getD i 0 ∧ (l ++ pad n).getD i 0 ≤ 255 := by
  intro i hi
  refine getD_append_range l (pad n) (by rw [hl]; exact hb) (fun j hj => pad_range n (by omega) j (by rw [pad_length] at hj; exact hj)) i ?_
  rw [List.length_append, pad_length, hl]; exact hi
theorem Vk.setH {w wr : World} {O KB HB MB WB g L V : Nat} {P : List Int} {F fW : Nat → Value} {T : W8} (k : Vk w wr O KB HB MB WB g L P F fW V T) (t : Nat) (v : Value) : Vk w (wr.setCell ⟨HB, t, none⟩ v) O KB HB MB WB g L P (fun j => if j = t then v else F j) fW V T :=
  ⟨k.bk.setH t v, k.rowV.setOther (fun e => by have := k.hV; have := k.bk.hW; have := k.bk.rf.hH; have : V = HB := e; omega) v, k.hV, k.hgV⟩
theorem Vk.congr {w wr : World} {O KB HB MB WB g L V : Nat} {P : List Int} {F F' fW : Nat → Value} {T : W8} (k : Vk w wr O KB HB MB WB g L P F fW V T) (h : ∀ j, j < 8 → F j = F' j) : Vk w wr O KB HB MB WB g L P F' fW V T :=
  ⟨⟨⟨k.bk.rf.rowO, k.bk.rf.rowK, k.bk.rf.rowH.congr h, k.bk.rf.bel, k.bk.rf.hO, k.bk.rf.hK, k.bk.rf.hH, k.bk.rf.hOH, k.bk.rf.hKH, k.bk.rf.sz⟩, k.bk.rowW, k.bk.byte, k.bk.hW, k.bk.hg, k.bk.hgW, k.bk.hgl⟩, k.rowV, k.hV, k.hgV⟩
theorem mix_step (S T : W8) (k : Nat) (j : Nat) : (if j = k then Value.int .u32 (ad (S.at k) (T.at k)) else mixF (sF S) S T k j) = mixF (sF S) S T (k + 1) j := by
  unfold mixF
  by_cases e : j = k
  · subst e
    rw [if_pos rfl, if_pos (by omega)]
  · rw [if_neg e]
    by_cases e2 : j < k
    · rw [if_pos e2, if_pos (by omega)]
    · rw [if_neg e2, if_neg (by omega)]
theorem mix_zero (S T : W8) (j : Nat) : sF S j = mixF (sF S) S T 0 j := by rw [mixF, if_neg (by omega)]
theorem mix_full (S T : W8) (j : Nat) (h : j < 8) : mixF (sF S) S T 8 j = sF (mixin S T) j := by rw [mixF_at, stF, if_pos h]; rfl
/-- the rounds' state is laid -/
theorem Vk.start {w wr : World} {O KB HB MB WB g L : Nat} {P : List Int} {F fW : Nat → Value} {S : W8} (k : Bk w wr O KB HB MB WB g L P F fW) (Z : Array Value) (hz : Z.size = 8) (CL : List Value) (hc : CL = cellsOf (sF S) 8) :
    Vk w ((wr.alloc (.cells Z 158)).setCells wr.heap.size 0 CL) O KB HB MB WB g L P F fW wr.heap.size S := by
  subst hc
  refine ⟨k.below (below_setCells _ (Nat.le_refl _) _ _ _ ((Below.refl _ _).alloc (Nat.le_refl _) _)), ?_, k.rowW.lt, Nat.ne_of_lt k.hgl⟩
  have h := row_new wr Z 158
  rw [hz] at h
  refine (row_lay h 0 _).congr fun j hj => ?_
  rw [layF, cellsOf_length, if_pos (by omega), Nat.sub_zero]
  simp [cellsOf, hj]
theorem rblocks_cut (P : List Int) (L a : Nat) (h : 64 ≤ L - a) (S : W8) : blocks kf ((L - a) / 64) S (P.drop a) = blocks kf ((L - (a + 64)) / 64) (block kf S ((P.drop a).take 64)) (P.drop (a + 64)) := by
  have e : (L - a) / 64 = (L - (a + 64)) / 64 + 1 := by omega
  rw [e, blocks, List.drop_drop]
end Go.Proofs.Ytmcmapgllaopmaa.Sm
end

section
/- The document's Of, cut into pieces. -/
namespace Go.Proofs.Ytmcmapgllaopmaa.Sm
open Go.RowKit
set_option linter.unusedVariables false

def blockOf (k : Nat) : Code → Option Code
  | .block n c => if n = k then some (.block n c) else blockOf k c
  | .seq a b => match blockOf k a with
    | some c => some c
    | none => blockOf k b
  | .loop c => blockOf k c
  | .scope c => blockOf k c
  | .cond _ a b => match blockOf k a with
    | some c => some c
    | none => blockOf k b
  | _ => none
/-- what a piece needs of the numbers -/
structure Nm (L C a : Nat) (P : List Int) : Prop where
  aL : a + 64 ≤ L
  big : L ≤ 1000000200
  cap : L ≤ C
  rng : ∀ i, i < L → 0 ≤ P.getD i 0 ∧ P.getD i 0 ≤ 255

noncomputable def words_code : Code := (Try.f60.body.bind (blockOf 4)).getD .skip
set_option maxRecDepth 1000000 in
set_option maxHeartbeats 4000000 in
theorem words (wr : World) {u0 u1 u2 u3 u4 u9 u10 u11 u12 u13 u14 u15 u16 u17 u18 u19 u20 u21 u22 u23 u24 u25 u26 u27 u28 u29 u30 u31 u32 u33 u34 u35 u36 u37 u38 u39 u40 u41 u42 u43 u44 u45 u46 u47 u48 u49 u50 u51 u52 u53 u54 u55 u56 u57 u58 u59 u60 u61 u62 u63 u64 u65 u66 u67 u68 u69 u70 u71 u72 u73 u74 u75 u76 u77 u78 u79 u80 u81 u82 u83 u84 u85 u86 u87 u88 u89 u90 u91 u92 u93 u94 u95 u96 u97 u98 u99 u100 u101 u102 u103 u104 u105 u106 u107 u108 u109 u110 u111 u112 u113 u114 u115 u116 u117 u118 u119 u120 u121 u122 u123 u124 u125 u126 u127 u128 u129 u130 u131 u132 u133 u134 u135 u136 u137 u138 u139 u140 u141 u142 u143 u144 u145 u146 u147 u148 u149 u150 u151 u152 u153 u154 u155 u156 u157 u158 u159 u160 u161 u162 u163 u164 u165 u166 u167 u168 u169 u170 u171 u172 u173 u174 u175 u176 u177 u178 u179 u180 u181 u182 u183 u184 u185 u186 u187 u188 u189 u190 u191 u192 u193 u194 u195 u196 u197 u198 u199 u200 u201 u202 u203 u204 u205 u206 u207 u208 u209 u210 u211 u212 u213 u214 u215 u216 u217 u218 u219 u220 u221 u222 u223 u224 u225 u226 u227 u228 u229 u230 u231 u232 u233 u234 u235 u236 u237 u238 u239 u240 u241 u242 u243 u244 u245 u246 u247 u248 u249 u250 u251 u252 u253 u254 u255 u256 u257 u258 u259 u260 u261 u262 u263 u264 u265 u266 u267 u268 u269 u270 u271 u272 u273 u274 u275 u276 : Value} {w : World} {O KB HB MB WB g L C a : Nat} {P : List Int} {F fW : Nat → Value} (hnm : Nm L C a P) (hbk : Bk w wr O KB HB MB WB g L P F fW) (Q0 : Exit → Act → World → Prop)
    (hexit : ∀ (v8 v48 v49 v50 v51 v52 v53 v54 v55 v56 v57 v58 v59 v60 v61 v62 v63 v64 v65 v66 v67 v68 v69 v70 v71 v72 v73 v74 v75 v76 v77 v78 v79 v80 v81 v82 v83 v84 v85 v86 v87 v88 v89 v90 v91 v92 v93 v94 : Value) (fW : Nat → Value) (w' : World), Wd (wordsOf ((P.drop a).take 64)) fW 16 ∧ Bk w w' O KB HB MB WB g L P F fW → Q0 .normal ⟨#[u0, u1, u2, u3, u4, .slice (some ⟨g, 0, none⟩) L C, .pointer (some ⟨WB, 0, none⟩), .int .i64 (a : Int), v8, u9, u10, u11, u12, u13, u14, u15, u16, u17, u18, u19, u20, u21, u22, u23, u24, u25, u26, u27, u28, u29, u30, u31, u32, u33, u34, u35, u36, u37, u38, u39, u40, u41, u42, u43, u44, u45, u46, u47, v48, v49, v50, v51, v52, v53, v54, v55, v56, v57, v58, v59, v60, v61, v62, v63, v64, v65, v66, v67, v68, v69, v70, v71, v72, v73, v74, v75, v76, v77, v78, v79, v80, v81, v82, v83, v84, v85, v86, v87, v88, v89, v90, v91, v92, v93, v94, u95, u96, u97, u98, u99, u100, u101, u102, u103, u104, u105, u106, u107, u108, u109, u110, u111, u112, u113, u114, u115, u116, u117, u118, u119, u120, u121, u122, u123, u124, u125, u126, u127, u128, u129, u130, u131, u132, u133, u134, u135, u136, u137, u138, u139, u140, u141, u142, u143, u144, u145, u146, u147, u148, u149, u150, u151, u152, u153, u154, u155, u156, u157, u158, u159, u160, u161, u162, u163, u164, u165, u166, u167, u168, u169, u170, u171, u172, u173, u174, u175, u176, u177, u178, u179, u180, u181, u182, u183, u184, u185, u186, u187, u188, u189, u190, u191, u192, u193, u194, u195, u196, u197, u198, u199, u200, u201, u202, u203, u204, u205, u206, u207, u208, u209, u210, u211, u212, u213, u214, u215, u216, u217, u218, u219, u220, u221, u222, u223, u224, u225, u226, u227, u228, u229, u230, u231, u232, u233, u234, u235, u236, u237, u238, u239, u240, u241, u242, u243, u244, u245, u246, u247, u248, u249, u250, u251, u252, u253, u254, u255, u256, u257, u258, u259, u260, u261, u262, u263, u264, u265, u266, u267, u268, u269, u270, u271, u272, u273, u274, u275, u276], []⟩ w') :
    Code.wp Try.prog words_code Q0 ⟨#[u0, u1, u2, u3, u4, .slice (some ⟨g, 0, none⟩) L C, .pointer (some ⟨WB, 0, none⟩), .int .i64 (a : Int), .int .i64 0, u9, u10, u11, u12, u13, u14, u15, u16, u17, u18, u19, u20, u21, u22, u23, u24, u25, u26, u27, u28, u29, u30, u31, u32, u33, u34, u35, u36, u37, u38, u39, u40, u41, u42, u43, u44, u45, u46, u47, u48, u49, u50, u51, u52, u53, u54, u55, u56, u57, u58, u59, u60, u61, u62, u63, u64, u65, u66, u67, u68, u69, u70, u71, u72, u73, u74, u75, u76, u77, u78, u79, u80, u81, u82, u83, u84, u85, u86, u87, u88, u89, u90, u91, u92, u93, u94, u95, u96, u97, u98, u99, u100, u101, u102, u103, u104, u105, u106, u107, u108, u109, u110, u111, u112, u113, u114, u115, u116, u117, u118, u119, u120, u121, u122, u123, u124, u125, u126, u127, u128, u129, u130, u131, u132, u133, u134, u135, u136, u137, u138, u139, u140, u141, u142, u143, u144, u145, u146, u147, u148, u149, u150, u151, u152, u153, u154, u155, u156, u157, u158, u159, u160, u161, u162, u163, u164, u165, u166, u167, u168, u169, u170, u171, u172, u173, u174, u175, u176, u177, u178, u179, u180, u181, u182, u183, u184, u185, u186, u187, u188, u189, u190, u191, u192, u193, u194, u195, u196, u197, u198, u199, u200, u201, u202, u203, u204, u205, u206, u207, u208, u209, u210, u211, u212, u213, u214, u215, u216, u217, u218, u219, u220, u221, u222, u223, u224, u225, u226, u227, u228, u229, u230, u231, u232, u233, u234, u235, u236, u237, u238, u239, u240, u241, u242, u243, u244, u245, u246, u247, u248, u249, u250, u251, u252, u253, u254, u255, u256, u257, u258, u259, u260, u261, u262, u263, u264, u265, u266, u267, u268, u269, u270, u271, u272, u273, u274, u275, u276], []⟩ wr := by
  have HE := Lib.hid hexit
  clear hexit
  conv => arg 2; whnf
  obtain ⟨haL, hLb, hLC, hPr⟩ := hnm
  have HPr := Lib.hid hPr
  have HBk := Lib.hid hbk
  clear hPr hbk
  obtain ⟨mW, hmW⟩ : ∃ mW, mW = wordsOf ((P.drop a).take 64) := ⟨_, rfl⟩
  rw [← hmW] at HE
  have HMW := Lib.hid hmW
  clear hmW
  go_wp2_with fail
  go_loopw [8] (fun s8 wr => ∃ (t : Nat) (fW : Nat → Value), s8 = .int .i64 t ∧ t ≤ 16 ∧ Hid (Wd mW fW t) ∧ Hid (Bk w wr O KB HB MB WB g L P F fW)) (fun s8 _ => 16 - (intOf s8).toNat)
  case atStart => exact ⟨0, fW, rfl, by omega, Lib.hid (fun j hj => absurd hj (by omega)), HBk⟩
  case round =>
    clear HBk
    obtain ⟨t, fW, rfl, ht, HWd, HBk⟩ := hrel
    by_cases hlt : t < 16
    · clear HE
      obtain ⟨b4, h4⟩ : ∃ b4, b4 = 4 * t := ⟨_, rfl⟩
      obtain ⟨p0, hp0⟩ : ∃ p0, p0 = a + b4 := ⟨_, rfl⟩
      obtain ⟨p1, hp1⟩ : ∃ p1, p1 = p0 + 1 := ⟨_, rfl⟩
      obtain ⟨p2, hp2⟩ : ∃ p2, p2 = p0 + 2 := ⟨_, rfl⟩
      obtain ⟨p3, hp3⟩ : ∃ p3, p3 = p0 + 3 := ⟨_, rfl⟩
      have i4 : 4 * (t : Int) = (b4 : Int) := by omega
      have j0 : (a : Int) + (b4 : Int) = (p0 : Int) := by omega
      have j1 : (p0 : Int) + 1 = (p1 : Int) := by omega
      have j2 : (p0 : Int) + 2 = (p2 : Int) := by omega
      have j3 : (p0 : Int) + 3 = (p3 : Int) := by omega
      have w4 : IntKind.i64.wrap (b4 : Int) = (b4 : Int) := IntWalk.i64_in _ (by omega)
      have w0 : IntKind.i64.wrap (p0 : Int) = (p0 : Int) := IntWalk.i64_in _ (by omega)
      have w1 : IntKind.i64.wrap (p1 : Int) = (p1 : Int) := IntWalk.i64_in _ (by omega)
      have w2 : IntKind.i64.wrap (p2 : Int) = (p2 : Int) := IntWalk.i64_in _ (by omega)
      have w3 : IntKind.i64.wrap (p3 : Int) = (p3 : Int) := IntWalk.i64_in _ (by omega)
      have z0 : (0 : Int) ≤ (p0 : Int) := by omega
      have z1 : (0 : Int) ≤ (p1 : Int) := by omega
      have z2 : (0 : Int) ≤ (p2 : Int) := by omega
      have z3 : (0 : Int) ≤ (p3 : Int) := by omega
      have l0 : (p0 : Int) < (L : Int) := by omega
      have l1 : (p1 : Int) < (L : Int) := by omega
      have l2 : (p2 : Int) < (L : Int) := by omega
      have l3 : (p3 : Int) < (L : Int) := by omega
      have ht0 : (0 : Int) ≤ (t : Int) := by omega
      have ht1 : (t : Int) < 16 := by omega
      have ht64 : (t : Int) < 64 := by omega
      have c0 : wr.cell? ⟨g, p0, none⟩ = some (.int .u8 (P.getD p0 0)) := HBk.out.byte p0 (by omega)
      have c1 : wr.cell? ⟨g, p1, none⟩ = some (.int .u8 (P.getD p1 0)) := HBk.out.byte p1 (by omega)
      have c2 : wr.cell? ⟨g, p2, none⟩ = some (.int .u8 (P.getD p2 0)) := HBk.out.byte p2 (by omega)
      have c3 : wr.cell? ⟨g, p3, none⟩ = some (.int .u8 (P.getD p3 0)) := HBk.out.byte p3 (by omega)
      obtain ⟨b0, b0'⟩ := HPr.out p0 (by omega)
      obtain ⟨b1, b1'⟩ := HPr.out p1 (by omega)
      obtain ⟨b2, b2'⟩ := HPr.out p2 (by omega)
      obtain ⟨b3, b3'⟩ := HPr.out p3 (by omega)
      have hv : word4 (P.getD p0 0) (P.getD p1 0) (P.getD p2 0) (P.getD p3 0) = sched mW t := by
        rw [HMW.out, sched_low _ _ hlt, wordsOf_block _ _ _ hlt, hp1, hp2, hp3, hp0, h4]
      have HV := Lib.hid hv
      have HW2 := Lib.hid (Wd.more HWd.out)
      have HB2 := Lib.hid (fun v : Value => HBk.out.setW t v)
      have hcW : wr.cell? ⟨WB, t, none⟩ = some (fW t) := HBk.out.rowW.cell (by omega)
      have hfW : wr.frozen? ⟨WB, t, none⟩ = false := HBk.out.rowW.frozen _
      clear hv h4 hp0 hp1 hp2 hp3 HWd HBk
      generalize P.getD p0 0 = x0 at *
      generalize P.getD p1 0 = x1 at *
      generalize P.getD p2 0 = x2 at *
      generalize P.getD p3 0 = x3 at *
      go_wp2_with fail
      go_still_tail 43, (by kernel_rfl)
      change wpList _ _ _ _ _ wr.drew
      have hcW' : wr.drew.cell? ⟨WB, t, none⟩ = some (fW t) := hcW
      have hfW' : wr.drew.frozen? ⟨WB, t, none⟩ = false := hfW
      go_wp2_with fail
      go_roundw
      case rel => exact ⟨t + 1, _, by go_num, by omega, HW2, Lib.hid (by
        show Bk w (World.drew (wr.setCell ⟨WB, t, none⟩ (.int .u32 (word4 x0 x1 x2 x3)))) O KB HB MB WB g L P F _
        rw [HV.out]
        exact (HB2.out _).same rfl rfl rfl rfl)⟩
      case measure => simp [intOf]; omega
    · have HWe : Hid (Wd mW fW 16) := by
        have ht2 : t = 16 := by omega
        rw [← ht2]; exact HWd
      have hd16 : decide ((t : Int) < 16) = false := by simp; omega
      clear HWd ht
      go_wp2_with fail
      exact HE.out _ _ _ _ _ _ _ _ _ _ _ _ _ _ _ _ _ _ _ _ _ _ _ _ _ _ _ _ _ _ _ _ _ _ _ _ _ _ _ _ _ _ _ _ _ _ _ _ fW _ ⟨HWe.out, HBk.out⟩
end Go.Proofs.Ytmcmapgllaopmaa.Sm
end

section
/- The document's Of: the words behind a block's. -/
namespace Go.Proofs.Ytmcmapgllaopmaa.Sm
open Go.RowKit
set_option linter.unusedVariables false

noncomputable def sched64_code : Code := (Try.f60.body.bind (blockOf 6)).getD .skip
set_option maxRecDepth 1000000 in
set_option maxHeartbeats 4000000 in
theorem sched64 (wr : World) {u0 u1 u2 u3 u4 u5 u7 u8 u10 u11 u12 u13 u14 u15 u16 u17 u18 u19 u20 u21 u22 u23 u24 u25 u26 u27 u28 u29 u30 u31 u32 u33 u34 u35 u36 u37 u38 u39 u40 u41 u42 u43 u44 u45 u46 u47 u48 u49 u50 u51 u52 u53 u54 u55 u56 u57 u58 u59 u60 u61 u62 u63 u64 u65 u66 u67 u68 u69 u70 u71 u72 u73 u74 u75 u76 u77 u78 u79 u80 u81 u82 u83 u84 u85 u86 u87 u88 u89 u90 u91 u92 u93 u94 u95 u96 u97 u98 u99 u100 u101 u102 u103 u104 u105 u106 u107 u108 u109 u110 u111 u112 u113 u114 u115 u116 u117 u118 u119 u120 u121 u122 u123 u124 u125 u126 u127 u128 u129 u130 u131 u132 u133 u134 u135 u136 u137 u138 u139 u140 u141 u142 u143 u144 u145 u146 u147 u148 u149 u150 u151 u152 u153 u154 u155 u156 u157 u158 u159 u160 u161 u162 u163 u164 u165 u166 u167 u168 u169 u170 u171 u172 u173 u174 u175 u176 u177 u178 u179 u180 u181 u182 u183 u184 u185 u186 u187 u188 u189 u190 u191 u192 u193 u194 u195 u196 u197 u198 u199 u200 u201 u202 u203 u204 u205 u206 u207 u208 u209 u210 u211 u212 u213 u214 u215 u216 u217 u218 u219 u220 u221 u222 u223 u224 u225 u226 u227 u228 u229 u230 u231 u232 u233 u234 u235 u236 u237 u238 u239 u240 u241 u242 u243 u244 u245 u246 u247 u248 u249 u250 u251 u252 u253 u254 u255 u256 u257 u258 u259 u260 u261 u262 u263 u264 u265 u266 u267 u268 u269 u270 u271 u272 u273 u274 u275 u276 : Value} {w : World} {O KB HB MB WB g L : Nat} {P : List Int} {F fW : Nat → Value} {mW : Nat → Int} (hmr : ∀ j, 0 ≤ mW j ∧ mW j < 4294967296) (hwd : Wd mW fW 16) (hbk : Bk w wr O KB HB MB WB g L P F fW) (Q0 : Exit → Act → World → Prop)
    (hexit : ∀ (v9 v10 v11 v95 v96 v97 v98 v99 v100 v101 v102 v103 v104 v105 v106 v107 v108 v109 v110 v111 v112 v113 v114 v115 v116 v117 v118 v119 v120 v121 v122 v123 v124 v125 v126 v127 v128 v129 v130 v131 v132 v133 v134 v135 v136 v137 v138 v139 v140 v141 v142 v143 v144 v145 v146 v147 : Value)  (fW : Nat → Value) (w' : World), Wd mW fW 64 ∧ Bk w w' O KB HB MB WB g L P F fW → Q0 .normal ⟨#[u0, u1, u2, u3, u4, u5, .pointer (some ⟨WB, 0, none⟩), u7, u8, v9, v10, v11, u12, u13, u14, u15, u16, u17, u18, u19, u20, u21, u22, u23, u24, u25, u26, u27, u28, u29, u30, u31, u32, u33, u34, u35, u36, u37, u38, u39, u40, u41, u42, u43, u44, u45, u46, u47, u48, u49, u50, u51, u52, u53, u54, u55, u56, u57, u58, u59, u60, u61, u62, u63, u64, u65, u66, u67, u68, u69, u70, u71, u72, u73, u74, u75, u76, u77, u78, u79, u80, u81, u82, u83, u84, u85, u86, u87, u88, u89, u90, u91, u92, u93, u94, v95, v96, v97, v98, v99, v100, v101, v102, v103, v104, v105, v106, v107, v108, v109, v110, v111, v112, v113, v114, v115, v116, v117, v118, v119, v120, v121, v122, v123, v124, v125, v126, v127, v128, v129, v130, v131, v132, v133, v134, v135, v136, v137, v138, v139, v140, v141, v142, v143, v144, v145, v146, v147, u148, u149, u150, u151, u152, u153, u154, u155, u156, u157, u158, u159, u160, u161, u162, u163, u164, u165, u166, u167, u168, u169, u170, u171, u172, u173, u174, u175, u176, u177, u178, u179, u180, u181, u182, u183, u184, u185, u186, u187, u188, u189, u190, u191, u192, u193, u194, u195, u196, u197, u198, u199, u200, u201, u202, u203, u204, u205, u206, u207, u208, u209, u210, u211, u212, u213, u214, u215, u216, u217, u218, u219, u220, u221, u222, u223, u224, u225, u226, u227, u228, u229, u230, u231, u232, u233, u234, u235, u236, u237, u238, u239, u240, u241, u242, u243, u244, u245, u246, u247, u248, u249, u250, u251, u252, u253, u254, u255, u256, u257, u258, u259, u260, u261, u262, u263, u264, u265, u266, u267, u268, u269, u270, u271, u272, u273, u274, u275, u276], []⟩ w') :
    Code.wp Try.prog sched64_code Q0 ⟨#[u0, u1, u2, u3, u4, u5, .pointer (some ⟨WB, 0, none⟩), u7, u8, .int .i64 16, u10, u11, u12, u13, u14, u15, u16, u17, u18, u19, u20, u21, u22, u23, u24, u25, u26, u27, u28, u29, u30, u31, u32, u33, u34, u35, u36, u37, u38, u39, u40, u41, u42, u43, u44, u45, u46, u47, u48, u49, u50, u51, u52, u53, u54, u55, u56, u57, u58, u59, u60, u61, u62, u63, u64, u65, u66, u67, u68, u69, u70, u71, u72, u73, u74, u75, u76, u77, u78, u79, u80, u81, u82, u83, u84, u85, u86, u87, u88, u89, u90, u91, u92, u93, u94, u95, u96, u97, u98, u99, u100, u101, u102, u103, u104, u105, u106, u107, u108, u109, u110, u111, u112, u113, u114, u115, u116, u117, u118, u119, u120, u121, u122, u123, u124, u125, u126, u127, u128, u129, u130, u131, u132, u133, u134, u135, u136, u137, u138, u139, u140, u141, u142, u143, u144, u145, u146, u147, u148, u149, u150, u151, u152, u153, u154, u155, u156, u157, u158, u159, u160, u161, u162, u163, u164, u165, u166, u167, u168, u169, u170, u171, u172, u173, u174, u175, u176, u177, u178, u179, u180, u181, u182, u183, u184, u185, u186, u187, u188, u189, u190, u191, u192, u193, u194, u195, u196, u197, u198, u199, u200, u201, u202, u203, u204, u205, u206, u207, u208, u209, u210, u211, u212, u213, u214, u215, u216, u217, u218, u219, u220, u221, u222, u223, u224, u225, u226, u227, u228, u229, u230, u231, u232, u233, u234, u235, u236, u237, u238, u239, u240, u241, u242, u243, u244, u245, u246, u247, u248, u249, u250, u251, u252, u253, u254, u255, u256, u257, u258, u259, u260, u261, u262, u263, u264, u265, u266, u267, u268, u269, u270, u271, u272, u273, u274, u275, u276], []⟩ wr := by
  have HE := Lib.hid hexit
  clear hexit
  conv => arg 2; whnf
  have HMR := Lib.hid hmr
  have HWe := Lib.hid hwd
  have HBk := Lib.hid hbk
  clear hmr hwd hbk
  go_wp2_with fail
  go_loopw [9] (fun s9 wr => ∃ (t : Nat) (fW : Nat → Value), s9 = .int .i64 t ∧ 16 ≤ t ∧ t ≤ 64 ∧ Hid (Wd mW fW t) ∧ Hid (Bk w wr O KB HB MB WB g L P F fW)) (fun s9 _ => 64 - (intOf s9).toNat)
  case atStart => exact ⟨16, fW, rfl, by omega, by omega, HWe, HBk⟩
  case round =>
    clear HBk HWe
    obtain ⟨t, fW, rfl, ht16, ht, HWd, HBk⟩ := hrel
    by_cases hlt : t < 64
    · clear HE
      have ht0 : (0 : Int) ≤ (t : Int) := by omega
      have ht1 : (t : Int) < 64 := by omega
      obtain ⟨t2, e2⟩ : ∃ t2, t2 + 2 = t := ⟨t - 2, by omega⟩
      obtain ⟨t7, e7⟩ : ∃ t7, t7 + 7 = t := ⟨t - 7, by omega⟩
      obtain ⟨t15, e15⟩ : ∃ t15, t15 + 15 = t := ⟨t - 15, by omega⟩
      obtain ⟨t16, e16⟩ : ∃ t16, t16 + 16 = t := ⟨t - 16, by omega⟩
      have i2 : (t : Int) - 2 = (t2 : Int) := by omega
      have i7 : (t : Int) - 7 = (t7 : Int) := by omega
      have i15 : (t : Int) - 15 = (t15 : Int) := by omega
      have i16 : (t : Int) - 16 = (t16 : Int) := by omega
      have z2 : (0 : Int) ≤ (t2 : Int) := by omega
      have z7 : (0 : Int) ≤ (t7 : Int) := by omega
      have z15 : (0 : Int) ≤ (t15 : Int) := by omega
      have z16 : (0 : Int) ≤ (t16 : Int) := by omega
      have w2 : IntKind.i64.wrap (t2 : Int) = (t2 : Int) := IntWalk.i64_in _ (by omega)
      have w7 : IntKind.i64.wrap (t7 : Int) = (t7 : Int) := IntWalk.i64_in _ (by omega)
      have w15 : IntKind.i64.wrap (t15 : Int) = (t15 : Int) := IntWalk.i64_in _ (by omega)
      have w16 : IntKind.i64.wrap (t16 : Int) = (t16 : Int) := IntWalk.i64_in _ (by omega)
      have l2 : (t2 : Int) < 64 := by omega
      have l7 : (t7 : Int) < 64 := by omega
      have l15 : (t15 : Int) < 64 := by omega
      have l16 : (t16 : Int) < 64 := by omega
      have HSC : Hid (sched mW t = (sched mW t16 + small (sched mW t15) 7 18 3 + sched mW t7 + small (sched mW t2) 17 19 10) % 4294967296) := Lib.hid (by
        rw [sched_alt _ _ ht16, show t - 2 = t2 by omega, show t - 7 = t7 by omega, show t - 15 = t15 by omega, show t - 16 = t16 by omega])
      have hmr := HMR.out
      have r2 := sched_range mW hmr t2
      have r15 := sched_range mW hmr t15
      have HT7 : Hid (∀ w, Calls Try.prog 94 #[.int .u32 (sched mW t15), .int .i64 7] w fun e w' => e = .returned (.int .u32 (rot (sched mW t15) 7)) ∧ ∃ d, w' = w.drewN d) := Lib.hid (fun w => turn_any _ 7 w r15.1 r15.2 (by omega) (by omega))
      have HT18 : Hid (∀ w, Calls Try.prog 94 #[.int .u32 (sched mW t15), .int .i64 18] w fun e w' => e = .returned (.int .u32 (rot (sched mW t15) 18)) ∧ ∃ d, w' = w.drewN d) := Lib.hid (fun w => turn_any _ 18 w r15.1 r15.2 (by omega) (by omega))
      have HT17 : Hid (∀ w, Calls Try.prog 94 #[.int .u32 (sched mW t2), .int .i64 17] w fun e w' => e = .returned (.int .u32 (rot (sched mW t2) 17)) ∧ ∃ d, w' = w.drewN d) := Lib.hid (fun w => turn_any _ 17 w r2.1 r2.2 (by omega) (by omega))
      have HT19 : Hid (∀ w, Calls Try.prog 94 #[.int .u32 (sched mW t2), .int .i64 19] w fun e w' => e = .returned (.int .u32 (rot (sched mW t2) 19)) ∧ ∃ d, w' = w.drewN d) := Lib.hid (fun w => turn_any _ 19 w r2.1 r2.2 (by omega) (by omega))
      have hall : ∀ j, j < t → wr.cell? ⟨WB, j, none⟩ = some (.int .u32 (sched mW j)) := fun j hj => by rw [HBk.out.rowW.cell (by omega), HWd.out j hj]
      have c2 := hall t2 (by omega)
      have c7 := hall t7 (by omega)
      have c15 := hall t15 (by omega)
      have c16 := hall t16 (by omega)
      have HW2 := Lib.hid (Wd.more HWd.out)
      obtain ⟨r2a, r2b⟩ := r2
      obtain ⟨r15a, r15b⟩ := r15
      clear hall hmr e2 e7 e15 e16 HWd
      generalize hX2 : sched mW t2 = X2 at *
      generalize hX7 : sched mW t7 = X7 at *
      generalize hX15 : sched mW t15 = X15 at *
      generalize hX16 : sched mW t16 = X16 at *
      clear hX2 hX7 hX15 hX16
      go_wp2_with fail
      go_quiet ((go_at_call 94; first | (with_reducible exact Calls.quiet_of (HT7.out _)) | (with_reducible exact Calls.quiet_of (HT18.out _))))
      have c2' : (wr.drewN nq).cell? ⟨WB, t2, none⟩ = some (.int .u32 X2) := c2
      have c7' : (wr.drewN nq).cell? ⟨WB, t7, none⟩ = some (.int .u32 X7) := c7
      have c16' : (wr.drewN nq).cell? ⟨WB, t16, none⟩ = some (.int .u32 X16) := c16
      have HBk1 : Hid (Bk w (wr.drewN nq) O KB HB MB WB g L P F fW) := Lib.hid (HBk.out.same rfl rfl rfl rfl)
      clear c2 c7 c15 c16 HBk HT7 HT18
      generalize wr.drewN nq = wr1 at *
      go_wp2_with fail
      go_quiet ((go_at_call 94; first | (with_reducible exact Calls.quiet_of (HT17.out _)) | (with_reducible exact Calls.quiet_of (HT19.out _))))
      have c7 : (wr1.drewN nq).cell? ⟨WB, t7, none⟩ = some (.int .u32 X7) := c7'
      have c16 : (wr1.drewN nq).cell? ⟨WB, t16, none⟩ = some (.int .u32 X16) := c16'
      have HBk2 : Hid (Bk w (wr1.drewN nq) O KB HB MB WB g L P F fW) := Lib.hid (HBk1.out.same rfl rfl rfl rfl)
      clear c2' c7' c16' HBk1 HT17 HT19
      generalize wr1.drewN nq = wr2 at *
      have hcW : wr2.cell? ⟨WB, t, none⟩ = some (fW t) := HBk2.out.rowW.cell (by omega)
      have hfW : wr2.frozen? ⟨WB, t, none⟩ = false := HBk2.out.rowW.frozen _
      have HB2 := Lib.hid (fun v : Value => HBk2.out.setW t v)
      clear HBk2
      go_wp2_with fail
      go_still_tail 15, (by kernel_rfl)
      change wpList _ _ _ _ _ wr2.drew
      have hcW' : wr2.drew.cell? ⟨WB, t, none⟩ = some (fW t) := hcW
      have hfW' : wr2.drew.frozen? ⟨WB, t, none⟩ = false := hfW
      go_wp2_with fail
      go_roundw
      case rel => exact ⟨t + 1, _, by go_num, by omega, by omega, HW2, Lib.hid (by
        rw [HSC.out]
        exact (HB2.out _).same rfl rfl rfl rfl)⟩
      case measure => simp [intOf]; omega
    · have HWe : Hid (Wd mW fW 64) := by
        have ht2 : t = 64 := by omega
        rw [← ht2]; exact HWd
      have hd64 : decide ((t : Int) < 64) = false := by simp; omega
      clear HWd ht
      go_wp2_with fail
      exact HE.out _ _ _ _ _ _ _ _ _ _ _ _ _ _ _ _ _ _ _ _ _ _ _ _ _ _ _ _ _ _ _ _ _ _ _ _ _ _ _ _ _ _ _ _ _ _ _ _ _ _ _ _ _ _ _ _ fW _ ⟨HWe.out, HBk.out⟩
end Go.Proofs.Ytmcmapgllaopmaa.Sm
end

section
/- The document's Of: one round. -/
namespace Go.Proofs.Ytmcmapgllaopmaa.Sm
open Go.RowKit
set_option linter.unusedVariables false

noncomputable def round9_code : Code := (Try.f60.body.bind (blockOf 9)).getD .skip
set_option maxRecDepth 1000000 in
set_option maxHeartbeats 4000000 in
theorem round9 (wr : World) {u0 u1 u2 u4 u5 u7 u8 u9 u10 u11 u14 u15 u16 u17 u18 u19 u20 u21 u22 u23 u24 u25 u26 u27 u28 u29 u30 u31 u32 u33 u34 u35 u36 u37 u38 u39 u40 u41 u42 u43 u44 u45 u46 u47 u48 u49 u50 u51 u52 u53 u54 u55 u56 u57 u58 u59 u60 u61 u62 u63 u64 u65 u66 u67 u68 u69 u70 u71 u72 u73 u74 u75 u76 u77 u78 u79 u80 u81 u82 u83 u84 u85 u86 u87 u88 u89 u90 u91 u92 u93 u94 u95 u96 u97 u98 u99 u100 u101 u102 u103 u104 u105 u106 u107 u108 u109 u110 u111 u112 u113 u114 u115 u116 u117 u118 u119 u120 u121 u122 u123 u124 u125 u126 u127 u128 u129 u130 u131 u132 u133 u134 u135 u136 u137 u138 u139 u140 u141 u142 u143 u144 u145 u146 u147 u148 u149 u150 u151 u152 u153 u154 u155 u156 u157 u158 u159 u160 u161 u162 u163 u164 u165 u166 u167 u168 u169 u170 u171 u172 u173 u174 u175 u176 u177 u178 u179 u180 u181 u182 u183 u184 u185 u186 u187 u188 u189 u190 u191 u192 u193 u194 u195 u196 u197 u198 u199 u200 u201 u202 u203 u204 u205 u206 u207 u208 u209 u210 u211 u212 u213 u214 u215 u216 u217 u218 u219 u220 u221 u222 u223 u224 u225 u226 u227 u228 u229 u230 u231 u232 u233 u234 u235 u236 u237 u238 u239 u240 u241 u242 u243 u244 u245 u246 u247 u248 u249 u250 u251 u252 u253 u254 u255 u256 u257 u258 u259 u260 u261 u262 u263 u264 u265 u266 u267 u268 u269 u270 u271 u272 u273 u274 u275 u276 : Value} {w : World} {O KB HB MB WB g L V i : Nat} {P : List Int} {F fW : Nat → Value} {ta tb tc td te tf tg th x : Int} (hi : i < 64) (hx : fW i = .int .u32 x) (ha : 0 ≤ ta ∧ ta < 4294967296) (he : 0 ≤ te ∧ te < 4294967296) (hvk : Vk w wr O KB HB MB WB g L P F fW V ⟨ta, tb, tc, td, te, tf, tg, th⟩) (Q0 : Exit → Act → World → Prop)
    (hexit : ∀ (v14 v15 v16 v17 v18 v153 v154 v155 v156 v157 v158 v159 v160 v161 v162 v163 v164 v165 v166 v167 v168 v169 v170 v171 v172 v173 v174 v175 v176 v177 v178 v179 v180 v181 v182 v183 v184 v185 v186 v187 v188 v189 v190 v191 v192 v193 v194 v195 v196 v197 v198 v199 v200 v201 v202 v203 v204 v205 v206 v207 v208 v209 v210 v211 v212 v213 v214 v215 v216 v217 v218 v219 v220 v221 v222 v223 v224 v225 v226 v227 v228 v229 v230 v231 v232 v233 v234 v235 v236 v237 v238 v239 v240 v241 v242 v243 v244 v245 v246 : Value)  (w' : World), Vk w w' O KB HB MB WB g L P F fW V (step ⟨ta, tb, tc, td, te, tf, tg, th⟩ (kf i) x) → Q0 .normal ⟨#[u0, u1, u2, .pointer (some ⟨KB, 0, none⟩), u4, u5, .pointer (some ⟨WB, 0, none⟩), u7, u8, u9, u10, u11, .pointer (some ⟨V, 0, none⟩), .int .i64 (i : Int), v14, v15, v16, v17, v18, u19, u20, u21, u22, u23, u24, u25, u26, u27, u28, u29, u30, u31, u32, u33, u34, u35, u36, u37, u38, u39, u40, u41, u42, u43, u44, u45, u46, u47, u48, u49, u50, u51, u52, u53, u54, u55, u56, u57, u58, u59, u60, u61, u62, u63, u64, u65, u66, u67, u68, u69, u70, u71, u72, u73, u74, u75, u76, u77, u78, u79, u80, u81, u82, u83, u84, u85, u86, u87, u88, u89, u90, u91, u92, u93, u94, u95, u96, u97, u98, u99, u100, u101, u102, u103, u104, u105, u106, u107, u108, u109, u110, u111, u112, u113, u114, u115, u116, u117, u118, u119, u120, u121, u122, u123, u124, u125, u126, u127, u128, u129, u130, u131, u132, u133, u134, u135, u136, u137, u138, u139, u140, u141, u142, u143, u144, u145, u146, u147, u148, u149, u150, u151, u152, v153, v154, v155, v156, v157, v158, v159, v160, v161, v162, v163, v164, v165, v166, v167, v168, v169, v170, v171, v172, v173, v174, v175, v176, v177, v178, v179, v180, v181, v182, v183, v184, v185, v186, v187, v188, v189, v190, v191, v192, v193, v194, v195, v196, v197, v198, v199, v200, v201, v202, v203, v204, v205, v206, v207, v208, v209, v210, v211, v212, v213, v214, v215, v216, v217, v218, v219, v220, v221, v222, v223, v224, v225, v226, v227, v228, v229, v230, v231, v232, v233, v234, v235, v236, v237, v238, v239, v240, v241, v242, v243, v244, v245, v246, u247, u248, u249, u250, u251, u252, u253, u254, u255, u256, u257, u258, u259, u260, u261, u262, u263, u264, u265, u266, u267, u268, u269, u270, u271, u272, u273, u274, u275, u276], []⟩ w') :
    Code.wp Try.prog round9_code Q0 ⟨#[u0, u1, u2, .pointer (some ⟨KB, 0, none⟩), u4, u5, .pointer (some ⟨WB, 0, none⟩), u7, u8, u9, u10, u11, .pointer (some ⟨V, 0, none⟩), .int .i64 (i : Int), u14, u15, u16, u17, u18, u19, u20, u21, u22, u23, u24, u25, u26, u27, u28, u29, u30, u31, u32, u33, u34, u35, u36, u37, u38, u39, u40, u41, u42, u43, u44, u45, u46, u47, u48, u49, u50, u51, u52, u53, u54, u55, u56, u57, u58, u59, u60, u61, u62, u63, u64, u65, u66, u67, u68, u69, u70, u71, u72, u73, u74, u75, u76, u77, u78, u79, u80, u81, u82, u83, u84, u85, u86, u87, u88, u89, u90, u91, u92, u93, u94, u95, u96, u97, u98, u99, u100, u101, u102, u103, u104, u105, u106, u107, u108, u109, u110, u111, u112, u113, u114, u115, u116, u117, u118, u119, u120, u121, u122, u123, u124, u125, u126, u127, u128, u129, u130, u131, u132, u133, u134, u135, u136, u137, u138, u139, u140, u141, u142, u143, u144, u145, u146, u147, u148, u149, u150, u151, u152, u153, u154, u155, u156, u157, u158, u159, u160, u161, u162, u163, u164, u165, u166, u167, u168, u169, u170, u171, u172, u173, u174, u175, u176, u177, u178, u179, u180, u181, u182, u183, u184, u185, u186, u187, u188, u189, u190, u191, u192, u193, u194, u195, u196, u197, u198, u199, u200, u201, u202, u203, u204, u205, u206, u207, u208, u209, u210, u211, u212, u213, u214, u215, u216, u217, u218, u219, u220, u221, u222, u223, u224, u225, u226, u227, u228, u229, u230, u231, u232, u233, u234, u235, u236, u237, u238, u239, u240, u241, u242, u243, u244, u245, u246, u247, u248, u249, u250, u251, u252, u253, u254, u255, u256, u257, u258, u259, u260, u261, u262, u263, u264, u265, u266, u267, u268, u269, u270, u271, u272, u273, u274, u275, u276], []⟩ wr := by
  have HE := Lib.hid hexit
  clear hexit
  conv => arg 2; whnf
  have HVk := Lib.hid hvk
  have HT6 : Hid (∀ w, Calls Try.prog 94 #[.int .u32 te, .int .i64 6] w fun e w' => e = .returned (.int .u32 (rot te 6)) ∧ ∃ d, w' = w.drewN d) := Lib.hid (fun w => turn_any _ 6 w he.1 he.2 (by omega) (by omega))
  have HT11 : Hid (∀ w, Calls Try.prog 94 #[.int .u32 te, .int .i64 11] w fun e w' => e = .returned (.int .u32 (rot te 11)) ∧ ∃ d, w' = w.drewN d) := Lib.hid (fun w => turn_any _ 11 w he.1 he.2 (by omega) (by omega))
  have HT25 : Hid (∀ w, Calls Try.prog 94 #[.int .u32 te, .int .i64 25] w fun e w' => e = .returned (.int .u32 (rot te 25)) ∧ ∃ d, w' = w.drewN d) := Lib.hid (fun w => turn_any _ 25 w he.1 he.2 (by omega) (by omega))
  have HT2 : Hid (∀ w, Calls Try.prog 94 #[.int .u32 ta, .int .i64 2] w fun e w' => e = .returned (.int .u32 (rot ta 2)) ∧ ∃ d, w' = w.drewN d) := Lib.hid (fun w => turn_any _ 2 w ha.1 ha.2 (by omega) (by omega))
  have HT13 : Hid (∀ w, Calls Try.prog 94 #[.int .u32 ta, .int .i64 13] w fun e w' => e = .returned (.int .u32 (rot ta 13)) ∧ ∃ d, w' = w.drewN d) := Lib.hid (fun w => turn_any _ 13 w ha.1 ha.2 (by omega) (by omega))
  have HT22 : Hid (∀ w, Calls Try.prog 94 #[.int .u32 ta, .int .i64 22] w fun e w' => e = .returned (.int .u32 (rot ta 22)) ∧ ∃ d, w' = w.drewN d) := Lib.hid (fun w => turn_any _ 22 w ha.1 ha.2 (by omega) (by omega))
  have HX := Lib.hid hx
  have hi0 : (0 : Int) ≤ (i : Int) := by omega
  have hi1 : (i : Int) < 64 := by omega
  have hi2 := hi
  clear hvk hx ha he hi
  have c4 : wr.cell? ⟨V, 4, none⟩ = some (.int .u32 te) := HVk.out.rowV.cell (by omega)
  go_wp2_with fail
  go_quiet ((go_at_call 94; first | (with_reducible exact Calls.quiet_of (HT6.out _)) | (with_reducible exact Calls.quiet_of (HT11.out _)) | (with_reducible exact Calls.quiet_of (HT25.out _))))
  have HVk1 : Hid (Vk w (wr.drewN nq) O KB HB MB WB g L P F fW V ⟨ta, tb, tc, td, te, tf, tg, th⟩) := Lib.hid (HVk.out.same rfl rfl rfl rfl)
  clear c4 HVk HT6 HT11 HT25
  generalize wr.drewN nq = wr1 at *
  have c4 : wr1.cell? ⟨V, 4, none⟩ = some (.int .u32 te) := HVk1.out.rowV.cell (by omega)
  have c5 : wr1.cell? ⟨V, 5, none⟩ = some (.int .u32 tf) := HVk1.out.rowV.cell (by omega)
  have c6 : wr1.cell? ⟨V, 6, none⟩ = some (.int .u32 tg) := HVk1.out.rowV.cell (by omega)
  have c7 : wr1.cell? ⟨V, 7, none⟩ = some (.int .u32 th) := HVk1.out.rowV.cell (by omega)
  have ck : wr1.cell? ⟨KB, i, none⟩ = some (.int .u32 (kf i)) := HVk1.out.bk.rf.rowK.cell (by omega)
  have cw : wr1.cell? ⟨WB, i, none⟩ = some (.int .u32 x) := by rw [HVk1.out.bk.rowW.cell (by omega), HX.out]
  generalize hK : kf i = K at *
  have HKi := Lib.hid hK
  clear hK
  go_wp2_with fail
  go_quiet (fail)
  have HVk2 : Hid (Vk w (wr1.drewN nq) O KB HB MB WB g L P F fW V ⟨ta, tb, tc, td, te, tf, tg, th⟩) := Lib.hid (HVk1.out.same rfl rfl rfl rfl)
  clear c4 c5 c6 c7 ck cw HVk1
  generalize wr1.drewN nq = wr2 at *
  have c0 : wr2.cell? ⟨V, 0, none⟩ = some (.int .u32 ta) := HVk2.out.rowV.cell (by omega)
  go_wp2_with fail
  go_quiet ((go_at_call 94; first | (with_reducible exact Calls.quiet_of (HT2.out _)) | (with_reducible exact Calls.quiet_of (HT13.out _)) | (with_reducible exact Calls.quiet_of (HT22.out _))))
  have HVk3 : Hid (Vk w (wr2.drewN nq) O KB HB MB WB g L P F fW V ⟨ta, tb, tc, td, te, tf, tg, th⟩) := Lib.hid (HVk2.out.same rfl rfl rfl rfl)
  clear c0 HVk2 HT2 HT13 HT22
  generalize wr2.drewN nq = wr3 at *
  have c0 : wr3.cell? ⟨V, 0, none⟩ = some (.int .u32 ta) := HVk3.out.rowV.cell (by omega)
  have c1 : wr3.cell? ⟨V, 1, none⟩ = some (.int .u32 tb) := HVk3.out.rowV.cell (by omega)
  have c2 : wr3.cell? ⟨V, 2, none⟩ = some (.int .u32 tc) := HVk3.out.rowV.cell (by omega)
  have c3 : wr3.cell? ⟨V, 3, none⟩ = some (.int .u32 td) := HVk3.out.rowV.cell (by omega)
  have c4 : wr3.cell? ⟨V, 4, none⟩ = some (.int .u32 te) := HVk3.out.rowV.cell (by omega)
  have c5 : wr3.cell? ⟨V, 5, none⟩ = some (.int .u32 tf) := HVk3.out.rowV.cell (by omega)
  have c6 : wr3.cell? ⟨V, 6, none⟩ = some (.int .u32 tg) := HVk3.out.rowV.cell (by omega)
  have c7 : wr3.cell? ⟨V, 7, none⟩ = some (.int .u32 th) := HVk3.out.rowV.cell (by omega)
  have f0 : wr3.frozen? ⟨V, 0, none⟩ = false := HVk3.out.rowV.frozen _
  have f1 : wr3.frozen? ⟨V, 1, none⟩ = false := HVk3.out.rowV.frozen _
  have f2 : wr3.frozen? ⟨V, 2, none⟩ = false := HVk3.out.rowV.frozen _
  have f3 : wr3.frozen? ⟨V, 3, none⟩ = false := HVk3.out.rowV.frozen _
  have f4 : wr3.frozen? ⟨V, 4, none⟩ = false := HVk3.out.rowV.frozen _
  have f5 : wr3.frozen? ⟨V, 5, none⟩ = false := HVk3.out.rowV.frozen _
  have f6 : wr3.frozen? ⟨V, 6, none⟩ = false := HVk3.out.rowV.frozen _
  have f7 : wr3.frozen? ⟨V, 7, none⟩ = false := HVk3.out.rowV.frozen _
  go_wp2_with fail
  exact HE.out _ _ _ _ _ _ _ _ _ _ _ _ _ _ _ _ _ _ _ _ _ _ _ _ _ _ _ _ _ _ _ _ _ _ _ _ _ _ _ _ _ _ _ _ _ _ _ _ _ _ _ _ _ _ _ _ _ _ _ _ _ _ _ _ _ _ _ _ _ _ _ _ _ _ _ _ _ _ _ _ _ _ _ _ _ _ _ _ _ _ _ _ _ _ _ _ _ _ _ _ (by rw [step_alt, ← HKi.out]; exact HVk3.out.set8 _ _ _ _ _ _ _ _)
end Go.Proofs.Ytmcmapgllaopmaa.Sm
end

section
/- The document's Of: all rounds of a block. -/
namespace Go.Proofs.Ytmcmapgllaopmaa.Sm
open Go.RowKit
set_option linter.unusedVariables false

noncomputable def rounds64_code : Code := (Try.f60.body.bind (blockOf 8)).getD .skip
set_option maxRecDepth 1000000 in
set_option maxHeartbeats 4000000 in
theorem rounds64 (wr : World) {u0 u1 u2 u4 u5 u7 u8 u9 u10 u11 u14 u15 u16 u17 u18 u19 u20 u21 u22 u23 u24 u25 u26 u27 u28 u29 u30 u31 u32 u33 u34 u35 u36 u37 u38 u39 u40 u41 u42 u43 u44 u45 u46 u47 u48 u49 u50 u51 u52 u53 u54 u55 u56 u57 u58 u59 u60 u61 u62 u63 u64 u65 u66 u67 u68 u69 u70 u71 u72 u73 u74 u75 u76 u77 u78 u79 u80 u81 u82 u83 u84 u85 u86 u87 u88 u89 u90 u91 u92 u93 u94 u95 u96 u97 u98 u99 u100 u101 u102 u103 u104 u105 u106 u107 u108 u109 u110 u111 u112 u113 u114 u115 u116 u117 u118 u119 u120 u121 u122 u123 u124 u125 u126 u127 u128 u129 u130 u131 u132 u133 u134 u135 u136 u137 u138 u139 u140 u141 u142 u143 u144 u145 u146 u147 u148 u149 u150 u151 u152 u153 u154 u155 u156 u157 u158 u159 u160 u161 u162 u163 u164 u165 u166 u167 u168 u169 u170 u171 u172 u173 u174 u175 u176 u177 u178 u179 u180 u181 u182 u183 u184 u185 u186 u187 u188 u189 u190 u191 u192 u193 u194 u195 u196 u197 u198 u199 u200 u201 u202 u203 u204 u205 u206 u207 u208 u209 u210 u211 u212 u213 u214 u215 u216 u217 u218 u219 u220 u221 u222 u223 u224 u225 u226 u227 u228 u229 u230 u231 u232 u233 u234 u235 u236 u237 u238 u239 u240 u241 u242 u243 u244 u245 u246 u247 u248 u249 u250 u251 u252 u253 u254 u255 u256 u257 u258 u259 u260 u261 u262 u263 u264 u265 u266 u267 u268 u269 u270 u271 u272 u273 u274 u275 u276 : Value} {w : World} {O KB HB MB WB g L V : Nat} {P : List Int} {F fW : Nat → Value} {mW : Nat → Int} {S : W8} (hok : S.ok) (hwd : Wd mW fW 64) (hvk : Vk w wr O KB HB MB WB g L P F fW V S) (Q0 : Exit → Act → World → Prop)
    (hexit : ∀ (v13 v14 v15 v16 v17 v18 v149 v150 v151 v152 v153 v154 v155 v156 v157 v158 v159 v160 v161 v162 v163 v164 v165 v166 v167 v168 v169 v170 v171 v172 v173 v174 v175 v176 v177 v178 v179 v180 v181 v182 v183 v184 v185 v186 v187 v188 v189 v190 v191 v192 v193 v194 v195 v196 v197 v198 v199 v200 v201 v202 v203 v204 v205 v206 v207 v208 v209 v210 v211 v212 v213 v214 v215 v216 v217 v218 v219 v220 v221 v222 v223 v224 v225 v226 v227 v228 v229 v230 v231 v232 v233 v234 v235 v236 v237 v238 v239 v240 v241 v242 v243 v244 v245 v246 : Value)  (w' : World), Vk w w' O KB HB MB WB g L P F fW V (steps kf (sched mW) 64 S) → Q0 .normal ⟨#[u0, u1, u2, .pointer (some ⟨KB, 0, none⟩), u4, u5, .pointer (some ⟨WB, 0, none⟩), u7, u8, u9, u10, u11, .pointer (some ⟨V, 0, none⟩), v13, v14, v15, v16, v17, v18, u19, u20, u21, u22, u23, u24, u25, u26, u27, u28, u29, u30, u31, u32, u33, u34, u35, u36, u37, u38, u39, u40, u41, u42, u43, u44, u45, u46, u47, u48, u49, u50, u51, u52, u53, u54, u55, u56, u57, u58, u59, u60, u61, u62, u63, u64, u65, u66, u67, u68, u69, u70, u71, u72, u73, u74, u75, u76, u77, u78, u79, u80, u81, u82, u83, u84, u85, u86, u87, u88, u89, u90, u91, u92, u93, u94, u95, u96, u97, u98, u99, u100, u101, u102, u103, u104, u105, u106, u107, u108, u109, u110, u111, u112, u113, u114, u115, u116, u117, u118, u119, u120, u121, u122, u123, u124, u125, u126, u127, u128, u129, u130, u131, u132, u133, u134, u135, u136, u137, u138, u139, u140, u141, u142, u143, u144, u145, u146, u147, u148, v149, v150, v151, v152, v153, v154, v155, v156, v157, v158, v159, v160, v161, v162, v163, v164, v165, v166, v167, v168, v169, v170, v171, v172, v173, v174, v175, v176, v177, v178, v179, v180, v181, v182, v183, v184, v185, v186, v187, v188, v189, v190, v191, v192, v193, v194, v195, v196, v197, v198, v199, v200, v201, v202, v203, v204, v205, v206, v207, v208, v209, v210, v211, v212, v213, v214, v215, v216, v217, v218, v219, v220, v221, v222, v223, v224, v225, v226, v227, v228, v229, v230, v231, v232, v233, v234, v235, v236, v237, v238, v239, v240, v241, v242, v243, v244, v245, v246, u247, u248, u249, u250, u251, u252, u253, u254, u255, u256, u257, u258, u259, u260, u261, u262, u263, u264, u265, u266, u267, u268, u269, u270, u271, u272, u273, u274, u275, u276], []⟩ w') :
    Code.wp Try.prog rounds64_code Q0 ⟨#[u0, u1, u2, .pointer (some ⟨KB, 0, none⟩), u4, u5, .pointer (some ⟨WB, 0, none⟩), u7, u8, u9, u10, u11, .pointer (some ⟨V, 0, none⟩), .int .i64 0, u14, u15, u16, u17, u18, u19, u20, u21, u22, u23, u24, u25, u26, u27, u28, u29, u30, u31, u32, u33, u34, u35, u36, u37, u38, u39, u40, u41, u42, u43, u44, u45, u46, u47, u48, u49, u50, u51, u52, u53, u54, u55, u56, u57, u58, u59, u60, u61, u62, u63, u64, u65, u66, u67, u68, u69, u70, u71, u72, u73, u74, u75, u76, u77, u78, u79, u80, u81, u82, u83, u84, u85, u86, u87, u88, u89, u90, u91, u92, u93, u94, u95, u96, u97, u98, u99, u100, u101, u102, u103, u104, u105, u106, u107, u108, u109, u110, u111, u112, u113, u114, u115, u116, u117, u118, u119, u120, u121, u122, u123, u124, u125, u126, u127, u128, u129, u130, u131, u132, u133, u134, u135, u136, u137, u138, u139, u140, u141, u142, u143, u144, u145, u146, u147, u148, u149, u150, u151, u152, u153, u154, u155, u156, u157, u158, u159, u160, u161, u162, u163, u164, u165, u166, u167, u168, u169, u170, u171, u172, u173, u174, u175, u176, u177, u178, u179, u180, u181, u182, u183, u184, u185, u186, u187, u188, u189, u190, u191, u192, u193, u194, u195, u196, u197, u198, u199, u200, u201, u202, u203, u204, u205, u206, u207, u208, u209, u210, u211, u212, u213, u214, u215, u216, u217, u218, u219, u220, u221, u222, u223, u224, u225, u226, u227, u228, u229, u230, u231, u232, u233, u234, u235, u236, u237, u238, u239, u240, u241, u242, u243, u244, u245, u246, u247, u248, u249, u250, u251, u252, u253, u254, u255, u256, u257, u258, u259, u260, u261, u262, u263, u264, u265, u266, u267, u268, u269, u270, u271, u272, u273, u274, u275, u276], []⟩ wr := by
  have HE := Lib.hid hexit
  clear hexit
  conv => arg 2; whnf
  have HWd := Lib.hid hwd
  have HVk := Lib.hid hvk
  have HOk := Lib.hid hok
  clear hwd hvk hok
  go_wp2_with fail
  go_loopw [13] (fun s13 wr => ∃ (i : Nat) (a b c d e f h k : Int), s13 = .int .i64 i ∧ i ≤ 64 ∧ Hid (steps kf (sched mW) i S = ⟨a, b, c, d, e, f, h, k⟩) ∧ Hid (0 ≤ a ∧ a < 4294967296) ∧ Hid (0 ≤ e ∧ e < 4294967296) ∧ Hid (Vk w wr O KB HB MB WB g L P F fW V ⟨a, b, c, d, e, f, h, k⟩)) (fun s13 _ => 64 - (intOf s13).toNat)
  case atStart => exact ⟨0, S.a, S.b, S.c, S.d, S.e, S.f, S.g, S.h, rfl, by omega, Lib.hid rfl, Lib.hid (HOk.out 0), Lib.hid (HOk.out 4), HVk⟩
  case round =>
    clear HVk
    obtain ⟨i, a, b, c, d, e, f, h, k, rfl, hi, HS, HA, HEr, HVk⟩ := hrel
    by_cases hlt : i < 64
    · clear HE
      go_upto_block 9 with (fail)
      refine round9 _ hlt (HWd.out i hlt) HA.out HEr.out HVk.out _ ?_
      intro v14 v15 v16 v17 v18 v153 v154 v155 v156 v157 v158 v159 v160 v161 v162 v163 v164 v165 v166 v167 v168 v169 v170 v171 v172 v173 v174 v175 v176 v177 v178 v179 v180 v181 v182 v183 v184 v185 v186 v187 v188 v189 v190 v191 v192 v193 v194 v195 v196 v197 v198 v199 v200 v201 v202 v203 v204 v205 v206 v207 v208 v209 v210 v211 v212 v213 v214 v215 v216 v217 v218 v219 v220 v221 v222 v223 v224 v225 v226 v227 v228 v229 v230 v231 v232 v233 v234 v235 v236 v237 v238 v239 v240 v241 v242 v243 v244 v245 v246 w' hv'
      have HS2 : Hid (steps kf (sched mW) (i + 1) S = step ⟨a, b, c, d, e, f, h, k⟩ (kf i) (sched mW i)) := Lib.hid (by rw [steps, HS.out])
      have HVk2 := Lib.hid hv'
      have HA2 : Hid (0 ≤ (step ⟨a, b, c, d, e, f, h, k⟩ (kf i) (sched mW i)).a ∧ (step ⟨a, b, c, d, e, f, h, k⟩ (kf i) (sched mW i)).a < 4294967296) := Lib.hid (by rw [step_alt]; dsimp only; omega)
      have HE2 : Hid (0 ≤ (step ⟨a, b, c, d, e, f, h, k⟩ (kf i) (sched mW i)).e ∧ (step ⟨a, b, c, d, e, f, h, k⟩ (kf i) (sched mW i)).e < 4294967296) := Lib.hid (by rw [step_alt]; dsimp only; omega)
      clear hv' HS HA HEr HVk
      generalize step ⟨a, b, c, d, e, f, h, k⟩ (kf i) (sched mW i) = T at *
      obtain ⟨a2, b2, c2, d2, e2, f2, h2, k2⟩ := T
      go_wp2_with fail
      go_roundw
      case rel => exact ⟨i + 1, a2, b2, c2, d2, e2, f2, h2, k2, by go_num, by omega, HS2, HA2, HE2, HVk2⟩
      case measure => simp [intOf]; omega
    · have hV : Hid (Vk w wr O KB HB MB WB g L P F fW V (steps kf (sched mW) 64 S)) := Lib.hid (by
        have e2 : i = 64 := by omega
        have h1 := HS.out
        rw [e2] at h1
        rw [h1]
        exact HVk.out)
      have hd : decide ((i : Int) < 64) = false := by simp; omega
      clear HS HA HEr HVk hi
      go_wp2_with fail
      exact HE.out _ _ _ _ _ _ _ _ _ _ _ _ _ _ _ _ _ _ _ _ _ _ _ _ _ _ _ _ _ _ _ _ _ _ _ _ _ _ _ _ _ _ _ _ _ _ _ _ _ _ _ _ _ _ _ _ _ _ _ _ _ _ _ _ _ _ _ _ _ _ _ _ _ _ _ _ _ _ _ _ _ _ _ _ _ _ _ _ _ _ _ _ _ _ _ _ _ _ _ _ _ _ _ _ _ hV.out
end Go.Proofs.Ytmcmapgllaopmaa.Sm
end

section
/- The document's Of: the rounds' state is added. -/
namespace Go.Proofs.Ytmcmapgllaopmaa.Sm
open Go.RowKit
set_option linter.unusedVariables false

noncomputable def mixed8_code : Code := (Try.f60.body.bind (blockOf 10)).getD .skip
set_option maxRecDepth 1000000 in
set_option maxHeartbeats 4000000 in
theorem mixed8 (wr : World) {u0 u1 u2 u3 u5 u6 u7 u8 u9 u10 u11 u13 u14 u15 u16 u17 u18 u20 u21 u22 u23 u24 u25 u26 u27 u28 u29 u30 u31 u32 u33 u34 u35 u36 u37 u38 u39 u40 u41 u42 u43 u44 u45 u46 u47 u48 u49 u50 u51 u52 u53 u54 u55 u56 u57 u58 u59 u60 u61 u62 u63 u64 u65 u66 u67 u68 u69 u70 u71 u72 u73 u74 u75 u76 u77 u78 u79 u80 u81 u82 u83 u84 u85 u86 u87 u88 u89 u90 u91 u92 u93 u94 u95 u96 u97 u98 u99 u100 u101 u102 u103 u104 u105 u106 u107 u108 u109 u110 u111 u112 u113 u114 u115 u116 u117 u118 u119 u120 u121 u122 u123 u124 u125 u126 u127 u128 u129 u130 u131 u132 u133 u134 u135 u136 u137 u138 u139 u140 u141 u142 u143 u144 u145 u146 u147 u148 u149 u150 u151 u152 u153 u154 u155 u156 u157 u158 u159 u160 u161 u162 u163 u164 u165 u166 u167 u168 u169 u170 u171 u172 u173 u174 u175 u176 u177 u178 u179 u180 u181 u182 u183 u184 u185 u186 u187 u188 u189 u190 u191 u192 u193 u194 u195 u196 u197 u198 u199 u200 u201 u202 u203 u204 u205 u206 u207 u208 u209 u210 u211 u212 u213 u214 u215 u216 u217 u218 u219 u220 u221 u222 u223 u224 u225 u226 u227 u228 u229 u230 u231 u232 u233 u234 u235 u236 u237 u238 u239 u240 u241 u242 u243 u244 u245 u246 u247 u248 u249 u250 u251 u252 u253 u254 u255 u256 u257 u258 u259 u260 u261 u262 u263 u264 u265 u266 u267 u268 u269 u270 u271 u272 u273 u274 u275 u276 : Value} {w : World} {O KB HB MB WB g L V : Nat} {P : List Int} {fW : Nat → Value} {S T : W8} (hvk : Vk w wr O KB HB MB WB g L P (sF S) fW V T) (Q0 : Exit → Act → World → Prop)
    (hexit : ∀ (v19 v247 v248 v249 v250 v251 v252 v253 v254 v255 v256 v257 v258 v259 : Value)  (w' : World), Vk w w' O KB HB MB WB g L P (sF (mixin S T)) fW V T → Q0 .normal ⟨#[u0, u1, u2, u3, .pointer (some ⟨HB, 0, none⟩), u5, u6, u7, u8, u9, u10, u11, .pointer (some ⟨V, 0, none⟩), u13, u14, u15, u16, u17, u18, v19, u20, u21, u22, u23, u24, u25, u26, u27, u28, u29, u30, u31, u32, u33, u34, u35, u36, u37, u38, u39, u40, u41, u42, u43, u44, u45, u46, u47, u48, u49, u50, u51, u52, u53, u54, u55, u56, u57, u58, u59, u60, u61, u62, u63, u64, u65, u66, u67, u68, u69, u70, u71, u72, u73, u74, u75, u76, u77, u78, u79, u80, u81, u82, u83, u84, u85, u86, u87, u88, u89, u90, u91, u92, u93, u94, u95, u96, u97, u98, u99, u100, u101, u102, u103, u104, u105, u106, u107, u108, u109, u110, u111, u112, u113, u114, u115, u116, u117, u118, u119, u120, u121, u122, u123, u124, u125, u126, u127, u128, u129, u130, u131, u132, u133, u134, u135, u136, u137, u138, u139, u140, u141, u142, u143, u144, u145, u146, u147, u148, u149, u150, u151, u152, u153, u154, u155, u156, u157, u158, u159, u160, u161, u162, u163, u164, u165, u166, u167, u168, u169, u170, u171, u172, u173, u174, u175, u176, u177, u178, u179, u180, u181, u182, u183, u184, u185, u186, u187, u188, u189, u190, u191, u192, u193, u194, u195, u196, u197, u198, u199, u200, u201, u202, u203, u204, u205, u206, u207, u208, u209, u210, u211, u212, u213, u214, u215, u216, u217, u218, u219, u220, u221, u222, u223, u224, u225, u226, u227, u228, u229, u230, u231, u232, u233, u234, u235, u236, u237, u238, u239, u240, u241, u242, u243, u244, u245, u246, v247, v248, v249, v250, v251, v252, v253, v254, v255, v256, v257, v258, v259, u260, u261, u262, u263, u264, u265, u266, u267, u268, u269, u270, u271, u272, u273, u274, u275, u276], []⟩ w') :
    Code.wp Try.prog mixed8_code Q0 ⟨#[u0, u1, u2, u3, .pointer (some ⟨HB, 0, none⟩), u5, u6, u7, u8, u9, u10, u11, .pointer (some ⟨V, 0, none⟩), u13, u14, u15, u16, u17, u18, .int .i64 0, u20, u21, u22, u23, u24, u25, u26, u27, u28, u29, u30, u31, u32, u33, u34, u35, u36, u37, u38, u39, u40, u41, u42, u43, u44, u45, u46, u47, u48, u49, u50, u51, u52, u53, u54, u55, u56, u57, u58, u59, u60, u61, u62, u63, u64, u65, u66, u67, u68, u69, u70, u71, u72, u73, u74, u75, u76, u77, u78, u79, u80, u81, u82, u83, u84, u85, u86, u87, u88, u89, u90, u91, u92, u93, u94, u95, u96, u97, u98, u99, u100, u101, u102, u103, u104, u105, u106, u107, u108, u109, u110, u111, u112, u113, u114, u115, u116, u117, u118, u119, u120, u121, u122, u123, u124, u125, u126, u127, u128, u129, u130, u131, u132, u133, u134, u135, u136, u137, u138, u139, u140, u141, u142, u143, u144, u145, u146, u147, u148, u149, u150, u151, u152, u153, u154, u155, u156, u157, u158, u159, u160, u161, u162, u163, u164, u165, u166, u167, u168, u169, u170, u171, u172, u173, u174, u175, u176, u177, u178, u179, u180, u181, u182, u183, u184, u185, u186, u187, u188, u189, u190, u191, u192, u193, u194, u195, u196, u197, u198, u199, u200, u201, u202, u203, u204, u205, u206, u207, u208, u209, u210, u211, u212, u213, u214, u215, u216, u217, u218, u219, u220, u221, u222, u223, u224, u225, u226, u227, u228, u229, u230, u231, u232, u233, u234, u235, u236, u237, u238, u239, u240, u241, u242, u243, u244, u245, u246, u247, u248, u249, u250, u251, u252, u253, u254, u255, u256, u257, u258, u259, u260, u261, u262, u263, u264, u265, u266, u267, u268, u269, u270, u271, u272, u273, u274, u275, u276], []⟩ wr := by
  have HE := Lib.hid hexit
  clear hexit
  conv => arg 2; whnf
  have HVk := Lib.hid (hvk.congr (fun j _ => mix_zero S T j))
  clear hvk
  go_wp2_with fail
  go_loopw [19] (fun s19 wr => ∃ (k : Nat), s19 = .int .i64 k ∧ k ≤ 8 ∧ Hid (Vk w wr O KB HB MB WB g L P (mixF (sF S) S T k) fW V T)) (fun s19 _ => 8 - (intOf s19).toNat)
  case atStart => exact ⟨0, rfl, by omega, HVk⟩
  case round =>
    clear HVk
    obtain ⟨k, rfl, hk, HVk⟩ := hrel
    by_cases hlt : k < 8
    · clear HE
      have hk0 : (0 : Int) ≤ (k : Int) := by omega
      have hk1 : (k : Int) < 8 := by omega
      have ch : wr.cell? ⟨HB, k, none⟩ = some (.int .u32 (S.at k)) := by
        rw [HVk.out.bk.rf.rowH.cell (by omega), mixF, if_neg (by omega)]; rfl
      have cv : wr.cell? ⟨V, k, none⟩ = some (.int .u32 (T.at k)) := HVk.out.rowV.cell (by omega)
      have hfh : wr.frozen? ⟨HB, k, none⟩ = false := HVk.out.bk.rf.rowH.frozen _
      have HB2 : Hid (Vk w (wr.setCell ⟨HB, k, none⟩ (.int .u32 (ad (S.at k) (T.at k)))) O KB HB MB WB g L P (mixF (sF S) S T (k + 1)) fW V T) := Lib.hid ((HVk.out.setH k (.int .u32 (ad (S.at k) (T.at k)))).congr (fun j _ => mix_step S T k j))
      rw [ad] at HB2
      clear HVk
      generalize S.at k = X at *
      generalize T.at k = Y at *
      go_wp2_with fail
      go_still_tail 9, (by kernel_rfl)
      change wpList _ _ _ _ _ wr.drew
      have ch' : wr.drew.cell? ⟨HB, k, none⟩ = some (.int .u32 X) := ch
      have hfh' : wr.drew.frozen? ⟨HB, k, none⟩ = false := hfh
      go_wp2_with fail
      go_roundw
      case rel => exact ⟨k + 1, by go_num, by omega, Lib.hid (HB2.out.same rfl rfl rfl rfl)⟩
      case measure => simp [intOf]; omega
    · have hV : Hid (Vk w wr O KB HB MB WB g L P (sF (mixin S T)) fW V T) := Lib.hid (by
        have e2 : k = 8 := by omega
        have h1 := HVk.out
        rw [e2] at h1
        exact h1.congr (fun j hj => mix_full S T j hj))
      have hd : decide ((k : Int) < 8) = false := by simp; omega
      clear HVk hk
      go_wp2_with fail
      exact HE.out _ _ _ _ _ _ _ _ _ _ _ _ _ _ _ hV.out
end Go.Proofs.Ytmcmapgllaopmaa.Sm
end

section
/- The document's Of: a whole block. -/
namespace Go.Proofs.Ytmcmapgllaopmaa.Sm
open Go.RowKit
set_option linter.unusedVariables false

noncomputable def block64_code : Code := (Try.f60.body.bind (blockOf 3)).getD .skip
set_option maxRecDepth 1000000 in
set_option maxHeartbeats 4000000 in
theorem block64 (wr : World) {u0 u1 u2 u8 u9 u10 u11 u12 u13 u14 u15 u16 u17 u18 u19 u20 u21 u22 u23 u24 u25 u26 u27 u28 u29 u30 u31 u32 u33 u34 u35 u36 u37 u38 u39 u40 u41 u42 u43 u44 u45 u46 u47 u48 u49 u50 u51 u52 u53 u54 u55 u56 u57 u58 u59 u60 u61 u62 u63 u64 u65 u66 u67 u68 u69 u70 u71 u72 u73 u74 u75 u76 u77 u78 u79 u80 u81 u82 u83 u84 u85 u86 u87 u88 u89 u90 u91 u92 u93 u94 u95 u96 u97 u98 u99 u100 u101 u102 u103 u104 u105 u106 u107 u108 u109 u110 u111 u112 u113 u114 u115 u116 u117 u118 u119 u120 u121 u122 u123 u124 u125 u126 u127 u128 u129 u130 u131 u132 u133 u134 u135 u136 u137 u138 u139 u140 u141 u142 u143 u144 u145 u146 u147 u148 u149 u150 u151 u152 u153 u154 u155 u156 u157 u158 u159 u160 u161 u162 u163 u164 u165 u166 u167 u168 u169 u170 u171 u172 u173 u174 u175 u176 u177 u178 u179 u180 u181 u182 u183 u184 u185 u186 u187 u188 u189 u190 u191 u192 u193 u194 u195 u196 u197 u198 u199 u200 u201 u202 u203 u204 u205 u206 u207 u208 u209 u210 u211 u212 u213 u214 u215 u216 u217 u218 u219 u220 u221 u222 u223 u224 u225 u226 u227 u228 u229 u230 u231 u232 u233 u234 u235 u236 u237 u238 u239 u240 u241 u242 u243 u244 u245 u246 u247 u248 u249 u250 u251 u252 u253 u254 u255 u256 u257 u258 u259 u260 u261 u262 u263 u264 u265 u266 u267 u268 u269 u270 u271 u272 u273 u274 u275 u276 : Value} {w : World} {O KB HB MB WB g L C a : Nat} {P : List Int} {S : W8} {fW : Nat → Value} (hnm : Nm L C a P) (hok : S.ok) (hbk : Bk w wr O KB HB MB WB g L P (sF S) fW) (Q0 : Exit → Act → World → Prop)
    (hexit : ∀ (v8 v9 v10 v11 v12 v13 v14 v15 v16 v17 v18 v19 v48 v49 v50 v51 v52 v53 v54 v55 v56 v57 v58 v59 v60 v61 v62 v63 v64 v65 v66 v67 v68 v69 v70 v71 v72 v73 v74 v75 v76 v77 v78 v79 v80 v81 v82 v83 v84 v85 v86 v87 v88 v89 v90 v91 v92 v93 v94 v95 v96 v97 v98 v99 v100 v101 v102 v103 v104 v105 v106 v107 v108 v109 v110 v111 v112 v113 v114 v115 v116 v117 v118 v119 v120 v121 v122 v123 v124 v125 v126 v127 v128 v129 v130 v131 v132 v133 v134 v135 v136 v137 v138 v139 v140 v141 v142 v143 v144 v145 v146 v147 v148 v149 v150 v151 v152 v153 v154 v155 v156 v157 v158 v159 v160 v161 v162 v163 v164 v165 v166 v167 v168 v169 v170 v171 v172 v173 v174 v175 v176 v177 v178 v179 v180 v181 v182 v183 v184 v185 v186 v187 v188 v189 v190 v191 v192 v193 v194 v195 v196 v197 v198 v199 v200 v201 v202 v203 v204 v205 v206 v207 v208 v209 v210 v211 v212 v213 v214 v215 v216 v217 v218 v219 v220 v221 v222 v223 v224 v225 v226 v227 v228 v229 v230 v231 v232 v233 v234 v235 v236 v237 v238 v239 v240 v241 v242 v243 v244 v245 v246 v247 v248 v249 v250 v251 v252 v253 v254 v255 v256 v257 v258 v259 : Value)  (fW : Nat → Value) (w' : World), Bk w w' O KB HB MB WB g L P (sF (block kf S ((P.drop a).take 64))) fW → Q0 .normal ⟨#[u0, u1, u2, .pointer (some ⟨KB, 0, none⟩), .pointer (some ⟨HB, 0, none⟩), .slice (some ⟨g, 0, none⟩) L C, .pointer (some ⟨WB, 0, none⟩), .int .i64 (a : Int), v8, v9, v10, v11, v12, v13, v14, v15, v16, v17, v18, v19, u20, u21, u22, u23, u24, u25, u26, u27, u28, u29, u30, u31, u32, u33, u34, u35, u36, u37, u38, u39, u40, u41, u42, u43, u44, u45, u46, u47, v48, v49, v50, v51, v52, v53, v54, v55, v56, v57, v58, v59, v60, v61, v62, v63, v64, v65, v66, v67, v68, v69, v70, v71, v72, v73, v74, v75, v76, v77, v78, v79, v80, v81, v82, v83, v84, v85, v86, v87, v88, v89, v90, v91, v92, v93, v94, v95, v96, v97, v98, v99, v100, v101, v102, v103, v104, v105, v106, v107, v108, v109, v110, v111, v112, v113, v114, v115, v116, v117, v118, v119, v120, v121, v122, v123, v124, v125, v126, v127, v128, v129, v130, v131, v132, v133, v134, v135, v136, v137, v138, v139, v140, v141, v142, v143, v144, v145, v146, v147, v148, v149, v150, v151, v152, v153, v154, v155, v156, v157, v158, v159, v160, v161, v162, v163, v164, v165, v166, v167, v168, v169, v170, v171, v172, v173, v174, v175, v176, v177, v178, v179, v180, v181, v182, v183, v184, v185, v186, v187, v188, v189, v190, v191, v192, v193, v194, v195, v196, v197, v198, v199, v200, v201, v202, v203, v204, v205, v206, v207, v208, v209, v210, v211, v212, v213, v214, v215, v216, v217, v218, v219, v220, v221, v222, v223, v224, v225, v226, v227, v228, v229, v230, v231, v232, v233, v234, v235, v236, v237, v238, v239, v240, v241, v242, v243, v244, v245, v246, v247, v248, v249, v250, v251, v252, v253, v254, v255, v256, v257, v258, v259, u260, u261, u262, u263, u264, u265, u266, u267, u268, u269, u270, u271, u272, u273, u274, u275, u276], []⟩ w') :
    Code.wp Try.prog block64_code Q0 ⟨#[u0, u1, u2, .pointer (some ⟨KB, 0, none⟩), .pointer (some ⟨HB, 0, none⟩), .slice (some ⟨g, 0, none⟩) L C, .pointer (some ⟨WB, 0, none⟩), .int .i64 (a : Int), u8, u9, u10, u11, u12, u13, u14, u15, u16, u17, u18, u19, u20, u21, u22, u23, u24, u25, u26, u27, u28, u29, u30, u31, u32, u33, u34, u35, u36, u37, u38, u39, u40, u41, u42, u43, u44, u45, u46, u47, u48, u49, u50, u51, u52, u53, u54, u55, u56, u57, u58, u59, u60, u61, u62, u63, u64, u65, u66, u67, u68, u69, u70, u71, u72, u73, u74, u75, u76, u77, u78, u79, u80, u81, u82, u83, u84, u85, u86, u87, u88, u89, u90, u91, u92, u93, u94, u95, u96, u97, u98, u99, u100, u101, u102, u103, u104, u105, u106, u107, u108, u109, u110, u111, u112, u113, u114, u115, u116, u117, u118, u119, u120, u121, u122, u123, u124, u125, u126, u127, u128, u129, u130, u131, u132, u133, u134, u135, u136, u137, u138, u139, u140, u141, u142, u143, u144, u145, u146, u147, u148, u149, u150, u151, u152, u153, u154, u155, u156, u157, u158, u159, u160, u161, u162, u163, u164, u165, u166, u167, u168, u169, u170, u171, u172, u173, u174, u175, u176, u177, u178, u179, u180, u181, u182, u183, u184, u185, u186, u187, u188, u189, u190, u191, u192, u193, u194, u195, u196, u197, u198, u199, u200, u201, u202, u203, u204, u205, u206, u207, u208, u209, u210, u211, u212, u213, u214, u215, u216, u217, u218, u219, u220, u221, u222, u223, u224, u225, u226, u227, u228, u229, u230, u231, u232, u233, u234, u235, u236, u237, u238, u239, u240, u241, u242, u243, u244, u245, u246, u247, u248, u249, u250, u251, u252, u253, u254, u255, u256, u257, u258, u259, u260, u261, u262, u263, u264, u265, u266, u267, u268, u269, u270, u271, u272, u273, u274, u275, u276], []⟩ wr := by
  have HE := Lib.hid hexit
  clear hexit
  conv => arg 2; whnf
  have HNm := Lib.hid hnm
  have HBk := Lib.hid hbk
  have HOk := Lib.hid hok
  clear hbk hnm hok
  have hz3 := zero49
  generalize hZ3 : (uv (List.replicate 8 0)).toArray = Z3 at *
  have HZ3 : Hid (Z3.size = 8) := Lib.hid (by rw [← hZ3, List.size_toArray, uv_len]; rfl)
  clear hZ3
  go_upto_block 4 with (fail)
  refine words _ HNm.out HBk.out _ ?_
  intro v8 v48 v49 v50 v51 v52 v53 v54 v55 v56 v57 v58 v59 v60 v61 v62 v63 v64 v65 v66 v67 v68 v69 v70 v71 v72 v73 v74 v75 v76 v77 v78 v79 v80 v81 v82 v83 v84 v85 v86 v87 v88 v89 v90 v91 v92 v93 v94 fW1 w1 hb1
  obtain ⟨hwd1, hbk1⟩ := hb1
  have HWd1 := Lib.hid hwd1
  have HBk1 := Lib.hid hbk1
  have HMR : Hid (∀ j, 0 ≤ wordsOf ((P.drop a).take 64) j ∧ wordsOf ((P.drop a).take 64) j < 4294967296) := Lib.hid (fun j => word4_range _ _ _ _)
  clear hwd1 hbk1 HBk
  go_upto_block 6 with (fail)
  refine sched64 _ HMR.out HWd1.out HBk1.out _ ?_
  intro v9 v10 v11 v95 v96 v97 v98 v99 v100 v101 v102 v103 v104 v105 v106 v107 v108 v109 v110 v111 v112 v113 v114 v115 v116 v117 v118 v119 v120 v121 v122 v123 v124 v125 v126 v127 v128 v129 v130 v131 v132 v133 v134 v135 v136 v137 v138 v139 v140 v141 v142 v143 v144 v145 v146 v147 fW2 w2 hb2
  obtain ⟨hwd2, hbk2⟩ := hb2
  have HWd2 := Lib.hid hwd2
  have HBk2 := Lib.hid hbk2
  clear hwd2 hbk2 HBk1 HWd1
  have hHs : Hid (w2.rangeAt HB 0 (cellsOf (fun j => sF S (0 + j)) 8)) := Lib.hid (row_range HBk2.out.rf.rowH 0 8 (Nat.le_refl _))
  have HCe : Hid (cellsOf (fun j => sF S (0 + j)) 8 = cellsOf (sF S) 8) := Lib.hid (by congr 1; funext j; rw [Nat.zero_add])
  have HCL : Hid ((Try.prog.info? 158).map (·.size) = some (cellsOf (fun j => sF S (0 + j)) 8).length) := Lib.hid (by rw [cellsOf_length]; kernel_rfl)
  have HC1 : Hid ((cellsOf (fun j => sF S (0 + j)) 8).toArray.all (·.oneCell') = true) := Lib.hid (all_oneCell_toArray (fun v hv => by
    obtain ⟨j, hj, rfl⟩ := List.mem_map.1 hv
    rfl))
  have HCn : Hid ((cellsOf (fun j => sF S (0 + j)) 8).length = 8) := Lib.hid (cellsOf_length _ _)
  generalize cellsOf (fun j => sF S (0 + j)) 8 = CL at *
  have HCL2 : Hid ((Try.prog.info? 158).map (·.size) = some CL.toArray.size) := Lib.hid (by rw [List.size_toArray]; exact HCL.out)
  go_upto_region 22 with (first
    | (refine wpList_load_mid rfl _ _ rfl HB 0 rfl CL _ hHs.out Try.underlying158 rfl HCL.out ?_)
    | (refine wpList_store_mid rfl _ _ _ rfl w2.heap.size 0 CL.toArray rfl rfl (there_new w2 Z3 _ _ (by rw [List.size_toArray, HCn.out, HZ3.out]; exact Nat.le_refl _)) HCL2.out HC1.out ?_))
  have HVk := Lib.hid (Vk.start HBk2.out Z3 HZ3.out CL HCe.out)
  clear hHs HCe HCL HC1 HCn HCL2 HBk2 hz3 HZ3
  change Code.wp _ _ _ _ ((w2.alloc (.cells Z3 158)).setCells w2.heap.size 0 CL) 
  generalize (w2.alloc (.cells Z3 158)).setCells w2.heap.size 0 CL = w3 at *
  generalize w2.heap.size = V at *
  go_upto_block 8 with (fail)
  refine rounds64 _ HOk.out HWd2.out HVk.out _ ?_
  intro v13 v14 v15 v16 v17 v18 v149 v150 v151 v152 v153 v154 v155 v156 v157 v158 v159 v160 v161 v162 v163 v164 v165 v166 v167 v168 v169 v170 v171 v172 v173 v174 v175 v176 v177 v178 v179 v180 v181 v182 v183 v184 v185 v186 v187 v188 v189 v190 v191 v192 v193 v194 v195 v196 v197 v198 v199 v200 v201 v202 v203 v204 v205 v206 v207 v208 v209 v210 v211 v212 v213 v214 v215 v216 v217 v218 v219 v220 v221 v222 v223 v224 v225 v226 v227 v228 v229 v230 v231 v232 v233 v234 v235 v236 v237 v238 v239 v240 v241 v242 v243 v244 v245 v246 w4 hv4
  have HVk4 := Lib.hid hv4
  clear hv4 HVk
  go_upto_block 10 with (fail)
  refine mixed8 _ HVk4.out _ ?_
  intro v19 v247 v248 v249 v250 v251 v252 v253 v254 v255 v256 v257 v258 v259 w5 hv5
  have HBk5 : Hid (Bk w w5 O KB HB MB WB g L P (sF (block kf S ((P.drop a).take 64))) fW2) := Lib.hid hv5.bk
  clear hv5 HVk4
  go_wp2_with fail
  exact HE.out _ _ _ _ _ _ _ _ _ _ _ _ _ _ _ _ _ _ _ _ _ _ _ _ _ _ _ _ _ _ _ _ _ _ _ _ _ _ _ _ _ _ _ _ _ _ _ _ _ _ _ _ _ _ _ _ _ _ _ _ _ _ _ _ _ _ _ _ _ _ _ _ _ _ _ _ _ _ _ _ _ _ _ _ _ _ _ _ _ _ _ _ _ _ _ _ _ _ _ _ _ _ _ _ _ _ _ _ _ _ _ _ _ _ _ _ _ _ _ _ _ _ _ _ _ _ _ _ _ _ _ _ _ _ _ _ _ _ _ _ _ _ _ _ _ _ _ _ _ _ _ _ _ _ _ _ _ _ _ _ _ _ _ _ _ _ _ _ _ _ _ _ _ _ _ _ _ _ _ _ _ _ _ _ _ _ _ _ _ _ _ _ _ _ _ _ _ _ _ _ _ _ _ _ _ _ _ _ _ _ _ _ _ _ _ _ _ _ _ _ _ _ _ _ fW2 _ HBk5.out
end Go.Proofs.Ytmcmapgllaopmaa.Sm
end

section
/- The document's Of: the sum's bytes are laid. -/
namespace Go.Proofs.Ytmcmapgllaopmaa.Sm
open Go.RowKit
set_option linter.unusedVariables false

/-- what stands while the sum's bytes are laid -/
structure Lk (w wr : World) (O HB UB : Nat) (S : W8) (G : Nat → Value) : Prop where
  rowO : wr.rowIs O 37 32 (fun _ => .int .u8 0)
  rowH : wr.rowIs HB 158 8 (sF S)
  rowU : wr.rowIs UB 37 32 G
  bel : Below O w wr
  hOU : O < UB
  hHU : HB < UB
theorem Lk.set {w wr : World} {O HB UB : Nat} {S : W8} {G : Nat → Value} (h : Lk w wr O HB UB S G) (k : Nat) (v : Value) : Lk w (wr.setCell ⟨UB, k, none⟩ v) O HB UB S (fun j => if j = k then v else G j) :=
  ⟨h.rowO.setOther (Nat.ne_of_lt h.hOU) v, h.rowH.setOther (Nat.ne_of_lt h.hHU) v, h.rowU.set k v, h.bel.setCell (Nat.le_of_lt h.hOU) v, h.hOU, h.hHU⟩
/-- the bytes are laid up to k -/
def Gd (S : W8) (G : Nat → Value) (k : Nat) : Prop := ∀ j, j < k → G j = .int .u8 ((dig S).getD j 0)
theorem Gd.more {S : W8} {G : Nat → Value} {k : Nat} (h : Gd S G k) (x : Int) (hx : x = (dig S).getD k 0) : Gd S (fun j => if j = k then .int .u8 x else G j) (k + 1) := by
  intro j hj
  show (if j = k then Value.int .u8 x else G j) = _
  by_cases e : j = k
  · subst e; rw [if_pos rfl, hx]
  · rw [if_neg e]; exact h j (by omega)

noncomputable def out32_code : Code := (Try.f60.body.bind (blockOf 12)).getD .skip
set_option maxRecDepth 1000000 in
set_option maxHeartbeats 4000000 in
theorem out32 (wr : World) {u0 u1 u2 u3 u5 u6 u7 u8 u9 u10 u11 u12 u13 u14 u15 u16 u17 u18 u19 u22 u23 u24 u25 u26 u27 u28 u29 u30 u31 u32 u33 u34 u35 u36 u37 u38 u39 u40 u41 u42 u43 u44 u45 u46 u47 u48 u49 u50 u51 u52 u53 u54 u55 u56 u57 u58 u59 u60 u61 u62 u63 u64 u65 u66 u67 u68 u69 u70 u71 u72 u73 u74 u75 u76 u77 u78 u79 u80 u81 u82 u83 u84 u85 u86 u87 u88 u89 u90 u91 u92 u93 u94 u95 u96 u97 u98 u99 u100 u101 u102 u103 u104 u105 u106 u107 u108 u109 u110 u111 u112 u113 u114 u115 u116 u117 u118 u119 u120 u121 u122 u123 u124 u125 u126 u127 u128 u129 u130 u131 u132 u133 u134 u135 u136 u137 u138 u139 u140 u141 u142 u143 u144 u145 u146 u147 u148 u149 u150 u151 u152 u153 u154 u155 u156 u157 u158 u159 u160 u161 u162 u163 u164 u165 u166 u167 u168 u169 u170 u171 u172 u173 u174 u175 u176 u177 u178 u179 u180 u181 u182 u183 u184 u185 u186 u187 u188 u189 u190 u191 u192 u193 u194 u195 u196 u197 u198 u199 u200 u201 u202 u203 u204 u205 u206 u207 u208 u209 u210 u211 u212 u213 u214 u215 u216 u217 u218 u219 u220 u221 u222 u223 u224 u225 u226 u227 u228 u229 u230 u231 u232 u233 u234 u235 u236 u237 u238 u239 u240 u241 u242 u243 u244 u245 u246 u247 u248 u249 u250 u251 u252 u253 u254 u255 u256 u257 u258 u259 u260 u261 u262 u263 u264 u265 u266 u267 u268 u269 u270 u271 u272 u273 u274 u275 u276 : Value} {w : World} {O HB UB : Nat} {S : W8} {G : Nat → Value} (hok : S.ok) (hlk : Lk w wr O HB UB S G) (Q0 : Exit → Act → World → Prop)
    (hexit : ∀ (v21 v260 v261 v262 v263 v264 v265 v266 v267 v268 v269 v270 v271 v272 v273 v274 v275 : Value)  (G : Nat → Value) (w' : World), Gd S G 32 ∧ Lk w w' O HB UB S G → Q0 .normal ⟨#[u0, u1, u2, u3, .pointer (some ⟨HB, 0, none⟩), u5, u6, u7, u8, u9, u10, u11, u12, u13, u14, u15, u16, u17, u18, u19, .pointer (some ⟨UB, 0, none⟩), v21, u22, u23, u24, u25, u26, u27, u28, u29, u30, u31, u32, u33, u34, u35, u36, u37, u38, u39, u40, u41, u42, u43, u44, u45, u46, u47, u48, u49, u50, u51, u52, u53, u54, u55, u56, u57, u58, u59, u60, u61, u62, u63, u64, u65, u66, u67, u68, u69, u70, u71, u72, u73, u74, u75, u76, u77, u78, u79, u80, u81, u82, u83, u84, u85, u86, u87, u88, u89, u90, u91, u92, u93, u94, u95, u96, u97, u98, u99, u100, u101, u102, u103, u104, u105, u106, u107, u108, u109, u110, u111, u112, u113, u114, u115, u116, u117, u118, u119, u120, u121, u122, u123, u124, u125, u126, u127, u128, u129, u130, u131, u132, u133, u134, u135, u136, u137, u138, u139, u140, u141, u142, u143, u144, u145, u146, u147, u148, u149, u150, u151, u152, u153, u154, u155, u156, u157, u158, u159, u160, u161, u162, u163, u164, u165, u166, u167, u168, u169, u170, u171, u172, u173, u174, u175, u176, u177, u178, u179, u180, u181, u182, u183, u184, u185, u186, u187, u188, u189, u190, u191, u192, u193, u194, u195, u196, u197, u198, u199, u200, u201, u202, u203, u204, u205, u206, u207, u208, u209, u210, u211, u212, u213, u214, u215, u216, u217, u218, u219, u220, u221, u222, u223, u224, u225, u226, u227, u228, u229, u230, u231, u232, u233, u234, u235, u236, u237, u238, u239, u240, u241, u242, u243, u244, u245, u246, u247, u248, u249, u250, u251, u252, u253, u254, u255, u256, u257, u258, u259, v260, v261, v262, v263, v264, v265, v266, v267, v268, v269, v270, v271, v272, v273, v274, v275, u276], []⟩ w') :
    Code.wp Try.prog out32_code Q0 ⟨#[u0, u1, u2, u3, .pointer (some ⟨HB, 0, none⟩), u5, u6, u7, u8, u9, u10, u11, u12, u13, u14, u15, u16, u17, u18, u19, .pointer (some ⟨UB, 0, none⟩), .int .i64 0, u22, u23, u24, u25, u26, u27, u28, u29, u30, u31, u32, u33, u34, u35, u36, u37, u38, u39, u40, u41, u42, u43, u44, u45, u46, u47, u48, u49, u50, u51, u52, u53, u54, u55, u56, u57, u58, u59, u60, u61, u62, u63, u64, u65, u66, u67, u68, u69, u70, u71, u72, u73, u74, u75, u76, u77, u78, u79, u80, u81, u82, u83, u84, u85, u86, u87, u88, u89, u90, u91, u92, u93, u94, u95, u96, u97, u98, u99, u100, u101, u102, u103, u104, u105, u106, u107, u108, u109, u110, u111, u112, u113, u114, u115, u116, u117, u118, u119, u120, u121, u122, u123, u124, u125, u126, u127, u128, u129, u130, u131, u132, u133, u134, u135, u136, u137, u138, u139, u140, u141, u142, u143, u144, u145, u146, u147, u148, u149, u150, u151, u152, u153, u154, u155, u156, u157, u158, u159, u160, u161, u162, u163, u164, u165, u166, u167, u168, u169, u170, u171, u172, u173, u174, u175, u176, u177, u178, u179, u180, u181, u182, u183, u184, u185, u186, u187, u188, u189, u190, u191, u192, u193, u194, u195, u196, u197, u198, u199, u200, u201, u202, u203, u204, u205, u206, u207, u208, u209, u210, u211, u212, u213, u214, u215, u216, u217, u218, u219, u220, u221, u222, u223, u224, u225, u226, u227, u228, u229, u230, u231, u232, u233, u234, u235, u236, u237, u238, u239, u240, u241, u242, u243, u244, u245, u246, u247, u248, u249, u250, u251, u252, u253, u254, u255, u256, u257, u258, u259, u260, u261, u262, u263, u264, u265, u266, u267, u268, u269, u270, u271, u272, u273, u274, u275, u276], []⟩ wr := by
  have HE := Lib.hid hexit
  clear hexit
  conv => arg 2; whnf
  have HLk := Lib.hid hlk
  have HOk := Lib.hid hok
  clear hlk hok
  go_wp2_with fail
  go_loopw [21] (fun s21 wr => ∃ (k : Nat) (G : Nat → Value), s21 = .int .i64 k ∧ k ≤ 32 ∧ Hid (Gd S G k) ∧ Hid (Lk w wr O HB UB S G)) (fun s21 _ => 32 - (intOf s21).toNat)
  case atStart => exact ⟨0, G, rfl, by omega, Lib.hid (fun j hj => absurd hj (by omega)), HLk⟩
  case round =>
    clear HLk
    obtain ⟨k, G, rfl, hk, HG, HLk⟩ := hrel
    by_cases hlt : k < 32
    · clear HE
      obtain ⟨q, hq⟩ : ∃ q, q = k / 4 := ⟨_, rfl⟩
      obtain ⟨x, hx⟩ : ∃ x, x = S.at q := ⟨_, rfl⟩
      have hr := HOk.out q
      rw [← hx] at hr
      obtain ⟨x0, x1⟩ := hr
      have hq4 : (k : Int) / 4 = (q : Int) := by omega
      have hq0 : (0 : Int) ≤ (q : Int) := by omega
      have hq8 : (q : Int) < 8 := by omega
      have hk0 : (0 : Int) ≤ (k : Int) := by omega
      have hk1 : (k : Int) < 32 := by omega
      have ch : wr.cell? ⟨HB, q, none⟩ = some (.int .u32 x) := by
        rw [HLk.out.rowH.cell (by omega), hx]; rfl
      have hcu : wr.cell? ⟨UB, k, none⟩ = some (G k) := HLk.out.rowU.cell (by omega)
      have hfu : wr.frozen? ⟨UB, k, none⟩ = false := HLk.out.rowU.frozen _
      have HX := Lib.hid hx
      have HL2 := Lib.hid (fun v : Value => HLk.out.set k v)
      clear hx HLk
      rcases (show k % 4 = 0 ∨ k % 4 = 1 ∨ k % 4 = 2 ∨ k % 4 = 3 by omega) with hm | hm | hm | hm
      · have hm4 : (k : Int) % 4 = 0 := by omega
        have HG2 := Lib.hid (HG.out.more (x / 16777216) (by
          have h := dig_word S q 0 (by omega) (by omega)
          rw [show k = 4 * q + 0 by omega, h, HX.out]
          rfl))
        clear hm hq HG
        go_wp2_with fail
        go_roundw
        case rel => exact ⟨k + 1, _, by go_num, by omega, HG2, Lib.hid (HL2.out _)⟩
        case measure => simp [intOf]; omega
      · have hm4 : (k : Int) % 4 = 1 := by omega
        have HG2 := Lib.hid (HG.out.more (x / 65536 % 256) (by
          have h := dig_word S q 1 (by omega) (by omega)
          rw [show k = 4 * q + 1 by omega, h, HX.out]
          rfl))
        clear hm hq HG
        go_wp2_with fail
        go_roundw
        case rel => exact ⟨k + 1, _, by go_num, by omega, HG2, Lib.hid (HL2.out _)⟩
        case measure => simp [intOf]; omega
      · have hm4 : (k : Int) % 4 = 2 := by omega
        have HG2 := Lib.hid (HG.out.more (x / 256 % 256) (by
          have h := dig_word S q 2 (by omega) (by omega)
          rw [show k = 4 * q + 2 by omega, h, HX.out]
          rfl))
        clear hm hq HG
        go_wp2_with fail
        go_roundw
        case rel => exact ⟨k + 1, _, by go_num, by omega, HG2, Lib.hid (HL2.out _)⟩
        case measure => simp [intOf]; omega
      · have hm4 : (k : Int) % 4 = 3 := by omega
        have HG2 := Lib.hid (HG.out.more (x % 256) (by
          have h := dig_word S q 3 (by omega) (by omega)
          rw [show k = 4 * q + 3 by omega, h, HX.out]
          rfl))
        clear hm hq HG
        go_wp2_with fail
        go_roundw
        case rel => exact ⟨k + 1, _, by go_num, by omega, HG2, Lib.hid (HL2.out _)⟩
        case measure => simp [intOf]; omega
    · have hG : Hid (Gd S G 32) := Lib.hid (by
        have e2 : k = 32 := by omega
        rw [← e2]
        exact HG.out)
      have hd : decide ((k : Int) < 32) = false := by simp; omega
      clear HG hk
      go_wp2_with fail
      exact HE.out _ _ _ _ _ _ _ _ _ _ _ _ _ _ _ _ _ G _ ⟨hG.out, HLk.out⟩
end Go.Proofs.Ytmcmapgllaopmaa.Sm
end
