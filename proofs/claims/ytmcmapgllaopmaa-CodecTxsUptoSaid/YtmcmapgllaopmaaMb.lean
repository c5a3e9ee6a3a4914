/- Texts of one's own, merged: CdIdx, CdPar, CdPars, CdCommit, CdPc, CdFin, CdCur, CdCb, CdCuId, CdREntry, CdRParse, CdKeep, CdApk, CdTx0, CdTxR, CdTxP, CdTxW, CdTxX. -/
import Derived.Test.YtmcmapgllaopmaaMa

section
namespace Go.Proofs.Ytmcmapgllaopmaa.Cd
open Go.RowKit
set_option linter.unusedVariables false
/-- a row of Ids that is read -/
structure RdIds (w : World) (A : Option Addr) (n C : Nat) (l : List (List Int)) : Prop where
  cap : n ≤ C
  max : C ≤ 9223372036854775807
  big : n ≤ 1000000
  len : l.length = n
  ids : ∀ x ∈ l, x.length = 32
  cell : 0 < n → ∃ g o, A = some ⟨g, o, Option.none⟩ ∧ g < w.heap.size ∧ ∀ i, i < n → w.rangeAt g (o + i * 32) (bv (l.getD i []))
theorem RdIds.below {w w' : World} {A : Option Addr} {n C : Nat} {l : List (List Int)} (h : RdIds w A n C l) (hb : Below w.heap.size w w') : RdIds w' A n C l :=
  ⟨h.cap, h.max, h.big, h.len, h.ids, fun h0 => by
    obtain ⟨g, o, h1, h2, h3⟩ := h.cell h0
    exact ⟨g, o, h1, Nat.lt_of_lt_of_le h2 hb.size, fun i hi => range_below hb (h3 i hi) h2⟩⟩
end Go.Proofs.Ytmcmapgllaopmaa.Cd
end

section
namespace Go.Proofs.Ytmcmapgllaopmaa.Cd
open Go.RowKit
set_option linter.unusedVariables false
/-- why a parent may not stand behind those ahead -/
def cp (p : List Int) (l : List (List Int)) : Int := if p = List.replicate 32 0 then 1 else if p ∈ l then 18 else 0
end Go.Proofs.Ytmcmapgllaopmaa.Cd
end

section
namespace Go.Proofs.Ytmcmapgllaopmaa.Cd
open Go.RowKit
set_option linter.unusedVariables false
def idsV (l : List (List Int)) : List Value := l.flatMap bv
end Go.Proofs.Ytmcmapgllaopmaa.Cd
end

section
namespace Go.Proofs.Ytmcmapgllaopmaa.Cd
open Go.RowKit
set_option linter.unusedVariables false
def cm (tree : List Int) (ps : Value) (au : ByteArray) (tm : Int) (ms : ByteArray) : List Value := bv tree ++ [ps, .string au, .int .i64 tm, .string ms]
/-- the commit's cells, by their index -/
def cmF (tr : List Int) (ps : Value) (au : ByteArray) (tm : Int) (ms : ByteArray) : Nat → Value := fun j => if j = 32 then ps else if j = 33 then .string au else if j = 34 then .int .i64 tm else if j = 35 then .string ms else .int .u8 (tr.getD j 0)
theorem cm_one (tr : List Int) (ps : Value) (au : ByteArray) (tm : Int) (ms : ByteArray) (hp : ps.oneCell' = true) : ∀ v ∈ cm tr ps au tm ms, v.oneCell' = true := by
  intro v hv
  unfold cm at hv
  rcases List.mem_append.1 hv with h | h
  · exact bv_one _ v h
  · simp only [List.mem_cons, List.not_mem_nil, or_false] at h
    rcases h with rfl | rfl | rfl | rfl
    · exact hp
    · rfl
    · rfl
    · rfl
/-- a time out of bytes -/
def tv (l : List Int) : Int := l.foldl (fun x c => bits .or .i64 (wrap64 (x * 256)) c) 0
theorem tv_step (l : List Int) (k : Nat) (h : k < l.length) : tv (l.take (k + 1)) = bits .or .i64 (wrap64 (tv (l.take k) * 256)) (l.getD k 0) := by
  unfold tv
  rw [List.take_succ_eq_append_getElem h, List.foldl_append]
  simp only [List.foldl_cons, List.foldl_nil, List.getD, List.getElem?_eq_getElem h, Option.getD_some]
end Go.Proofs.Ytmcmapgllaopmaa.Cd
end

section
namespace Go.Proofs.Ytmcmapgllaopmaa.Cd
open Go.RowKit
set_option linter.unusedVariables false
theorem results_cell2 {P : Program} {fn : Func} {p q : Tmp} {ty : TypeId} (h : fn.results = #[.cell p ty, .tmp q]) (tmps : Array Value) (w : World) (g : Nat) (t : TypeId) (cs : Array Value) (fr : Nat × Nat) (d : TypeDesc)
    (hp : tmps.getD p undef = .pointer (some ⟨g, 0, none⟩)) (hg : w.heap[g]? = some (.cells cs t fr))
    (hu : P.underlying ty = some d) (hd : (match d with | .struct _ | .array _ _ => true | _ => false) = true) (hi : (P.info? ty).map (·.size) = some cs.size) (v : Value) (hv : tmps.getD q undef = v) :
    (results fn tmps).run P w = .ok (.tuple #[.agg cs, v]) w := by
  have hp' : tmps[p]?.getD undef = .pointer (some ⟨g, 0, none⟩) := by simpa using hp
  have hv' : tmps[q]?.getD undef = v := by simpa using hv
  simp [results, h, hp', hv', asAddr, run_loadVar_row w g t ty cs fr d hg hu hd hi]
/-- no commit -/
def cm0 : List Value := cm (List.replicate 32 0) (.slice none 0 0) ByteArray.empty 0 ByteArray.empty
theorem step_store_mid {ops : Array Oper} {o : Oper} {a : Act} {w : World} {K : Act → World → Prop} {Q : Exit → Act → World → Prop} {E : Prop} (hgd : o.guard = none) (ty : TypeId) (x y : Operand) (ho : o.op = .store ty x y)
    (b off : Nat) (cells : Array Value) (hx : a.eval x = .pointer (some ⟨b, off, none⟩)) (hy : a.eval y = .agg cells)
    (ht : w.there b off cells.size) (hi : (Try.prog.info? ty).map (·.size) = some cells.size) (h1 : cells.all (·.oneCell') = true)
    (h : K (a.put o.dst undef) (w.setCells b off cells.toList)) : if Region.wanted o (yielded ops a.tmps) = true then Oper.wp Try.prog o a w K Q else E := by
  have hw : Region.wanted o (yielded ops a.tmps) = true := by simp [Region.wanted, hgd]
  rw [if_pos hw]
  exact wp_store_mid ty x y ho b off cells hx hy ht hi h1 h
/-- a pointer's block's cells, all of them, stored: what the store and the result ask -/
structure Fin (w0 : World) (B : Nat) (w : World) (O : Nat) (ty : TypeId) (D : List Value) : Prop where
  there : w.there O 0 D.toArray.size
  size : (Try.prog.info? ty).map (·.size) = some D.toArray.size
  one : D.toArray.all (·.oneCell') = true
  stored : (w.setCells O 0 D).heap[O]? = some (.cells D.toArray ty (0, 0))
  bel : Below B w0 (w.setCells O 0 D)
theorem below_cells {B O : Nat} {w0 : World} (hO : B ≤ O) : ∀ (vs : List Value) (o : Nat) (w : World), Below B w0 w → Below B w0 (w.setCells O o vs)
  | [], _, _, h => h
  | v :: vs, o, w, h => below_cells hO vs (o + 1) _ (h.setCell (p := ⟨O, o, none⟩) hO v)
theorem Fin.mk' {w0 w : World} {B O : Nat} {D : List Value} {f : Nat → Value} (hl : D.length = 36) (h1 : ∀ v ∈ D, v.oneCell' = true) (hr : w.rowIs O 40 36 f) (hb : Below B w0 w) (hO : B ≤ O) : Fin w0 B w O 40 D :=
  ⟨fun j hj => by
    rw [List.size_toArray, hl] at hj
    rw [Nat.zero_add]
    exact ⟨by rw [hr.cell hj]; rfl, hr.frozen _⟩, by rw [List.size_toArray, hl]; kernel_rfl, all_oneCell_toArray h1, row_stored hr D hl, below_cells hO D 0 w hb⟩
theorem _root_.Go.World.rangeAt.lt_of {w : World} {b o : Nat} {cs : List Value} (h : w.rangeAt b o cs) (h0 : 0 < cs.length) : b < w.heap.size := by
  obtain ⟨v, hv⟩ : ∃ v, cs[0]? = some v := ⟨cs[0], List.getElem?_eq_getElem h0⟩
  have := h 0 v hv
  exact block_lt_of_cell this
theorem cm0_len : cm0.length = 36 := by simp [cm0, cm, bv]
theorem cm0_one : ∀ v ∈ cm0, v.oneCell' = true := cm_one _ _ _ _ _ rfl
end Go.Proofs.Ytmcmapgllaopmaa.Cd
end

section
namespace Go.Proofs.Ytmcmapgllaopmaa.Cd
open Go.RowKit
set_option linter.unusedVariables false
theorem Fin.mkN {w0 w : World} {B O n : Nat} {t : TypeId} {D : List Value} {f : Nat → Value} (hi : (Try.prog.info? t).map (·.size) = some n) (hl : D.length = n) (h1 : ∀ v ∈ D, v.oneCell' = true) (hr : w.rowIs O t n f) (hb : Below B w0 w) (hO : B ≤ O) : Fin w0 B w O t D :=
  ⟨fun j hj => by
    rw [List.size_toArray, hl] at hj
    rw [Nat.zero_add]
    exact ⟨by rw [hr.cell hj]; rfl, hr.frozen _⟩, by rw [List.size_toArray, hl]; exact hi, all_oneCell_toArray h1, row_stored hr D hl, below_cells hO D 0 w hb⟩
theorem infoId : (Try.prog.info? 37).map (·.size) = some 32 := by kernel_rfl
/-- a value of many cells laid in a block of its own -/
theorem lay_new (w : World) (t : TypeId) (n : Nat) (Z : Array Value) (D : List Value) (hi : (Try.prog.info? t).map (·.size) = some n) (hZ : Z.size = n) (hl : D.length = n) (h1 : ∀ v ∈ D, v.oneCell' = true) :
    Fin w w.heap.size (w.alloc (.cells Z t)) w.heap.size t D ∧ ((w.alloc (.cells Z t)).setCells w.heap.size 0 D).rangeAt w.heap.size 0 D := by
  have hr := row_new w Z t
  rw [hZ] at hr
  have hf := Fin.mkN (f := fun i => Z.getD i undef) hi hl h1 hr ((Below.refl w.heap.size w).alloc (Nat.le_refl _) (.cells Z t)) (Nat.le_refl _)
  exact ⟨hf, World.rangeAt_setCells_same _ _ _ _ (by have := hf.there; rwa [List.size_toArray] at this)⟩
end Go.Proofs.Ytmcmapgllaopmaa.Cd
end

section
namespace Go.Proofs.Ytmcmapgllaopmaa.Cd
open Go.RowKit
set_option linter.unusedVariables false
/-- the place's cells -/
def cuF (A : Option Addr) (L C p : Nat) (cut : Bool) : Nat → Value
  | 0 => .slice A L C
  | 1 => .int .i64 (p : Int)
  | 2 => .bool cut
  | _ => undef
structure Cu (w : World) (R : Nat) (A : Option Addr) (L C : Nat) (l : List Int) (p : Nat) (cut : Bool) : Prop where
  row : w.rowIs R 99 3 (cuF A L C p cut)
  rd : RdB w A L C l
  apart : ∀ x, A = some x → 0 < L → x.block ≠ R
  le : p ≤ L
theorem Cu.c0 {w : World} {R : Nat} {A : Option Addr} {L C : Nat} {l : List Int} {p : Nat} {cut : Bool} (h : Cu w R A L C l p cut) : w.cell? ⟨R, 0, none⟩ = some (.slice A L C) := h.row.cell (by omega)
theorem Cu.c1 {w : World} {R : Nat} {A : Option Addr} {L C : Nat} {l : List Int} {p : Nat} {cut : Bool} (h : Cu w R A L C l p cut) : w.cell? ⟨R, 1, none⟩ = some (.int .i64 (p : Int)) := h.row.cell (by omega)
theorem Cu.c2 {w : World} {R : Nat} {A : Option Addr} {L C : Nat} {l : List Int} {p : Nat} {cut : Bool} (h : Cu w R A L C l p cut) : w.cell? ⟨R, 2, none⟩ = some (.bool cut) := h.row.cell (by omega)
theorem Cu.setP {w : World} {R : Nat} {A : Option Addr} {L C : Nat} {l : List Int} {p : Nat} {cut : Bool} (h : Cu w R A L C l p cut) (q : Nat) (hq : q ≤ L) : Cu (w.setCell ⟨R, 1, none⟩ (.int .i64 (q : Int))) R A L C l q cut :=
  ⟨(h.row.set 1 _).congr (fun j _ => by
    match j with
    | 0 => rfl
    | 1 => rfl
    | 2 => rfl
    | j + 3 => rfl), h.rd.grown (grown_set w R 1 _) h.apart, h.apart, hq⟩
theorem Cu.setC {w : World} {R : Nat} {A : Option Addr} {L C : Nat} {l : List Int} {p : Nat} {cut : Bool} (h : Cu w R A L C l p cut) (c : Bool) : Cu (w.setCell ⟨R, 2, none⟩ (.bool c)) R A L C l p c :=
  ⟨(h.row.set 2 _).congr (fun j _ => by
    match j with
    | 0 => rfl
    | 1 => rfl
    | 2 => rfl
    | j + 3 => rfl), h.rd.grown (grown_set w R 2 _) h.apart, h.apart, h.le⟩
theorem Cu.drewN {w : World} {R : Nat} {A : Option Addr} {L C : Nat} {l : List Int} {p : Nat} {cut : Bool} (h : Cu w R A L C l p cut) (n : Nat) : Cu (w.drewN n) R A L C l p cut :=
  ⟨h.row, ⟨h.rd.len, h.rd.cap, h.rd.max, h.rd.big, h.rd.none, h.rd.byte, h.rd.cell⟩, h.apart, h.le⟩
theorem Cu.below {w w' : World} {R : Nat} {A : Option Addr} {L C : Nat} {l : List Int} {p : Nat} {cut : Bool} (h : Cu w R A L C l p cut) (hb : Below w.heap.size w w') : Cu w' R A L C l p cut :=
  ⟨h.row.of_block (hb.block R h.row.lt), h.rd.below hb, h.apart, h.le⟩
/-- what is behind a piece of n bytes -/
def cuC (cut : Bool) (p n L : Nat) : Bool := cut || decide (L - p < n)
def cuP (cut : Bool) (p n L : Nat) : Nat := if cuC cut p n L = true then p else p + n
def cuB (cut : Bool) (l : List Int) (p n L : Nat) : List Int := if cuC cut p n L = true then [] else (l.drop p).take n
theorem cu_yes {cut : Bool} {p n L : Nat} (h : cuC cut p n L = true) (l : List Int) : cuP cut p n L = p ∧ cuB cut l p n L = [] := ⟨by unfold cuP; rw [if_pos h], by unfold cuB; rw [if_pos h]⟩
theorem cu_no {cut : Bool} {p n L : Nat} (h : cuC cut p n L = false) (l : List Int) : cuP cut p n L = p + n ∧ cuB cut l p n L = (l.drop p).take n := ⟨by unfold cuP; rw [if_neg (by rw [h]; decide)], by unfold cuB; rw [if_neg (by rw [h]; decide)]⟩
set_option maxHeartbeats 1000000 in
theorem get_any (A : Option Addr) (L C : Nat) (l : List Int) (p n : Nat) (w : World) (h : RdB w A L C l) (hn : p + n ≤ L) :
    Calls Try.prog 66 #[.slice A L C, .int .i64 p, .int .i64 n] w fun e w' => e = .returned (.int .i64 (tv ((l.drop p).take n))) ∧ w' = w := by
  have HRd := Lib.hid h
  have hbig := h.big
  have hcap := h.cap
  have hmax := h.max
  have HL := Lib.hid h.len
  clear h
  go_enter Try.func66, Try.ntmps66
  go_wp2
  go_loop [7, 8] (fun s7 s8 => ∃ k : Nat, s7 = .int .i64 (tv (((l.drop p).take n).take k)) ∧ s8 = .int .i64 k ∧ k ≤ n) (fun _ s8 => n - (intOf s8).toNat)
  case atStart => exact ⟨0, rfl, rfl, Nat.zero_le _⟩
  case round =>
    obtain ⟨k, rfl, rfl, hk⟩ := hrel
    by_cases hlt : k < n
    · obtain ⟨g, o, rfl, hgl, hcc⟩ := HRd.out.at (by omega)
      obtain ⟨q, hq⟩ : ∃ q, q = p + k := ⟨_, rfl⟩
      have hc : w.cell? ⟨g, o + q, none⟩ = some (.int .u8 (l.getD q 0)) := hcc q (by omega)
      have hb := HRd.out.byte q (by omega)
      have hb0 := hb.1
      have hb1 := hb.2
      have hll := HL.out
      have hst := tv_step ((l.drop p).take n) k (by rw [List.length_take, List.length_drop]; omega)
      have hgd : ((l.drop p).take n).getD k 0 = l.getD q 0 := by rw [hq]; simp [List.getD, hlt]
      rw [hgd] at hst
      have HSt := Lib.hid hst
      have hqe : (p : Int) + (k : Int) = (q : Int) := by omega
      have hkl : decide ((k : Int) < (n : Int)) = true := by simp; omega
      have z0 : (0 : Int) ≤ (q : Int) := by omega
      have z1 : (q : Int) < (L : Int) := by omega
      have z2 : IntKind.i64.wrap (q : Int) = (q : Int) := IntWalk.i64_in _ (by omega)
      clear hcc hb hst hgd hq hll
      generalize tv (((l.drop p).take n).take k) = Y at *
      generalize l.getD q 0 = c at *
      go_wp2_with fail
      go_round
      case rel => exact ⟨k + 1, by rw [HSt.out], by go_num, by omega⟩
      case measure => simp [intOf]; omega
    · have hX : tv (((l.drop p).take n).take k) = tv ((l.drop p).take n) := by rw [List.take_of_length_le (by rw [List.length_take]; omega)]
      have HX := Lib.hid hX
      have hd : decide ((k : Int) < (n : Int)) = false := by simp; omega
      clear hX
      generalize tv (((l.drop p).take n).take k) = X at *
      go_wp2_with fail
      go_ret
      exact ⟨ret_int HX.out, rfl⟩
/-- the number told, and the place behind -/
def CnRet (R : Nat) (A : Option Addr) (L C : Nat) (l : List Int) (p : Nat) (cut : Bool) (n : Nat) (w : World) (e : Ending) (w' : World) : Prop :=
  e = .returned (.int .i64 (tv (cuB cut l p n L))) ∧ Cu w' R A L C l (cuP cut p n L) (cuC cut p n L) ∧ w.grownBy w' (some R)
theorem grown_drewN (w : World) (R n : Nat) : w.grownBy (w.drewN n) (some R) := ⟨rfl, rfl, rfl, Nat.le_refl _, fun _ _ _ => rfl⟩
theorem grown_setN (w : World) (R n i : Nat) (v : Value) : w.grownBy ((w.drewN n).setCell ⟨R, i, none⟩ v) (some R) := grown_trans (grown_drewN w R n) (grown_set _ R i v)
set_option maxHeartbeats 1000000 in
theorem cnum_r (R : Nat) (A : Option Addr) (L C : Nat) (l : List Int) (p : Nat) (cut : Bool) (n : Nat) (w : World) (h : Cu w R A L C l p cut) (hn : n ≤ 100000) :
    Calls Try.prog 47 #[.pointer (some ⟨R, 0, none⟩), .int .i64 n] w (CnRet R A L C l p cut n w) := by
  have H := Lib.hid h
  have hle := h.le
  have hbig := h.rd.big
  have hcap := h.rd.cap
  have hmax := h.rd.max
  have hc0 := h.c0
  have hc1 := h.c1
  have hc2 := h.c2
  have hf2 : w.frozen? ⟨R, 2, none⟩ = false := h.row.frozen 2
  have hf1 : w.frozen? ⟨R, 1, none⟩ = false := h.row.frozen 1
  clear h
  cases cut with
  | true =>
    have HC : Hid (cuC true p n L = true) := Lib.hid rfl
    have HS := Lib.hid (fun k => (H.out.drewN k).setC true)
    go_enter Try.func47, Try.ntmps47
    go_wp2
    go_quiet (fail)
    go_wp2
    go_ret
    refine ⟨ret_int ?_, ?_, grown_setN w R _ 2 _⟩
    · rw [(cu_yes HC.out l).2]; rfl
    · rw [(cu_yes HC.out l).1, HC.out]; exact HS.out _
  | false =>
    by_cases hlt : L - p < n
    · have HC : Hid (cuC false p n L = true) := Lib.hid (by unfold cuC; simp [hlt])
      have hd : decide ((L : Int) - (p : Int) < (n : Int)) = true := by simp; omega
      have HS := Lib.hid (fun k => (H.out.drewN k).setC true)
      go_enter Try.func47, Try.ntmps47
      go_wp2
      go_quiet (fail)
      go_wp2
      go_ret
      refine ⟨ret_int ?_, ?_, grown_setN w R _ 2 _⟩
      · rw [(cu_yes HC.out l).2]; rfl
      · rw [(cu_yes HC.out l).1, HC.out]; exact HS.out _
    · have HC : Hid (cuC false p n L = false) := Lib.hid (by unfold cuC; simp [hlt])
      have hd : decide ((L : Int) - (p : Int) < (n : Int)) = false := by simp; omega
      obtain ⟨q, hq⟩ : ∃ q, q = p + n := ⟨_, rfl⟩
      have hqe : (p : Int) + (n : Int) = (q : Int) := by omega
      have HQ := Lib.hid hq
      generalize hV : tv ((l.drop p).take n) = V at *
      have HV := Lib.hid hV
      clear hV hq
      go_enter Try.func47, Try.ntmps47
      go_wp2
      go_quiet (fail)
      go_wp2_with fail
      have HS0 := Lib.hid (H.out.drewN nq)
      have HG0 := Lib.hid (grown_drewN w R nq)
      clear H hc0 hc1 hc2 hf1 hf2
      generalize w.drewN nq = w1 at *
      have HS := Lib.hid (fun k => (HS0.out.drewN k).setP q (by have := HQ.out; omega))
      have HG := Lib.hid (fun k => get_any A L C l p n (w1.drewN k) (HS0.out.drewN k).rd (by omega))
      rw [HV.out] at HG
      have hc0 := HS0.out.c0
      have hc1 := HS0.out.c1
      have hf1 : w1.frozen? ⟨R, 1, none⟩ = false := HS0.out.row.frozen 1
      go_quiet ((go_at_call 66; with_reducible exact Calls.quiet_of_same (HG.out _)))
      go_wp2_with fail
      go_ret
      refine ⟨ret_int ?_, ?_, grown_trans HG0.out (grown_setN _ R _ 1 _)⟩
      · rw [(cu_no HC.out l).2, HV.out]
      · rw [(cu_no HC.out l).1, HC.out, ← HQ.out]; exact HS.out _
end Go.Proofs.Ytmcmapgllaopmaa.Cd
end

section
namespace Go.Proofs.Ytmcmapgllaopmaa.Cd
open Go.RowKit
set_option linter.unusedVariables false
theorem step_append_rd (w : World) {ops : Array Oper} {o : Oper} {a : Act} {K : Act → World → Prop} {Q : Exit → Act → World → Prop} {E : Prop} (hgd : o.guard = none) (s x : Operand)
    (ho : o.op = .call { callee := .builtin .append, args := #[s, x], argTypes := #[23, 23] })
    (B : Nat) (v : Value) (n : Nat) (d : List Int) (hs : a.eval s = v) (hown : w.ownsRow B 5 1 v n (bv d))
    (A : Option Addr) (m c : Nat) (l : List Int) (hx : a.eval x = .slice A m c) (hsl : RdB w A m c l)
    (hbytes : (n + m) * 1 ≤ 140737488355328) (hbase : B ≤ w.heap.size)
    (h : ∀ A' C' w', w'.ownsRow B 5 1 (.slice A' (n + m) C') (n + m) (bv (d ++ l)) → Below B w w' → K (a.put o.dst (.slice A' (n + m) C')) w') :
    if Region.wanted o (yielded ops a.tmps) = true then Oper.wp Try.prog o a w K Q else E := by
  have hw : Region.wanted o (yielded ops a.tmps) = true := by simp [Region.wanted, hgd]
  rw [if_pos hw]
  obtain ⟨i0, hi, hz0, hz1, hz2⟩ := info_parts info5
  have key : ∃ A' C' w', (Builtin.append_ #[23, 23] o.type #[v, .slice A m c]).run Try.prog w = .ok (.slice A' (n + m) C') w' ∧ w'.ownsRow B 5 1 (.slice A' (n + m) C') (n + m) (bv (d ++ l)) ∧ Below B w w' := by
    cases A with
    | none =>
      have hc := hsl.none rfl
      have hm : m = 0 := by have := hsl.cap; omega
      subst hm hc
      obtain rfl : l = [] := List.eq_nil_of_length_eq_zero hsl.len
      obtain ⟨A', C', rfl⟩ := own_slice' hown
      refine ⟨A', C', w, run_append_owned_none (P := Try.prog) w B 23 o.type 5 i0 1 Try.underlying23 hi _ _ _ hown, ?_, Below.refl B w⟩
      rw [List.append_nil]
      exact hown
    | some y =>
      obtain ⟨-, hcc⟩ := hsl.cell y rfl
      have hll := hsl.len
      have hnw : ∀ j u, (bv l)[j]? = some u → w.cell? (y.add j) = some u := by
        intro j u hj
        have hj1 := (List.getElem?_eq_some_iff.1 hj).1
        rw [bv, List.length_map, hll] at hj1
        rw [hcc j hj1, ← hj]
        simp [bv, hll, hj1]
      obtain ⟨v', w', hr, h2, h3, h4⟩ := run_append_own (P := Try.prog) w B 23 o.type 5 i0 (.int .u8 0) 1 1 Try.underlying23 hi hz0 hz1 hz2 rfl (by decide) v n (bv d) hown y m c (bv l) (by rw [bv, List.length_map, hll]; omega) hnw (bv_one l) (by unfold maxLen; omega) hbytes hbase
      obtain ⟨A', C', rfl⟩ := own_slice' h2
      exact ⟨A', C', w', hr, by rw [show bv (d ++ l) = bv d ++ bv l from by simp [bv]]; exact h2, below_grown hbase hown h3⟩
  obtain ⟨A', C', w', hr, h2, h3⟩ := key
  unfold Oper.wp execOp
  simp only [ho, resolve, invoke, builtin, Sem.run_bind, Sem.run_pure, Result.andThen_ok, List.map_toArray, List.map_cons, List.map_nil, hs, hx, hr]
  exact h A' C' w' h2 h3
/-- the bytes told, a row of one's own, and the place behind -/
def CbRet (R : Nat) (A : Option Addr) (L C : Nat) (l : List Int) (p : Nat) (cut : Bool) (n : Nat) (w : World) (e : Ending) (w' : World) : Prop :=
  ∃ A' C', e = .returned (.slice A' (cuB cut l p n L).length C') ∧ w'.ownsRow w.heap.size 5 1 (.slice A' (cuB cut l p n L).length C') (cuB cut l p n L).length (bv (cuB cut l p n L)) ∧ Cu w' R A L C l (cuP cut p n L) (cuC cut p n L) ∧ w.grownBy w' (some R)
theorem own_nil (w : World) (B : Nat) : w.ownsRow B 5 1 (.slice none 0 0) 0 (bv []) := ⟨by simp [bv], .inl ⟨rfl, rfl⟩⟩
set_option maxRecDepth 100000 in
set_option maxHeartbeats 1000000 in
theorem cbytes_r (R : Nat) (A : Option Addr) (L C : Nat) (l : List Int) (p : Nat) (cut : Bool) (n : Nat) (w : World) (h : Cu w R A L C l p cut) (hn : n ≤ 4294967296) :
    Calls Try.prog 56 #[.pointer (some ⟨R, 0, none⟩), .int .i64 n] w (CbRet R A L C l p cut n w) := by
  have H := Lib.hid h
  have hle := h.le
  have hRl := h.row.lt
  have hbig := h.rd.big
  have hcap := h.rd.cap
  have hmax := h.rd.max
  have hc0 := h.c0
  have hc1 := h.c1
  have hc2 := h.c2
  have hf2 : w.frozen? ⟨R, 2, none⟩ = false := h.row.frozen 2
  have hf1 : w.frozen? ⟨R, 1, none⟩ = false := h.row.frozen 1
  clear h
  by_cases hcc : cuC cut p n L = true
  · have HS := Lib.hid (fun k => (H.out.drewN k).setC true)
    have HC := Lib.hid hcc
    cases cut with
    | true =>
      go_enter Try.func56, Try.ntmps56
      go_wp2
      go_quiet (fail)
      go_wp2
      go_ret
      refine ⟨none, 0, ?_, ?_, ?_, grown_setN w R _ 2 _⟩
      · rw [(cu_yes HC.out l).2]; rfl
      · rw [(cu_yes HC.out l).2]; exact own_nil _ _
      · rw [(cu_yes HC.out l).1, HC.out]; exact HS.out _
    | false =>
      have hd : decide ((L : Int) - (p : Int) < (n : Int)) = true := by
        have : decide (L - p < n) = true := by simpa [cuC] using hcc
        have := of_decide_eq_true this
        simp; omega
      clear hcc
      go_enter Try.func56, Try.ntmps56
      go_wp2
      go_quiet (fail)
      go_wp2
      go_ret
      refine ⟨none, 0, ?_, ?_, ?_, grown_setN w R _ 2 _⟩
      · rw [(cu_yes HC.out l).2]; rfl
      · rw [(cu_yes HC.out l).2]; exact own_nil _ _
      · rw [(cu_yes HC.out l).1, HC.out]; exact HS.out _
  · have hcf : cuC cut p n L = false := by simpa using hcc
    have hcut : cut = false := by
      cases cut with
      | false => rfl
      | true => exact absurd rfl hcc
    subst hcut
    have hlt : ¬ L - p < n := by
      have : decide (L - p < n) = false := by simpa [cuC] using hcf
      exact of_decide_eq_false this
    have HC := Lib.hid hcf
    clear hcc hcf
    have hd : decide ((L : Int) - (p : Int) < (n : Int)) = false := by simp; omega
    obtain ⟨q, hq⟩ : ∃ q, q = p + n := ⟨_, rfl⟩
    have hqe : (p : Int) + (n : Int) = (q : Int) := by omega
    have HQ := Lib.hid hq
    have z1 : (0 : Int) ≤ (p : Int) := by omega
    have z2 : (q : Int) ≤ (L : Int) := by omega
    have z3 : (q : Int) ≤ (C : Int) := by omega
    have z4 : (p : Int) ≤ (q : Int) := by omega
    have w1' : IntKind.i64.wrap (q : Int) = (q : Int) := IntWalk.i64_in _ (by omega)
    have w2' : IntKind.i64.wrap (p : Int) = (p : Int) := IntWalk.i64_in _ (by omega)
    have w3' : q - p = n := by omega
    clear hq
    go_enter Try.func56, Try.ntmps56
    go_wp2
    go_quiet (fail)
    go_wp2_with fail
    have HS0 := Lib.hid (H.out.drewN nq)
    have HG0 := Lib.hid (grown_drewN w R nq)
    have HB0 : Hid (w.heap.size = (w.drewN nq).heap.size) := Lib.hid rfl
    clear H hc0 hc1 hc2 hf1 hf2
    generalize w.drewN nq = w1 at *
    have hc0 := HS0.out.c0
    have hc1 := HS0.out.c1
    have dC : Hid (w1.drew.cell? ⟨R, 0, none⟩ = some (.slice A L C) ∧ w1.drew.cell? ⟨R, 1, none⟩ = some (.int .i64 (p : Int))) := Lib.hid ⟨hc0, hc1⟩
    obtain ⟨A2, hA2⟩ : ∃ A2, A2 = (if C = p then A else A.map (fun x => x.add p)) := ⟨_, rfl⟩
    have HRd := Lib.hid (rd_cut (HS0.out.drewN 1).rd p n (by omega) hle A2 hA2)
    have hcut2 := hA2.symm
    clear hA2
    refine wp_region_noPanic ?_
    refine wp_region_held_drew (S := (fun wS => wS.cell? ⟨R, 0, none⟩ = some (.slice A L C) ∧ wS.cell? ⟨R, 1, none⟩ = some (.int .i64 (p : Int)))) (by kernel_rfl) ?_ (fun hHeld => ?_)
    · ((try dsimp only); exact ⟨dC.out.1, dC.out.2⟩)
    refine wpAnyH_take (i := 1) (oi := { dst := some 28, op := Op.move (Operand.tmp 0), type := 97, pos := "ref.go:93", after := #[], guard := none }) (v := ?_) rfl (by kernel_rfl) (by kernel_rfl) (by kernel_rfl) (fun _ _ _ h => h) (Or.inl ⟨by rfl, ?_⟩) (by assumption) ?_
    rotate_left 1
    · ((intro w hSw; (try dsimp only at hSw); go_simp) <;> with_reducible rfl)
    (try simp only [Act.put, List.setIfInBounds_toArray, List.set_cons_zero, List.set_cons_succ])
    refine wpAnyH_take (i := 2) (oi := { dst := some 29, op := Op.nilCheck (Operand.tmp 28), type := 0, pos := "ref.go:93", after := #[{ on := 1, ground := Ground.data }], guard := none }) (v := ?_) rfl (by kernel_rfl) (by kernel_rfl) (by kernel_rfl) (fun _ _ _ h => h) (Or.inl ⟨by rfl, ?_⟩) (by assumption) ?_
    rotate_left 1
    · ((intro w hSw; (try dsimp only at hSw); go_simp) <;> with_reducible rfl)
    (try simp only [Act.put, List.setIfInBounds_toArray, List.set_cons_zero, List.set_cons_succ])
    refine wpAnyH_take (i := 3) (oi := { dst := some 30, op := Op.fieldAddr 99 (Operand.tmp 29) 0, type := 0, pos := "ref.go:93", after := #[{ on := 2, ground := Ground.data }], guard := none }) (v := ?_) rfl (by kernel_rfl) (by kernel_rfl) (by kernel_rfl) (fun _ _ _ h => h) (Or.inl ⟨by rfl, ?_⟩) (by assumption) ?_
    rotate_left 1
    · ((intro w hSw; (try dsimp only at hSw); go_simp) <;> with_reducible rfl)
    (try simp only [Act.put, List.setIfInBounds_toArray, List.set_cons_zero, List.set_cons_succ])
    refine wpAnyH_take (i := 4) (oi := { dst := some 31, op := Op.load 23 (Operand.tmp 30), type := 23, pos := "ref.go:93", after := #[{ on := 3, ground := Ground.data }], guard := none }) (v := ?_) rfl (by kernel_rfl) (by kernel_rfl) (by kernel_rfl) (fun _ _ _ h => h) (Or.inl ⟨by rfl, ?_⟩) (by assumption) ?_
    rotate_left 1
    · ((intro w hSw; (try dsimp only at hSw); go_simp) <;> with_reducible rfl)
    (try simp only [Act.put, List.setIfInBounds_toArray, List.set_cons_zero, List.set_cons_succ])
    refine wpAnyH_take (i := 5) (oi := { dst := some 32, op := Op.move (Operand.tmp 0), type := 97, pos := "ref.go:93", after := #[], guard := none }) (v := ?_) rfl (by kernel_rfl) (by kernel_rfl) (by kernel_rfl) (fun _ _ _ h => h) (Or.inl ⟨by rfl, ?_⟩) (by assumption) ?_
    rotate_left 1
    · ((intro w hSw; (try dsimp only at hSw); go_simp) <;> with_reducible rfl)
    (try simp only [Act.put, List.setIfInBounds_toArray, List.set_cons_zero, List.set_cons_succ])
    refine wpAnyH_take (i := 6) (oi := { dst := some 33, op := Op.nilCheck (Operand.tmp 32), type := 0, pos := "ref.go:93", after := #[{ on := 5, ground := Ground.data }], guard := none }) (v := ?_) rfl (by kernel_rfl) (by kernel_rfl) (by kernel_rfl) (fun _ _ _ h => h) (Or.inl ⟨by rfl, ?_⟩) (by assumption) ?_
    rotate_left 1
    · ((intro w hSw; (try dsimp only at hSw); go_simp) <;> with_reducible rfl)
    (try simp only [Act.put, List.setIfInBounds_toArray, List.set_cons_zero, List.set_cons_succ])
    refine wpAnyH_take (i := 7) (oi := { dst := some 34, op := Op.fieldAddr 99 (Operand.tmp 33) 1, type := 0, pos := "ref.go:93", after := #[{ on := 6, ground := Ground.data }], guard := none }) (v := ?_) rfl (by kernel_rfl) (by kernel_rfl) (by kernel_rfl) (fun _ _ _ h => h) (Or.inl ⟨by rfl, ?_⟩) (by assumption) ?_
    rotate_left 1
    · ((intro w hSw; (try dsimp only at hSw); go_simp) <;> with_reducible rfl)
    (try simp only [Act.put, List.setIfInBounds_toArray, List.set_cons_zero, List.set_cons_succ])
    refine wpAnyH_take (i := 8) (oi := { dst := some 35, op := Op.load 3 (Operand.tmp 34), type := 3, pos := "ref.go:93", after := #[{ on := 7, ground := Ground.data }], guard := none }) (v := ?_) rfl (by kernel_rfl) (by kernel_rfl) (by kernel_rfl) (fun _ _ _ h => h) (Or.inl ⟨by rfl, ?_⟩) (by assumption) ?_
    rotate_left 1
    · ((intro w hSw; (try dsimp only at hSw); go_simp) <;> with_reducible rfl)
    (try simp only [Act.put, List.setIfInBounds_toArray, List.set_cons_zero, List.set_cons_succ])
    refine wpAnyH_take (i := 9) (oi := { dst := some 36, op := Op.move (Operand.tmp 0), type := 97, pos := "ref.go:93", after := #[], guard := none }) (v := ?_) rfl (by kernel_rfl) (by kernel_rfl) (by kernel_rfl) (fun _ _ _ h => h) (Or.inl ⟨by rfl, ?_⟩) (by assumption) ?_
    rotate_left 1
    · ((intro w hSw; (try dsimp only at hSw); go_simp) <;> with_reducible rfl)
    (try simp only [Act.put, List.setIfInBounds_toArray, List.set_cons_zero, List.set_cons_succ])
    refine wpAnyH_take (i := 10) (oi := { dst := some 37, op := Op.nilCheck (Operand.tmp 36), type := 0, pos := "ref.go:93", after := #[{ on := 9, ground := Ground.data }], guard := none }) (v := ?_) rfl (by kernel_rfl) (by kernel_rfl) (by kernel_rfl) (fun _ _ _ h => h) (Or.inl ⟨by rfl, ?_⟩) (by assumption) ?_
    rotate_left 1
    · ((intro w hSw; (try dsimp only at hSw); go_simp) <;> with_reducible rfl)
    (try simp only [Act.put, List.setIfInBounds_toArray, List.set_cons_zero, List.set_cons_succ])
    refine wpAnyH_take (i := 11) (oi := { dst := some 38, op := Op.fieldAddr 99 (Operand.tmp 37) 1, type := 0, pos := "ref.go:93", after := #[{ on := 10, ground := Ground.data }], guard := none }) (v := ?_) rfl (by kernel_rfl) (by kernel_rfl) (by kernel_rfl) (fun _ _ _ h => h) (Or.inl ⟨by rfl, ?_⟩) (by assumption) ?_
    rotate_left 1
    · ((intro w hSw; (try dsimp only at hSw); go_simp) <;> with_reducible rfl)
    (try simp only [Act.put, List.setIfInBounds_toArray, List.set_cons_zero, List.set_cons_succ])
    refine wpAnyH_take (i := 12) (oi := { dst := some 39, op := Op.load 3 (Operand.tmp 38), type := 3, pos := "ref.go:93", after := #[{ on := 11, ground := Ground.data }], guard := none }) (v := ?_) rfl (by kernel_rfl) (by kernel_rfl) (by kernel_rfl) (fun _ _ _ h => h) (Or.inl ⟨by rfl, ?_⟩) (by assumption) ?_
    rotate_left 1
    · ((intro w hSw; (try dsimp only at hSw); go_simp) <;> with_reducible rfl)
    (try simp only [Act.put, List.setIfInBounds_toArray, List.set_cons_zero, List.set_cons_succ])
    refine wpAnyH_take (i := 13) (oi := { dst := some 40, op := Op.move (Operand.tmp 1), type := 3, pos := "ref.go:93", after := #[], guard := none }) (v := ?_) rfl (by kernel_rfl) (by kernel_rfl) (by kernel_rfl) (fun _ _ _ h => h) (Or.inl ⟨by rfl, ?_⟩) (by assumption) ?_
    rotate_left 1
    · ((intro w hSw; (try dsimp only at hSw); go_simp) <;> with_reducible rfl)
    (try simp only [Act.put, List.setIfInBounds_toArray, List.set_cons_zero, List.set_cons_succ])
    refine wpAnyH_take (i := 14) (oi := { dst := some 41, op := Op.binOp BinOp.add 3 (Operand.tmp 39) (Operand.tmp 40) 3, type := 3, pos := "ref.go:93", after := #[{ on := 12, ground := Ground.data }, { on := 13, ground := Ground.data }], guard := none }) (v := ?_) rfl (by kernel_rfl) (by kernel_rfl) (by kernel_rfl) (fun _ _ _ h => h) (Or.inl ⟨by rfl, ?_⟩) (by assumption) ?_
    rotate_left 1
    · ((intro w hSw; (try dsimp only at hSw); go_simp) <;> with_reducible rfl)
    (try simp only [Act.put, List.setIfInBounds_toArray, List.set_cons_zero, List.set_cons_succ])
    refine wpAnyH_take (i := 15) (oi := { dst := some 42, op := Op.slice 23 (Operand.tmp 31) (some (Operand.tmp 35)) (some (Operand.tmp 41)) none, type := 23, pos := "ref.go:93", after := #[{ on := 4, ground := Ground.data }, { on := 8, ground := Ground.data }, { on := 14, ground := Ground.data }], guard := none }) (v := ?_) rfl (by kernel_rfl) (by kernel_rfl) (by kernel_rfl) (fun _ _ _ h => h) (Or.inl ⟨by rfl, ?_⟩) (by assumption) ?_
    rotate_left 1
    · ((intro w hSw; (try dsimp only at hSw); go_simp) <;> with_reducible rfl)
    (try simp only [Act.put, List.setIfInBounds_toArray, List.set_cons_zero, List.set_cons_succ])
    refine wpAnyH_ready (rs := [0]) (by kernel_rfl) (by simp) ?_
    refine AllReadyH.cons (o := { dst := some 27, op := Op.buildSlice 23 0 #[], type := 23, pos := "ref.go:93", after := #[], guard := none }) rfl (fun K hK => ?_) ?_
    · go_simp
      have eC : Hid ((w1.drew.alloc (.cells #[] 5)).cell? ⟨R, 0, none⟩ = some (.slice A L C) ∧ (w1.drew.alloc (.cells #[] 5)).cell? ⟨R, 1, none⟩ = some (.int .i64 (p : Int))) := Lib.hid ⟨al_keep dC.out.1 _, al_keep dC.out.2 _⟩
      have dO := Lib.hid (own_lit w1.drew [] (Nat.zero_le _))
      have dR := Lib.hid (HRd.out.below ((Below.refl w1.drew.heap.size w1.drew).alloc (Nat.le_refl _) (.cells #[] 5)))
      have hsd : w1.drew.heap.size ≤ (w1.drew.alloc (.cells #[] 5)).heap.size := al_le _ _
      clear dC
      have dC := eC
      clear eC
      (try go_wp2_with fail)
      refine hK.out _ _ ?_ (fun hNew => ?_)
      · ((try dsimp only); exact ⟨dC.out.1, dC.out.2⟩)
      clear hK K hHeld
      have hHeld := hNew
      clear hNew
      (try simp only [Act.put, List.setIfInBounds_toArray, List.set_cons_zero, List.set_cons_succ])
      refine wpAnyH_ready (rs := [16]) (by kernel_rfl) (by simp) ?_
      refine AllReadyH.cons (o := { dst := some 43, op := Op.call { callee := Callee.builtin Builtin.append, args := #[Operand.tmp 27, Operand.tmp 42], argTypes := #[23, 23] }, type := 23, pos := "ref.go:93", after := #[{ on := 0, ground := Ground.data }, { on := 15, ground := Ground.data }], guard := none }) rfl (fun K hK => ?_) ?_
      · refine step_append_rd _ rfl _ _ rfl w1.drew.heap.size _ 0 [] rfl dO.out A2 n (C - p) ((l.drop p).take n) rfl dR.out (by omega) hsd ?_
        intro A' C' w3 ho hb
        have hb2 := ((Below.refl w1.drew.heap.size w1.drew).alloc (Nat.le_refl _) (.cells #[] 5)).trans hb
        have dU := Lib.hid ((HS0.out.drewN 1).below hb2)
        have dB := Lib.hid hb2
        have dO3 := Lib.hid ho
        have eC : Hid (w3.cell? ⟨R, 0, none⟩ = some (.slice A L C) ∧ w3.cell? ⟨R, 1, none⟩ = some (.int .i64 (p : Int))) := Lib.hid ⟨dU.out.c0, dU.out.c1⟩
        clear dC ho hb hb2 dO dR hsd
        have dC := eC
        clear eC
        (try go_wp2_with fail)
        refine hK.out _ _ ?_ (fun hNew => ?_)
        · ((try dsimp only); exact ⟨dC.out.1, dC.out.2⟩)
        clear hK K hHeld
        have hHeld := hNew
        clear hNew
        (try simp only [Act.put, List.setIfInBounds_toArray, List.set_cons_zero, List.set_cons_succ])
        refine wpAnyH_take (i := 17) (oi := { dst := some 5, op := Op.assign (Operand.tmp 43), type := 23, pos := "ref.go:93", after := #[{ on := 16, ground := Ground.data }, { on := 16, ground := Ground.chain }, { on := 0, ground := Ground.phase }, { on := 1, ground := Ground.phase }, { on := 2, ground := Ground.phase }, { on := 3, ground := Ground.phase }, { on := 4, ground := Ground.phase }, { on := 5, ground := Ground.phase }, { on := 6, ground := Ground.phase }, { on := 7, ground := Ground.phase }, { on := 8, ground := Ground.phase }, { on := 9, ground := Ground.phase }, { on := 10, ground := Ground.phase }, { on := 11, ground := Ground.phase }, { on := 12, ground := Ground.phase }, { on := 13, ground := Ground.phase }, { on := 14, ground := Ground.phase }, { on := 15, ground := Ground.phase }, { on := 16, ground := Ground.phase }], guard := none }) (v := ?_) rfl (by kernel_rfl) (by kernel_rfl) (by kernel_rfl) (fun _ _ _ h => h) (Or.inl ⟨by rfl, ?_⟩) (by assumption) ?_
        rotate_left 1
        · ((intro w hSw; (try dsimp only at hSw); go_simp) <;> with_reducible rfl)
        (try simp only [Act.put, List.setIfInBounds_toArray, List.set_cons_zero, List.set_cons_succ])
        refine wpAnyH_done (by kernel_rfl) ?_ _
        refine NoPanic.normal ?_
        clear hHeld
        have hlen : ((l.drop p).take n).length = n := HRd.out.len
        have dO4 : Hid (w3.ownsRow w.heap.size 5 1 (.slice A' n C') n (bv ((l.drop p).take n))) := Lib.hid (by
          have h := dO3.out
          rw [Nat.zero_add, List.nil_append] at h
          rw [HB0.out]
          exact h)
        have hc1' := dC.out.2
        have hf1' : w3.frozen? ⟨R, 1, none⟩ = false := dU.out.row.frozen 1
        have HSx := Lib.hid (dU.out.setP q (by have := HQ.out; omega))
        have HOx := Lib.hid (own_grown dO4.out (grown_set w3 R 1 (.int .i64 (q : Int))) (fun e => by have := (dO4.out.lt R e).1; omega))
        have HGx : Hid (w.grownBy (w3.setCell ⟨R, 1, none⟩ (.int .i64 (q : Int))) (some R)) := Lib.hid (by
          have hb := dB.out
          have h1 : w1.grownBy w3 (some R) := ⟨hb.os, hb.tape, hb.output, hb.size, fun i hi _ => hb.block i hi⟩
          exact grown_trans (grown_trans HG0.out h1) (grown_set w3 R 1 _))
        have HLn := Lib.hid hlen
        clear hlen dO3 dO4 dC dB dU hc0 hc1 HRd
        go_wp2_with fail
        go_ret
        refine ⟨A', C', ?_, ?_, ?_, HGx.out⟩
        · rw [(cu_no HC.out l).2, HLn.out]; rfl
        · rw [(cu_no HC.out l).2, HLn.out]; exact HOx.out
        · rw [(cu_no HC.out l).1, HC.out, ← HQ.out]; exact HSx.out
      exact AllReadyH.nil
    exact AllReadyH.nil
end Go.Proofs.Ytmcmapgllaopmaa.Cd
end

section
namespace Go.Proofs.Ytmcmapgllaopmaa.Cd
open Go.RowKit
set_option linter.unusedVariables false
theorem tv_snoc (l : List Int) (c : Int) : tv (l ++ [c]) = bits .or .i64 (wrap64 (tv l * 256)) c := by simp [tv]
/-- a number of at most four bytes -/
theorem tv_nv : ∀ (k : Nat) (l : List Int), k ≤ 4 → l.length ≤ k → (∀ i, i < l.length → 0 ≤ l.getD i 0 ∧ l.getD i 0 ≤ 255) → tv l = nv l := by
  intro k
  induction k with
  | zero =>
    intro l _ hl _
    obtain rfl : l = [] := List.eq_nil_of_length_eq_zero (by omega)
    rfl
  | succ k ih =>
    intro l hk hl hb
    rcases List.eq_nil_or_concat l with rfl | ⟨m, c, rfl⟩
    · rfl
    · rw [List.concat_eq_append] at *
      have hbm : ∀ i, i < m.length → 0 ≤ m.getD i 0 ∧ m.getD i 0 ≤ 255 := fun i hi => by
        have := hb i (by simp; omega)
        simpa [List.getD, List.getElem?_append_left hi] using this
      have h1 := ih m (by omega) (by simp at hl; omega) hbm
      have h2 := hb m.length (by simp)
      have h3 : (m ++ [c]).getD m.length 0 = c := by simp [List.getD]
      rw [h3] at h2
      have h4 := nv_small m 3 (by omega) (by simp at hl; omega) hbm
      rw [tv_snoc, nv_snoc, h1]
      have hw : wrap64 (nv m * 256) = nv m * 256 := IntWalk.wrap64_in _ (by omega)
      rw [hw, or_low _ _ h4.1 h4.2 h2.1 h2.2]
theorem cuB_len (cut : Bool) (l : List Int) (p n L : Nat) : (cuB cut l p n L).length ≤ n := by
  unfold cuB
  split
  · simp
  · rw [List.length_take]; omega
theorem cuB_byte {cut : Bool} {l : List Int} {p n L : Nat} (hl : l.length = L) (hb : ∀ i, i < L → 0 ≤ l.getD i 0 ∧ l.getD i 0 ≤ 255) : ∀ i, i < (cuB cut l p n L).length → 0 ≤ (cuB cut l p n L).getD i 0 ∧ (cuB cut l p n L).getD i 0 ≤ 255 := by
  unfold cuB
  split
  · intro i hi; exact absurd hi (by simp)
  · intro i hi
    rw [List.length_take, List.length_drop] at hi
    rw [take_getD _ _ _ (by omega)]
    have := hb (p + i) (by omega)
    simpa [List.getD] using this
/-- bytes laid one by one -/
def atF (T : List Int) (k : Nat) : Nat → Value := fun j => .int .u8 (if j < k then T.getD j 0 else 0)
theorem atF_step (T : List Int) (k : Nat) (j : Nat) : (if j = k then Value.int .u8 (T.getD k 0) else atF T k j) = atF T (k + 1) j := by
  unfold atF
  by_cases h : j = k
  · subst h; simp
  · rw [if_neg h]
    by_cases h2 : j < k
    · rw [if_pos h2, if_pos (by omega)]
    · rw [if_neg h2, if_neg (by omega)]
set_option maxHeartbeats 1000000 in
theorem at_any (A : Option Addr) (C : Nat) (l : List Int) (w : World) (h : RdB w A 32 C l) :
    Calls Try.prog 86 #[.slice A 32 C, .int .i64 0] w fun e w' => e = .returned (.agg (bv l).toArray) ∧ Below w.heap.size w w' := by
  have hz1 := zero32
  have hll := h.len
  generalize hZ1 : (bv (List.replicate 32 0)).toArray = Z1 at *
  have HZ1 := Lib.hid hZ1
  have HO1 : Hid ((w.alloc (.cells Z1 37)).rowIs w.heap.size 37 32 (fun _ => .int .u8 0)) := Lib.hid (by rw [← HZ1.out]; exact row_zeros w 32 _)
  have hX1 : (w.alloc (.cells Z1 37)).heap.size = w.heap.size + 1 := by show (w.heap.push _).size = _; simp
  have HB1 := Lib.hid ((Below.refl w.heap.size w).alloc (Nat.le_refl _) (.cells Z1 37))
  have HI2 : Hid (((w.alloc (.cells Z1 37)).alloc (.cells Z1 37)).rowIs (w.alloc (.cells Z1 37)).heap.size 37 32 (atF l 0)) := Lib.hid (by
    have h := row_zeros (w.alloc (.cells Z1 37)) 32 37
    rw [hZ1] at h
    exact h.congr (fun j _ => by unfold atF; rw [if_neg (by omega)]))
  have HO2 := Lib.hid (World.rowIs.alloc HO1.out (.cells Z1 37))
  have HB2 := Lib.hid (HB1.out.alloc (show w.heap.size ≤ (w.alloc (.cells Z1 37)).heap.size by omega) (.cells Z1 37))
  have HRd := Lib.hid (h.below HB2.out)
  have HLt : Hid (∀ x, A = some x → x.block < w.heap.size) := Lib.hid (fun x hx => (h.cell x hx).1 (by omega))
  have hcap := h.cap
  have hmax := h.max
  rw [hX1] at HI2
  clear hZ1 h HO1 HB1
  go_enter Try.func86, Try.ntmps86
  go_upto_region 2 with (fail)
  (try rw [hX1])
  generalize (w.alloc (.cells Z1 37)).alloc (.cells Z1 37) = w2 at *
  clear hX1
  obtain ⟨I, hI⟩ : ∃ I, I = w.heap.size + 1 := ⟨_, rfl⟩
  obtain ⟨O, hO⟩ : ∃ O, O = w.heap.size := ⟨_, rfl⟩
  rw [← hI] at HI2 ⊢
  rw [← hO] at HO2 HB2 HLt ⊢
  have hOI : O < I := by omega
  have HOw := Lib.hid hO
  clear hI hO
  go_wp2_with fail
  go_loopw [6] (fun s wr => ∃ k : Nat, s = .int .i64 k ∧ k ≤ 32 ∧ Hid (wr.rowIs I 37 32 (atF l k)) ∧ Hid (wr.rowIs O 37 32 (fun _ => .int .u8 0)) ∧ Hid (Below O w wr) ∧ Hid (RdB wr A 32 C l)) (fun s _ => 32 - (intOf s).toNat)
  case atStart => exact ⟨0, rfl, Nat.zero_le _, HI2, HO2, HB2, HRd⟩
  case round =>
    clear HI2 HO2 HB2 HRd
    obtain ⟨k, rfl, hk, HI, HO, HB, HRd⟩ := hrel
    by_cases hlt : k < 32
    · obtain ⟨g, o, rfl, hgl, hcc⟩ := HRd.out.at (by omega)
      have hc : wr.cell? ⟨g, o + k, none⟩ = some (.int .u8 (l.getD k 0)) := hcc k hlt
      have hgO : g < O := HLt.out _ rfl
      have hci : wr.cell? ⟨I, k, none⟩ = some _ := HI.out.cell hlt
      have hfi : wr.frozen? ⟨I, k, none⟩ = false := HI.out.frozen _
      have HI3 := Lib.hid ((HI.out.set k (.int .u8 (l.getD k 0))).congr (fun j _ => atF_step l k j))
      have HO3 := Lib.hid (HO.out.setOther (a := ⟨I, k, none⟩) (by show O ≠ I; omega) (.int .u8 (l.getD k 0)))
      have HB3 := Lib.hid (HB.out.setCell (p := ⟨I, k, none⟩) (by show O ≤ I; omega) (.int .u8 (l.getD k 0)))
      have HRd3 := Lib.hid (HRd.out.grown (grown_set wr I k (.int .u8 (l.getD k 0))) (fun x hx _ => by have := HLt.out x hx; omega))
      have hk0 : (0 : Int) ≤ (k : Int) := by omega
      have hk1 : (k : Int) < 32 := by omega
      clear HI HO HB HRd hcc
      generalize l.getD k 0 = c at *
      go_wp2_with fail
      go_roundw
      case rel => exact ⟨k + 1, by go_num, by omega, HI3, HO3, HB3, HRd3⟩
      case measure => simp [intOf]; omega
    · have ek : k = 32 := by omega
      have hd : decide ((k : Int) < 32) = false := by simp; omega
      have hbl : (bv l).length = 32 := by rw [bv_len, hll]
      have HRg : Hid (wr.rangeAt I 0 (bv l)) := Lib.hid (fun j v hj => by
        have hl := (List.getElem?_eq_some_iff.1 hj).1
        rw [hbl] at hl
        rw [Nat.zero_add, HI.out.cell hl, atF, if_pos (by omega), ← hj]
        simp [bv, List.getD, show j < l.length by omega])
      have HSz : Hid ((Try.prog.info? 37).map (·.size) = some (bv l).length) := Lib.hid (by rw [hbl]; kernel_rfl)
      have HSz2 : Hid ((Try.prog.info? 37).map (·.size) = some (bv l).toArray.size) := Lib.hid (by rw [List.size_toArray]; exact HSz.out)
      have HOne := Lib.hid (all_oneCell_toArray (bv_one l))
      have HTh : Hid (wr.there O 0 (bv l).toArray.size) := Lib.hid (fun j hj => by
        rw [List.size_toArray, hbl] at hj
        rw [Nat.zero_add]
        exact ⟨by rw [HO.out.cell hj]; rfl, HO.out.frozen _⟩)
      have HSt := Lib.hid (row_stored HO.out (bv l) hbl)
      have HBx := Lib.hid (below_cells (Nat.le_refl O) (bv l) 0 _ HB.out)
      clear HI HO HB HRd hbl
      generalize hDL : bv l = DL at *
      have HDL := Lib.hid hDL
      clear hDL
      go_wp2_with (first
        | (refine wpList_load_mid rfl _ _ rfl I 0 rfl DL _ HRg.out Try.underlying37 rfl HSz.out ?_)
        | (refine wpList_store_mid rfl _ _ _ rfl O 0 DL.toArray rfl rfl HTh.out HSz2.out HOne.out ?_))
      refine bodyPost_ret (results_cell_row rfl _ _ O _ _ _ _ rfl HSt.out Try.underlying37 rfl HSz2.out) rfl ?_
      exact ⟨by rw [HDL.out], by rw [← HOw.out]; exact HBx.out⟩
theorem Cu.laid {R : Nat} {A : Option Addr} {L C : Nat} {l : List Int} {p : Nat} {cut : Bool} {X : Nat} (hX : X ≠ R) : ∀ (vs : List Value) (o : Nat) (w : World), (∀ x, A = some x → 0 < L → x.block ≠ X) → Cu w R A L C l p cut → Cu (w.setCells X o vs) R A L C l p cut
  | [], _, _, _, h => h
  | v :: vs, o, w, ha, h => Cu.laid hX vs (o + 1) _ ha ⟨h.row.setOther (a := ⟨X, o, none⟩) (Ne.symm hX) v, h.rd.grown (grown_set w X o v) ha, h.apart, h.le⟩
theorem grown_of_below {B : Nat} {w w' : World} {R : Nat} (hb : Below B w w') (hB : B = w.heap.size) : w.grownBy w' (some R) := ⟨hb.os, hb.tape, hb.output, hB ▸ hb.size, fun i hi _ => hb.block i (hB ▸ hi)⟩
/-- the Id told, and the place behind -/
def CiRet (R : Nat) (A : Option Addr) (L C : Nat) (l : List Int) (p : Nat) (cut : Bool) (w : World) (e : Ending) (w' : World) : Prop :=
  e = .returned (.agg (bv (idv (cuB cut l p 32 L))).toArray) ∧ Cu w' R A L C l (cuP cut p 32 L) (cuC cut p 32 L) ∧ w.grownBy w' (some R)
set_option maxRecDepth 100000 in
set_option maxHeartbeats 1000000 in
theorem cid_r (R : Nat) (A : Option Addr) (L C : Nat) (l : List Int) (p : Nat) (cut : Bool) (w : World) (h : Cu w R A L C l p cut) :
    Calls Try.prog 49 #[.pointer (some ⟨R, 0, none⟩)] w (CiRet R A L C l p cut w) := by
  have hz1 := zero32
  have hRl := h.row.lt
  have HLt : Hid (∀ x, A = some x → 0 < L → x.block < w.heap.size) := Lib.hid (fun x hx h0 => (h.rd.cell x hx).1 h0)
  generalize hZ1 : (bv (List.replicate 32 0)).toArray = Z1 at *
  have HZ1 := Lib.hid hZ1
  have HO1 : Hid ((w.alloc (.cells Z1 37)).rowIs w.heap.size 37 32 (fun _ => .int .u8 0)) := Lib.hid (by rw [← HZ1.out]; exact row_zeros w 32 _)
  have hs1 := al_lt w (.cells Z1 37)
  have hb1 := (Below.refl w.heap.size w).alloc (Nat.le_refl _) (.cells Z1 37)
  have HU := Lib.hid (h.below hb1)
  have HG1 := Lib.hid (grown_of_below (R := R) hb1 rfl)
  have HBy := Lib.hid (cbytes_r R A L C l p cut 32 _ HU.out (by omega))
  rw [show ((32 : Nat) : Int) = 32 from rfl] at HBy
  have HBd : Hid (∀ i, i < (cuB cut l p 32 L).length → 0 ≤ (cuB cut l p 32 L).getD i 0 ∧ (cuB cut l p 32 L).getD i 0 ≤ 255) := Lib.hid (cuB_byte h.rd.len h.rd.byte)
  clear h hb1 hZ1 HU
  go_enter Try.func49, Try.ntmps49
  go_wp2_with fail
  generalize w.alloc (.cells Z1 37) = w1 at *
  refine HBy.out.mono ?_
  rintro e w2 ⟨A', C', rfl, ho, hU, hg⟩
  obtain ⟨O, hO⟩ : ∃ O, O = w.heap.size := ⟨_, rfl⟩
  rw [← hO] at HO1 HLt hRl hs1 ⊢
  have HOw := Lib.hid hO
  have HO2 := Lib.hid (World.rowIs.of_block HO1.out (hg.block O hs1 (fun e => by have := Option.some.inj e; omega)))
  have HG2 := Lib.hid (grown_trans HG1.out hg)
  have HU2 := Lib.hid hU
  have HO := Lib.hid ho
  have hc2 := hU.c2
  have hs2 : w1.heap.size ≤ w2.heap.size := hg.size
  clear ho hU hg HBy HO1 HG1 hO
  by_cases hc : cuC cut p 32 L = true
  · have HC := Lib.hid hc
    rw [hc] at hc2
    have hT := (cu_yes hc l).2
    clear hc
    have HFn : Hid (w2.there O 0 (bv (List.replicate 32 0)).toArray.size) := Lib.hid (fun j hj => by
      have hj2 : j < 32 := by simpa [bv] using hj
      rw [Nat.zero_add]
      exact ⟨by rw [HO2.out.cell hj2]; rfl, HO2.out.frozen _⟩)
    have HSz2 : Hid ((Try.prog.info? 37).map (·.size) = some (bv (List.replicate 32 0)).toArray.size) := Lib.hid (by kernel_rfl)
    have HOne := Lib.hid (all_oneCell_toArray (bv_one (List.replicate 32 0)))
    have HSt := Lib.hid (row_stored HO2.out (bv (List.replicate 32 0)) (by simp [bv]))
    have HUx := Lib.hid (Cu.laid (X := O) (by omega) (bv (List.replicate 32 0)) 0 _ (fun x hx h0 => by have := HLt.out x hx h0; omega) HU2.out)
    have HGx := Lib.hid (grown_laid (a := w) (E := O) (by have := HOw.out; omega) (bv (List.replicate 32 0)) 0 _ HG2.out)
    have HT : Hid ((bv (List.replicate 32 0)).toArray = (bv (idv (cuB cut l p 32 L))).toArray) := Lib.hid (by rw [hT]; rfl)
    clear hT HO2 HU2 HG2
    go_wp2_with (first
      | (refine wpList_build rfl 37 _ rfl (by kernel_rfl) ?_
         generalize hG : Option.getD (Program.built _ _ _) _ = KA
         have HKe : Hid (KA = (bv (List.replicate 32 0)).toArray) := Lib.hid (hG.symm.trans (show _ = (bv (List.replicate 32 0)).toArray from by kernel_rfl))
         clear hG)
      | (refine wpList_store_mid rfl _ _ _ rfl O 0 (bv (List.replicate 32 0)).toArray rfl (show _ = _ from congrArg Value.agg HKe.out) HFn.out HSz2.out HOne.out ?_))
    refine bodyPost_ret (results_cell_row rfl _ _ O _ _ _ _ rfl HSt.out Try.underlying37 rfl HSz2.out) rfl ?_
    exact ⟨by rw [HT.out], HUx.out, HGx.out⟩
  · have hcf : cuC cut p 32 L = false := by simpa using hc
    rw [hcf] at hc2
    have hlen : (cuB cut l p 32 L).length = 32 := by
      rw [(cu_no hcf l).2, List.length_take, List.length_drop, HU2.out.rd.len]
      have : decide (L - p < 32) = false := by
        cases cut with
        | true => simp [cuC] at hcf
        | false => simpa [cuC] using hcf
      have := of_decide_eq_false this
      omega
    have HBd2 := HBd.out
    have hid2 : idv (cuB cut l p 32 L) = cuB cut l p 32 L := by simp [idv, hlen]
    rw [← hcf] at hc2
    rw [hcf] at hc2
    have HI2 := Lib.hid hid2
    generalize hTT : cuB cut l p 32 L = T at *
    have HTT := Lib.hid hTT
    clear hTT
    have hrd := RdB.of_own2 HO.out (by omega) HBd2
    rw [hlen] at hrd
    have HAt := Lib.hid (at_any A' C' T w2 hrd)
    have HLn := Lib.hid hlen
    clear hc hcf hid2 HBd2 HBd hrd
    rw [hlen]
    go_wp2_with fail
    refine HAt.out.mono ?_
    rintro e w3 ⟨rfl, hb⟩
    have hbl : (bv T).length = 32 := by rw [bv_len, HLn.out]
    have HO3 := HO2.out.of_block (hb.block O (by omega))
    have HFn : Hid (w3.there O 0 (bv T).toArray.size) := Lib.hid (fun j hj => by
      rw [List.size_toArray, hbl] at hj
      rw [Nat.zero_add]
      exact ⟨by rw [HO3.cell hj]; rfl, HO3.frozen _⟩)
    have HSz2 : Hid ((Try.prog.info? 37).map (·.size) = some (bv T).toArray.size) := Lib.hid (by rw [List.size_toArray, hbl]; kernel_rfl)
    have HOne := Lib.hid (all_oneCell_toArray (bv_one T))
    have HSt := Lib.hid (row_stored HO3 (bv T) hbl)
    have HUx := Lib.hid (Cu.laid (X := O) (by omega) (bv T) 0 _ (fun x hx h0 => by have := HLt.out x hx h0; omega) (HU2.out.below hb))
    have HGx := Lib.hid (grown_laid (a := w) (E := O) (by have := HOw.out; omega) (bv T) 0 _ (grown_trans HG2.out (grown_of_below hb rfl)))
    clear hbl HO3 hb HAt HO2 HU2 HG2
    generalize hDT : bv T = DT at *
    have HDT := Lib.hid hDT
    clear hDT
    go_wp2_with (refine wpList_store_mid rfl _ _ _ rfl O 0 DT.toArray rfl rfl HFn.out HSz2.out HOne.out ?_)
    refine bodyPost_ret (results_cell_row rfl _ _ O _ _ _ _ rfl HSt.out Try.underlying37 rfl HSz2.out) rfl ?_
    exact ⟨by rw [HTT.out, HI2.out, HDT.out], HUx.out, HGx.out⟩
end Go.Proofs.Ytmcmapgllaopmaa.Cd
end

section
namespace Go.Proofs.Ytmcmapgllaopmaa.Cd
open Go.RowKit
set_option linter.unusedVariables false
/-- the reader's error where the document's place was cut -/
def ff (c : Bool) : Int := if c = true then 14 else 0
theorem tkF_ff (c : Bool) (p n L : Nat) : tkF (ff c) p L n = ff (cuC c p n L) := by
  cases c with
  | true => unfold tkF; rw [if_neg (fun h => by simp [ff] at h)]; rfl
  | false =>
    unfold tkF cuC ff
    by_cases h : L - p < n
    · rw [if_pos ⟨rfl, h⟩]; simp [h]
    · rw [if_neg (fun h2 => h h2.2)]; simp [h]
theorem tkA_ff (c : Bool) (p n L : Nat) : tkA (ff c) p L n = cuP c p n L := by
  unfold tkA cuP
  rw [tkF_ff]
  cases cuC c p n L <;> simp [ff]
theorem tkL_ff (c : Bool) (l : List Int) (p n L : Nat) : tkL (ff c) l p L n = cuB c l p n L := by
  unfold tkL cuB
  rw [tkF_ff]
  cases cuC c p n L <;> simp [ff]
end Go.Proofs.Ytmcmapgllaopmaa.Cd
end

section
namespace Go.Proofs.Ytmcmapgllaopmaa.Cd
open Go.RowKit
set_option linter.unusedVariables false
theorem Cu.setX {w : World} {R : Nat} {A : Option Addr} {L C : Nat} {l : List Int} {p : Nat} {cut : Bool} (h : Cu w R A L C l p cut) (X i : Nat) (v : Value) (hX : X ≠ R) (ha : ∀ x, A = some x → 0 < L → x.block ≠ X) : Cu (w.setCell ⟨X, i, none⟩ v) R A L C l p cut :=
  ⟨h.row.setOther (a := ⟨X, i, none⟩) (Ne.symm hX) v, h.rd.grown (grown_set w X i v) ha, h.apart, h.le⟩
theorem Cu.belowB {w w' : World} {R : Nat} {A : Option Addr} {L C : Nat} {l : List Int} {p : Nat} {cut : Bool} {B : Nat} (h : Cu w R A L C l p cut) (hb : Below B w w') (hR : R < B) (hA : ∀ x, A = some x → 0 < L → x.block < B) : Cu w' R A L C l p cut :=
  ⟨h.row.of_block (hb.block R hR), ⟨h.rd.len, h.rd.cap, h.rd.max, h.rd.big, h.rd.none, h.rd.byte, fun x hx => by
    obtain ⟨h1, h2⟩ := h.rd.cell x hx
    refine ⟨fun h0 => Nat.lt_of_lt_of_le (h1 h0) hb.size, fun i hi => ?_⟩
    have e : (x.add i).block = x.block := add_block x i
    rw [hb.cell (p := x.add i) (by rw [e]; exact hA x hx (by omega))]
    exact h2 i hi⟩, h.apart, h.le⟩
end Go.Proofs.Ytmcmapgllaopmaa.Cd
end

section
namespace Go.Proofs.Ytmcmapgllaopmaa.Cd
open Go.RowKit
set_option linter.unusedVariables false
/-- blocks that are no rows of bytes are as they were -/
def KeptT (w w' : World) : Prop := ∀ k, k < w.heap.size → (∀ c fr, w.heap[k]? ≠ some (.cells c 5 fr)) → w'.heap[k]? = w.heap[k]?
theorem KeptT.refl (w : World) : KeptT w w := fun _ _ _ => rfl
theorem KeptT.trans {a b c : World} (hs : a.heap.size ≤ b.heap.size) (h : KeptT a b) (k : KeptT b c) : KeptT a c := fun i hi hne => by
  have h1 := h i hi hne
  rw [← h1]
  exact k i (Nat.lt_of_lt_of_le hi hs) (fun cs fr => by rw [h1]; exact hne cs fr)
theorem KeptT.of_below {w w' : World} (hb : Below w.heap.size w w') : KeptT w w' := fun i hi _ => hb.block i hi
theorem KeptT.alloc (w : World) (o : Obj) : KeptT w (w.alloc o) := KeptT.of_below ((Below.refl w.heap.size w).alloc (Nat.le_refl _) o)
theorem KeptT.own {w w' : World} {B : Nat} {v : Value} {n : Nat} {xs : List Value} (h : w.ownsRow B 5 1 v n xs) (hg : w.grownBy w' v.ownBlock) : KeptT w w' := fun i hi hne => by
  refine hg.block i hi (fun e => ?_)
  rcases h.2 with ⟨hv, _⟩ | ⟨g, cap, cur, hv, hb, hh, _⟩
  · rw [hv] at e; simp [Value.ownBlock] at e
  · rw [hv] at e
    simp only [Value.ownBlock, Option.some.injEq] at e
    subst e
    exact hne _ _ hh
/-- a row of another type -/
theorem KeptT.row {w w' : World} {X n : Nat} {t : TypeId} {f : Nat → Value} (h : KeptT w w') (hr : w.rowIs X t n f) (ht : t ≠ 5) : w'.rowIs X t n f :=
  hr.of_block (h X hr.lt (fun c fr e => by
    obtain ⟨c2, hb, _⟩ := hr
    rw [hb] at e
    simp only [Option.some.injEq, Obj.cells.injEq] at e
    exact ht e.2.1))
/-- the call hands back a row of its own that holds xs; nothing below B turned, nothing but rows of bytes -/
def OwnRetK (B n : Nat) (xs : List Value) (w : World) (e : Ending) (w' : World) : Prop :=
  ∃ v', e = .returned v' ∧ w'.ownsRow B 5 1 v' n xs ∧ Below B w w' ∧ KeptT w w'
set_option maxHeartbeats 1000000 in
theorem number_k (B : Nat) (v : Value) (n : Nat) (xs : List Value) (x : Int) (k : Nat) (w : World) (hB : B ≤ w.heap.size) (hown : w.ownsRow B 5 1 v n xs) (hn : n ≤ 140737488300000) (h0 : 0 ≤ x) (h1 : x < 18446744073709551616) (hk : k ≤ 8) :
    Calls Try.prog 51 #[v, .int .u64 x, .int .i64 k] w (OwnRetK B (n + k) (xs ++ bv (be k x)) w) := by
  obtain ⟨i0, hi, hz0, hz1, hz2⟩ := info_parts info5
  have HO := Lib.hid hown
  clear hown
  have HB := Lib.hid (Below.refl B w)
  have HK := Lib.hid (KeptT.refl w)
  go_enter Try.func51, Try.ntmps51
  go_wp2
  go_loopw [0, 2] (fun b i wr => ∃ (m q : Nat) (ys : List Int), m + q = k ∧ i = .int .i64 ((m : Int) - 1) ∧ Hid (ys ++ be m x = be k x) ∧ Hid (wr.ownsRow B 5 1 b (n + q) (xs ++ bv ys)) ∧ Hid (Below B w wr) ∧ Hid (KeptT w wr)) (fun _ i _ => (intOf i + 1).toNat)
  case atStart => exact ⟨k, 0, [], by omega, rfl, Lib.hid rfl, Lib.hid (by simpa [bv] using HO.out), HB, HK⟩
  case round =>
    clear HB HO HK
    obtain ⟨m, q, ys, hmq, rfl, HY, HO, HB, HK⟩ := hrel
    have hsz := HB.out.size
    have hkw : w.heap.size ≤ wr.heap.size := HB.out.size
    have hm8 : m ≤ 8 := by omega
    have h56 : x / 72057594037927936 % 256 = x / 72057594037927936 := by omega
    rcases (show m = 0 ∨ m = 1 ∨ m = 2 ∨ m = 3 ∨ m = 4 ∨ m = 5 ∨ m = 6 ∨ m = 7 ∨ m = 8 from by omega) with rfl | rfl | rfl | rfl | rfl | rfl | rfl | rfl | rfl
    · go_wp2
      go_ret
      have hq : q = k := by omega
      subst hq
      refine ⟨_, rfl, own_eq HO.out ?_ rfl, HB.out, HK.out⟩
      rw [← HY.out]; simp [be]
    · go_wp2_with (at_builtin; refine wpList_append_own _ rfl _ _ 23 rfl B 5 i0 (.int .u8 0) 1 1 Try.underlying23 hi hz0 hz1 hz2 rfl (by decide) _ _ _ rfl (HO.out.alloc _) ⟨wr.heap.size, 0, none⟩ 1 1 (bv [x % 256]) rfl rfl ?c1 (bv_one _) ?c3 ?c4 ?c5 ?_)
      case c1 => exact new_cells [x % 256] wr _
      case c3 => unfold maxLen; omega
      case c4 => omega
      case c5 => simp; omega
      intro v1 w1 ho hg hn2
      have HO1 : Hid (w1.ownsRow B 5 1 v1 (n + (q + 1)) (xs ++ bv (ys ++ [x % 256]))) := Lib.hid (own_eq ho (by simp [bv]) (by omega))
      have HB1 := Lib.hid (HB.out.trans (((Below.refl B wr).alloc (by omega) _).trans (below_grown (by simp; omega) (HO.out.alloc _) hg)))
      have HK1 := Lib.hid (KeptT.trans hkw HK.out (KeptT.trans (al_le wr _) (KeptT.alloc wr _) (KeptT.own (HO.out.alloc _) hg)))
      have HY1 : Hid ((ys ++ [x % 256]) ++ be 0 x = be k x) := Lib.hid (by rw [← HY.out]; simp [be])
      clear ho hg hn2 HO HB HY HK
      go_wp2
      go_roundw
      case rel => exact ⟨0, q + 1, _, by omega, rfl, HY1, HO1, HB1, HK1⟩
      case measure => simp [intOf]
    · go_wp2_with (at_builtin; refine wpList_append_own _ rfl _ _ 23 rfl B 5 i0 (.int .u8 0) 1 1 Try.underlying23 hi hz0 hz1 hz2 rfl (by decide) _ _ _ rfl (HO.out.alloc _) ⟨wr.heap.size, 0, none⟩ 1 1 (bv [x / 256 % 256]) rfl rfl ?c1 (bv_one _) ?c3 ?c4 ?c5 ?_)
      case c1 => exact new_cells [x / 256 % 256] wr _
      case c3 => unfold maxLen; omega
      case c4 => omega
      case c5 => simp; omega
      intro v1 w1 ho hg hn2
      have HO1 : Hid (w1.ownsRow B 5 1 v1 (n + (q + 1)) (xs ++ bv (ys ++ [x / 256 % 256]))) := Lib.hid (own_eq ho (by simp [bv]) (by omega))
      have HB1 := Lib.hid (HB.out.trans (((Below.refl B wr).alloc (by omega) _).trans (below_grown (by simp; omega) (HO.out.alloc _) hg)))
      have HK1 := Lib.hid (KeptT.trans hkw HK.out (KeptT.trans (al_le wr _) (KeptT.alloc wr _) (KeptT.own (HO.out.alloc _) hg)))
      have HY1 : Hid ((ys ++ [x / 256 % 256]) ++ be 1 x = be k x) := Lib.hid (by rw [← HY.out]; simp [be])
      clear ho hg hn2 HO HB HY HK
      go_wp2
      go_roundw
      case rel => exact ⟨1, q + 1, _, by omega, rfl, HY1, HO1, HB1, HK1⟩
      case measure => simp [intOf]
    · go_wp2_with (at_builtin; refine wpList_append_own _ rfl _ _ 23 rfl B 5 i0 (.int .u8 0) 1 1 Try.underlying23 hi hz0 hz1 hz2 rfl (by decide) _ _ _ rfl (HO.out.alloc _) ⟨wr.heap.size, 0, none⟩ 1 1 (bv [x / 65536 % 256]) rfl rfl ?c1 (bv_one _) ?c3 ?c4 ?c5 ?_)
      case c1 => exact new_cells [x / 65536 % 256] wr _
      case c3 => unfold maxLen; omega
      case c4 => omega
      case c5 => simp; omega
      intro v1 w1 ho hg hn2
      have HO1 : Hid (w1.ownsRow B 5 1 v1 (n + (q + 1)) (xs ++ bv (ys ++ [x / 65536 % 256]))) := Lib.hid (own_eq ho (by simp [bv]) (by omega))
      have HB1 := Lib.hid (HB.out.trans (((Below.refl B wr).alloc (by omega) _).trans (below_grown (by simp; omega) (HO.out.alloc _) hg)))
      have HK1 := Lib.hid (KeptT.trans hkw HK.out (KeptT.trans (al_le wr _) (KeptT.alloc wr _) (KeptT.own (HO.out.alloc _) hg)))
      have HY1 : Hid ((ys ++ [x / 65536 % 256]) ++ be 2 x = be k x) := Lib.hid (by rw [← HY.out]; simp [be])
      clear ho hg hn2 HO HB HY HK
      go_wp2
      go_roundw
      case rel => exact ⟨2, q + 1, _, by omega, rfl, HY1, HO1, HB1, HK1⟩
      case measure => simp [intOf]
    · go_wp2_with (at_builtin; refine wpList_append_own _ rfl _ _ 23 rfl B 5 i0 (.int .u8 0) 1 1 Try.underlying23 hi hz0 hz1 hz2 rfl (by decide) _ _ _ rfl (HO.out.alloc _) ⟨wr.heap.size, 0, none⟩ 1 1 (bv [x / 16777216 % 256]) rfl rfl ?c1 (bv_one _) ?c3 ?c4 ?c5 ?_)
      case c1 => exact new_cells [x / 16777216 % 256] wr _
      case c3 => unfold maxLen; omega
      case c4 => omega
      case c5 => simp; omega
      intro v1 w1 ho hg hn2
      have HO1 : Hid (w1.ownsRow B 5 1 v1 (n + (q + 1)) (xs ++ bv (ys ++ [x / 16777216 % 256]))) := Lib.hid (own_eq ho (by simp [bv]) (by omega))
      have HB1 := Lib.hid (HB.out.trans (((Below.refl B wr).alloc (by omega) _).trans (below_grown (by simp; omega) (HO.out.alloc _) hg)))
      have HK1 := Lib.hid (KeptT.trans hkw HK.out (KeptT.trans (al_le wr _) (KeptT.alloc wr _) (KeptT.own (HO.out.alloc _) hg)))
      have HY1 : Hid ((ys ++ [x / 16777216 % 256]) ++ be 3 x = be k x) := Lib.hid (by rw [← HY.out]; simp [be])
      clear ho hg hn2 HO HB HY HK
      go_wp2
      go_roundw
      case rel => exact ⟨3, q + 1, _, by omega, rfl, HY1, HO1, HB1, HK1⟩
      case measure => simp [intOf]
    · go_wp2_with (at_builtin; refine wpList_append_own _ rfl _ _ 23 rfl B 5 i0 (.int .u8 0) 1 1 Try.underlying23 hi hz0 hz1 hz2 rfl (by decide) _ _ _ rfl (HO.out.alloc _) ⟨wr.heap.size, 0, none⟩ 1 1 (bv [x / 4294967296 % 256]) rfl rfl ?c1 (bv_one _) ?c3 ?c4 ?c5 ?_)
      case c1 => exact new_cells [x / 4294967296 % 256] wr _
      case c3 => unfold maxLen; omega
      case c4 => omega
      case c5 => simp; omega
      intro v1 w1 ho hg hn2
      have HO1 : Hid (w1.ownsRow B 5 1 v1 (n + (q + 1)) (xs ++ bv (ys ++ [x / 4294967296 % 256]))) := Lib.hid (own_eq ho (by simp [bv]) (by omega))
      have HB1 := Lib.hid (HB.out.trans (((Below.refl B wr).alloc (by omega) _).trans (below_grown (by simp; omega) (HO.out.alloc _) hg)))
      have HK1 := Lib.hid (KeptT.trans hkw HK.out (KeptT.trans (al_le wr _) (KeptT.alloc wr _) (KeptT.own (HO.out.alloc _) hg)))
      have HY1 : Hid ((ys ++ [x / 4294967296 % 256]) ++ be 4 x = be k x) := Lib.hid (by rw [← HY.out]; simp [be])
      clear ho hg hn2 HO HB HY HK
      go_wp2
      go_roundw
      case rel => exact ⟨4, q + 1, _, by omega, rfl, HY1, HO1, HB1, HK1⟩
      case measure => simp [intOf]
    · go_wp2_with (at_builtin; refine wpList_append_own _ rfl _ _ 23 rfl B 5 i0 (.int .u8 0) 1 1 Try.underlying23 hi hz0 hz1 hz2 rfl (by decide) _ _ _ rfl (HO.out.alloc _) ⟨wr.heap.size, 0, none⟩ 1 1 (bv [x / 1099511627776 % 256]) rfl rfl ?c1 (bv_one _) ?c3 ?c4 ?c5 ?_)
      case c1 => exact new_cells [x / 1099511627776 % 256] wr _
      case c3 => unfold maxLen; omega
      case c4 => omega
      case c5 => simp; omega
      intro v1 w1 ho hg hn2
      have HO1 : Hid (w1.ownsRow B 5 1 v1 (n + (q + 1)) (xs ++ bv (ys ++ [x / 1099511627776 % 256]))) := Lib.hid (own_eq ho (by simp [bv]) (by omega))
      have HB1 := Lib.hid (HB.out.trans (((Below.refl B wr).alloc (by omega) _).trans (below_grown (by simp; omega) (HO.out.alloc _) hg)))
      have HK1 := Lib.hid (KeptT.trans hkw HK.out (KeptT.trans (al_le wr _) (KeptT.alloc wr _) (KeptT.own (HO.out.alloc _) hg)))
      have HY1 : Hid ((ys ++ [x / 1099511627776 % 256]) ++ be 5 x = be k x) := Lib.hid (by rw [← HY.out]; simp [be])
      clear ho hg hn2 HO HB HY HK
      go_wp2
      go_roundw
      case rel => exact ⟨5, q + 1, _, by omega, rfl, HY1, HO1, HB1, HK1⟩
      case measure => simp [intOf]
    · go_wp2_with (at_builtin; refine wpList_append_own _ rfl _ _ 23 rfl B 5 i0 (.int .u8 0) 1 1 Try.underlying23 hi hz0 hz1 hz2 rfl (by decide) _ _ _ rfl (HO.out.alloc _) ⟨wr.heap.size, 0, none⟩ 1 1 (bv [x / 281474976710656 % 256]) rfl rfl ?c1 (bv_one _) ?c3 ?c4 ?c5 ?_)
      case c1 => exact new_cells [x / 281474976710656 % 256] wr _
      case c3 => unfold maxLen; omega
      case c4 => omega
      case c5 => simp; omega
      intro v1 w1 ho hg hn2
      have HO1 : Hid (w1.ownsRow B 5 1 v1 (n + (q + 1)) (xs ++ bv (ys ++ [x / 281474976710656 % 256]))) := Lib.hid (own_eq ho (by simp [bv]) (by omega))
      have HB1 := Lib.hid (HB.out.trans (((Below.refl B wr).alloc (by omega) _).trans (below_grown (by simp; omega) (HO.out.alloc _) hg)))
      have HK1 := Lib.hid (KeptT.trans hkw HK.out (KeptT.trans (al_le wr _) (KeptT.alloc wr _) (KeptT.own (HO.out.alloc _) hg)))
      have HY1 : Hid ((ys ++ [x / 281474976710656 % 256]) ++ be 6 x = be k x) := Lib.hid (by rw [← HY.out]; simp [be])
      clear ho hg hn2 HO HB HY HK
      go_wp2
      go_roundw
      case rel => exact ⟨6, q + 1, _, by omega, rfl, HY1, HO1, HB1, HK1⟩
      case measure => simp [intOf]
    · go_wp2_with (at_builtin; refine wpList_append_own _ rfl _ _ 23 rfl B 5 i0 (.int .u8 0) 1 1 Try.underlying23 hi hz0 hz1 hz2 rfl (by decide) _ _ _ rfl (HO.out.alloc _) ⟨wr.heap.size, 0, none⟩ 1 1 (bv [x / 72057594037927936]) rfl rfl ?c1 (bv_one _) ?c3 ?c4 ?c5 ?_)
      case c1 => exact new_cells [x / 72057594037927936] wr _
      case c3 => unfold maxLen; omega
      case c4 => omega
      case c5 => simp; omega
      intro v1 w1 ho hg hn2
      have HO1 : Hid (w1.ownsRow B 5 1 v1 (n + (q + 1)) (xs ++ bv (ys ++ [x / 72057594037927936]))) := Lib.hid (own_eq ho (by simp [bv]) (by omega))
      have HB1 := Lib.hid (HB.out.trans (((Below.refl B wr).alloc (by omega) _).trans (below_grown (by simp; omega) (HO.out.alloc _) hg)))
      have HK1 := Lib.hid (KeptT.trans hkw HK.out (KeptT.trans (al_le wr _) (KeptT.alloc wr _) (KeptT.own (HO.out.alloc _) hg)))
      have HY1 : Hid ((ys ++ [x / 72057594037927936]) ++ be 7 x = be k x) := Lib.hid (by rw [← HY.out]; simp [be, h56])
      clear ho hg hn2 HO HB HY HK
      go_wp2
      go_roundw
      case rel => exact ⟨7, q + 1, _, by omega, rfl, HY1, HO1, HB1, HK1⟩
      case measure => simp [intOf]
set_option maxHeartbeats 1000000 in
theorem text_k (B : Nat) (v : Value) (n : Nat) (xs : List Value) (s : ByteArray) (k : Nat) (w : World) (hB : B ≤ w.heap.size) (hown : w.ownsRow B 5 1 v n xs) (hn : n ≤ 140730000000000) (hs : s.size ≤ 1000000000) (hk : k ≤ 7) :
    Calls Try.prog 41 #[v, .string s, .int .i64 k] w (OwnRetK B (n + k + s.size) (xs ++ (bv (be k s.size) ++ Lib.strCells s)) w) := by
  obtain ⟨i0, hi, hz0, hz1, hz2⟩ := info_parts info5
  have hmx : (140737488355328 : Nat) ≤ maxLen := by unfold maxLen; omega
  have HO := Lib.hid hown
  clear hown
  go_enter Try.func41, Try.ntmps41
  go_wp2_with fail
  refine (number_k B v n xs s.size k w hB HO.out (by omega) (by omega) (by omega) (by omega)).mono ?_
  rintro e w1 ⟨v1, rfl, ho1, hb1, hk1⟩
  have HB1 := Lib.hid hb1
  have HO1 := Lib.hid ho1
  have HK1 := Lib.hid hk1
  have hsz := hb1.size
  have hsw : w.heap.size ≤ w1.heap.size := hb1.size
  clear ho1 hb1 hk1
  go_wp2_with (at_builtin; refine Lib.wpList_append_own_string _ rfl _ _ _ _ rfl B 5 i0 Try.underlying23 Try.underlying9 hi hz0 hz1 hz2 _ _ _ rfl HO1.out s rfl (by omega) (by omega) (by omega) ?_)
  intro v' w' ho hg hv
  have HB' := Lib.hid (HB1.out.trans (below_grown (by omega) HO1.out hg))
  have HK' := Lib.hid (KeptT.trans hsw HK1.out (KeptT.own HO1.out hg))
  have HO' := Lib.hid ho
  clear ho hg hv
  go_wp2
  go_ret
  exact ⟨_, by first | rfl | skip, HO'.out, HB'.out, HK'.out⟩
set_option maxRecDepth 100000 in
set_option maxHeartbeats 1000000 in
/-- the bytes of an Id, laid behind a row one by one (the document's Put) -/
theorem put_k (B : Nat) (v : Value) (n : Nat) (xs : List Value) (ids : List Int) (hl : ids.length = 32) (w : World) (hB : B ≤ w.heap.size) (hown : w.ownsRow B 5 1 v n xs) (hn : n ≤ 140737488300000) :
    Calls Try.prog 43 #[v, .agg (bv ids).toArray] w (OwnRetK B (n + 32) (xs ++ bv ids) w) := by
  obtain ⟨i0, hi, hz0, hz1, hz2⟩ := info_parts info5
  have hX1 : (w.alloc (.cells (bv ids).toArray 37)).heap.size = w.heap.size + 1 := by show (w.heap.push _).size = _; simp
  have hr := row_new w (bv ids).toArray 37
  have hsz : (bv ids).toArray.size = 32 := by simp [bv, hl]
  rw [hsz] at hr
  clear hsz
  have HX := Lib.hid (hr.congr (g := fun j => .int .u8 (ids.getD j 0)) (fun j hj => by simp [bv, List.getD, show j < ids.length by omega]))
  have HO := Lib.hid (hown.alloc (.cells (bv ids).toArray 37))
  have HB := Lib.hid ((Below.refl B w).alloc hB (.cells (bv ids).toArray 37))
  have HK := Lib.hid (KeptT.alloc w (.cells (bv ids).toArray 37))
  have hwx := HX.out.lt
  clear hr hown
  have HLn := Lib.hid hl
  have hbB : B ≤ (w.alloc (.cells (bv ids).toArray 37)).heap.size := by omega
  clear hX1
  generalize hDI : (bv ids).toArray = DI at *
  have HDI := Lib.hid hDI
  clear hDI
  go_enter Try.func43, Try.ntmps43
  go_upto_region 1 with (fail)
  generalize w.alloc (.cells DI 37) = w0 at *
  have HOw := Lib.hid (show w.heap.size ≤ w0.heap.size from Nat.le_of_lt hwx)
  obtain ⟨X, hX⟩ : ∃ X, X = w.heap.size := ⟨_, rfl⟩
  rw [← hX] at HX ⊢
  have HXw := Lib.hid hX
  clear hX
  go_wp2_with fail
  go_loopw [0, 5] (fun b i wr => ∃ (k : Nat), k ≤ 32 ∧ i = .int .i64 k ∧ Hid (wr.ownsRow B 5 1 b (n + k) (xs ++ bv (ids.take k))) ∧ Hid (Below B w wr) ∧ Hid (KeptT w wr) ∧ Hid (wr.rowIs X 37 32 (fun j => .int .u8 (ids.getD j 0))) ∧ Hid (w.heap.size ≤ wr.heap.size)) (fun _ i _ => 32 - (intOf i).toNat)
  case atStart => exact ⟨0, Nat.zero_le _, rfl, Lib.hid (by simpa [bv] using HO.out), HB, HK, HX, HOw⟩
  case round =>
    clear HB HO HK HX HOw
    obtain ⟨k, hk, rfl, HO, HB, HK, HX, HS⟩ := hrel
    have hwr : B ≤ wr.heap.size := by have := HS.out; omega
    have HKs := HB.out.size
    by_cases hlt : k < 32
    · have hc : wr.cell? ⟨X, k, none⟩ = some (.int .u8 (ids.getD k 0)) := HX.out.cell hlt
      have hk0 : (0 : Int) ≤ (k : Int) := by omega
      have hk1 : (k : Int) < 32 := by omega
      have hts : ids.take (k + 1) = ids.take k ++ [ids.getD k 0] := by
        rw [List.take_succ_eq_append_getElem (by have := HLn.out; omega)]
        congr 2
        simp [List.getD, show k < ids.length by have := HLn.out; omega]
      have HTs := Lib.hid hts
      clear hts
      generalize hcc : ids.getD k 0 = c at *
      have HCc := Lib.hid hcc
      clear hcc
      go_wp2_with (at_builtin; refine wpList_append_own _ rfl _ _ 23 rfl B 5 i0 (.int .u8 0) 1 1 Try.underlying23 hi hz0 hz1 hz2 rfl (by decide) _ _ _ rfl (HO.out.alloc _) ⟨wr.heap.size, 0, none⟩ 1 1 (bv [c]) rfl rfl ?c1 (bv_one _) ?c3 ?c4 ?c5 ?_)
      case c1 => exact new_cells [c] wr _
      case c3 => unfold maxLen; omega
      case c4 => omega
      case c5 => simp; omega
      intro v1 w1 ho hg hn2
      have HO1 : Hid (w1.ownsRow B 5 1 v1 (n + (k + 1)) (xs ++ bv (ids.take (k + 1)))) := Lib.hid (own_eq ho (by rw [HTs.out]; simp [bv]) (by omega))
      have HB1 := Lib.hid (HB.out.trans (((Below.refl B wr).alloc (by omega) _).trans (below_grown (by simp; omega) (HO.out.alloc _) hg)))
      have hkk := KeptT.trans (al_le wr _) (KeptT.alloc wr _) (KeptT.own (HO.out.alloc _) hg)
      have HK1 := Lib.hid (KeptT.trans HS.out HK.out hkk)
      have HX1 := Lib.hid (hkk.row HX.out (by decide))
      have HS1 : Hid (w.heap.size ≤ w1.heap.size) := Lib.hid (Nat.le_trans HS.out (Nat.le_trans (al_le wr _) hg.size))
      clear ho hg hn2 HO HB HK HX hkk HS
      go_wp2
      go_roundw
      case rel => exact ⟨k + 1, by omega, by go_num, HO1, HB1, HK1, HX1, HS1⟩
      case measure => simp [intOf]; omega
    · have ek : k = 32 := by omega
      have hd : decide ((k : Int) < 32) = false := by simp; omega
      have HO2 := Lib.hid (own_eq HO.out (m := n + 32) (ys := xs ++ bv ids) (by rw [ek, List.take_of_length_le (by have := HLn.out; omega)]) (by omega))
      clear HO
      go_wp2_with fail
      go_ret
      exact ⟨_, rfl, HO2.out, HB.out, HK.out⟩
end Go.Proofs.Ytmcmapgllaopmaa.Cd
end

section
namespace Go.Proofs.Ytmcmapgllaopmaa.Cd
open Go.RowKit
set_option linter.unusedVariables false
theorem run_append_k (w : World) (t : TypeId) (B : Nat) (v : Value) (n : Nat) (d : List Int) (hown : w.ownsRow B 5 1 v n (bv d))
    (A : Option Addr) (m c : Nat) (l : List Int) (hsl : RdB w A m c l) (hbytes : (n + m) * 1 ≤ 140737488355328) (hbase : B ≤ w.heap.size) :
    ∃ A' C' w', (Builtin.append_ #[23, 23] t #[v, .slice A m c]).run Try.prog w = .ok (.slice A' (n + m) C') w' ∧ w'.ownsRow B 5 1 (.slice A' (n + m) C') (n + m) (bv (d ++ l)) ∧ Below B w w' ∧ KeptT w w' := by
  obtain ⟨i0, hi, hz0, hz1, hz2⟩ := info_parts info5
  cases A with
  | none =>
    have hc := hsl.none rfl
    have hm : m = 0 := by have := hsl.cap; omega
    subst hm hc
    obtain rfl : l = [] := List.eq_nil_of_length_eq_zero hsl.len
    obtain ⟨A', C', rfl⟩ := own_slice' hown
    refine ⟨A', C', w, run_append_owned_none (P := Try.prog) w B 23 t 5 i0 1 Try.underlying23 hi _ _ _ hown, ?_, Below.refl B w, KeptT.refl w⟩
    rw [List.append_nil]
    exact hown
  | some y =>
    obtain ⟨-, hcc⟩ := hsl.cell y rfl
    have hll := hsl.len
    have hnw : ∀ j u, (bv l)[j]? = some u → w.cell? (y.add j) = some u := by
      intro j u hj
      have hj1 := (List.getElem?_eq_some_iff.1 hj).1
      rw [bv, List.length_map, hll] at hj1
      rw [hcc j hj1, ← hj]
      simp [bv, hll, hj1]
    obtain ⟨v', w', hr, h2, h3, h4⟩ := run_append_own (P := Try.prog) w B 23 t 5 i0 (.int .u8 0) 1 1 Try.underlying23 hi hz0 hz1 hz2 rfl (by decide) v n (bv d) hown y m c (bv l) (by rw [bv, List.length_map, hll]; omega) hnw (bv_one l) (by unfold maxLen; omega) hbytes hbase
    obtain ⟨A', C', rfl⟩ := own_slice' h2
    exact ⟨A', C', w', hr, by rw [show bv (d ++ l) = bv d ++ bv l from by simp [bv]]; exact h2, below_grown hbase hown h3, KeptT.own hown h3⟩
theorem step_append_k (w : World) {ops : Array Oper} {o : Oper} {a : Act} {K : Act → World → Prop} {Q : Exit → Act → World → Prop} {E : Prop} (hgd : o.guard = none) (s x : Operand)
    (ho : o.op = .call { callee := .builtin .append, args := #[s, x], argTypes := #[23, 23] })
    (B : Nat) (v : Value) (n : Nat) (d : List Int) (hs : a.eval s = v) (hown : w.ownsRow B 5 1 v n (bv d))
    (A : Option Addr) (m c : Nat) (l : List Int) (hx : a.eval x = .slice A m c) (hsl : RdB w A m c l)
    (hbytes : (n + m) * 1 ≤ 140737488355328) (hbase : B ≤ w.heap.size)
    (h : ∀ A' C' w', w'.ownsRow B 5 1 (.slice A' (n + m) C') (n + m) (bv (d ++ l)) → Below B w w' → KeptT w w' → K (a.put o.dst (.slice A' (n + m) C')) w') :
    if Region.wanted o (yielded ops a.tmps) = true then Oper.wp Try.prog o a w K Q else E := by
  have hw : Region.wanted o (yielded ops a.tmps) = true := by simp [Region.wanted, hgd]
  rw [if_pos hw]
  obtain ⟨A', C', w', hr, h2, h3, h4⟩ := run_append_k w o.type B v n d hown A m c l hsl hbytes hbase
  unfold Oper.wp execOp
  simp only [ho, resolve, invoke, builtin, Sem.run_bind, Sem.run_pure, Result.andThen_ok, List.map_toArray, List.map_cons, List.map_nil, hs, hx, hr]
  exact h A' C' w' h2 h3 h4
theorem wpList_append_k (w : World) {ops : Array Oper} {rest : List Oper} {o : Oper} {a : Act} {Q : Exit → Act → World → Prop} (hgd : o.guard = none) (s x : Operand)
    (ho : o.op = .call { callee := .builtin .append, args := #[s, x], argTypes := #[23, 23] })
    (B : Nat) (v : Value) (n : Nat) (d : List Int) (hs : a.eval s = v) (hown : w.ownsRow B 5 1 v n (bv d))
    (A : Option Addr) (m c : Nat) (l : List Int) (hx : a.eval x = .slice A m c) (hsl : RdB w A m c l)
    (hbytes : (n + m) * 1 ≤ 140737488355328) (hbase : B ≤ w.heap.size)
    (h : ∀ A' C' w', w'.ownsRow B 5 1 (.slice A' (n + m) C') (n + m) (bv (d ++ l)) → Below B w w' → KeptT w w' → wpList Try.prog ops Q rest (a.put o.dst (.slice A' (n + m) C')) w') :
    wpList Try.prog ops Q (o :: rest) a w := by
  refine wpList_plain hgd fun K hK => ?_
  obtain ⟨A', C', w', hr, h2, h3, h4⟩ := run_append_k w o.type B v n d hown A m c l hsl hbytes hbase
  unfold Oper.wp execOp
  simp only [ho, resolve, invoke, builtin, Sem.run_bind, Sem.run_pure, Result.andThen_ok, List.map_toArray, List.map_cons, List.map_nil, hs, hx, hr]
  exact hK _ _ (h A' C' w' h2 h3 h4)
end Go.Proofs.Ytmcmapgllaopmaa.Cd
end

section
namespace Go.Proofs.Ytmcmapgllaopmaa.Cd
open Go.RowKit
set_option linter.unusedVariables false
/-- a sequence's cells -/
def sqV (k : Int) (br : ByteArray) (og cu : List Int) (td : Value) (dn md : Int) (st : Bool) : List Value :=
  .int .i64 k :: .string br :: (bv og ++ (bv cu ++ [td, .int .i64 dn, .int .i64 md, .bool st]))
/-- a transaction's cells -/
def txV (hh : Bool) (hd : ByteArray) (mv : Value) (hs : Bool) (sq : List Value) (mm : Value) : List Value :=
  .bool hh :: .string hd :: mv :: .bool hs :: (sq ++ [mm])
def sq0 : List Value := sqV 0 ByteArray.empty (List.replicate 32 0) (List.replicate 32 0) (.slice none 0 0) 0 0 false
def tx0 : List Value := txV false ByteArray.empty (.slice none 0 0) false sq0 (.slice none 0 0)
theorem sqV_len {k : Int} {br : ByteArray} {og cu : List Int} {td : Value} {dn md : Int} {st : Bool} (ho : og.length = 32) (hc : cu.length = 32) : (sqV k br og cu td dn md st).length = 70 := by
  simp [sqV, bv_len, ho, hc]
theorem txV_len {hh : Bool} {hd : ByteArray} {mv : Value} {hs : Bool} {sq : List Value} {mm : Value} (h : sq.length = 70) : (txV hh hd mv hs sq mm).length = 75 := by
  simp [txV, h]
theorem sq0_len : sq0.length = 70 := sqV_len (by simp) (by simp)
theorem tx0_len : tx0.length = 75 := txV_len sq0_len
theorem bv_mem_one {l : List Int} {v : Value} (h : v ∈ bv l) : v.oneCell' = true := bv_one l v h
theorem sqV_one {k : Int} {br : ByteArray} {og cu : List Int} {td : Value} {dn md : Int} {st : Bool} (ht : td.oneCell' = true) : ∀ v ∈ sqV k br og cu td dn md st, v.oneCell' = true := by
  intro v hv
  simp only [sqV, List.mem_cons, List.mem_append, List.not_mem_nil, or_false] at hv
  rcases hv with rfl | rfl | h | h | rfl | rfl | rfl | rfl
  · rfl
  · rfl
  · exact bv_mem_one h
  · exact bv_mem_one h
  · exact ht
  · rfl
  · rfl
  · rfl
theorem txV_one {hh : Bool} {hd : ByteArray} {mv : Value} {hs : Bool} {sq : List Value} {mm : Value} (hm : mv.oneCell' = true) (hq : ∀ v ∈ sq, v.oneCell' = true) (hy : mm.oneCell' = true) : ∀ v ∈ txV hh hd mv hs sq mm, v.oneCell' = true := by
  intro v hv
  simp only [txV, List.mem_cons, List.mem_append, List.not_mem_nil, or_false] at hv
  rcases hv with rfl | rfl | rfl | rfl | h | rfl
  · rfl
  · rfl
  · exact hm
  · rfl
  · exact hq _ h
  · exact hy
theorem zeroTx (w : World) : (zeroValue 68).run Try.prog w = .ok (.agg tx0.toArray) w := by kernel_rfl
theorem zeroSq (w : World) : (zeroValue 65).run Try.prog w = .ok (.agg sq0.toArray) w := by kernel_rfl
theorem infoTx : (Try.prog.info? 68).map (·.size) = some 75 := by kernel_rfl
theorem infoSq : (Try.prog.info? 65).map (·.size) = some 70 := by kernel_rfl
theorem infoTd : (Try.prog.info? 84).map (·.size) = some 33 := by kernel_rfl
theorem infoMv : (Try.prog.info? 126).map (·.size) = some 66 := by kernel_rfl
theorem infoMy : (Try.prog.info? 128).map (·.size) = some 33 := by kernel_rfl
theorem rg_app {w : World} {b o : Nat} {xs ys : List Value} (h : w.rangeAt b o (xs ++ ys)) : w.rangeAt b o xs ∧ w.rangeAt b (o + xs.length) ys :=
  ⟨fun j v hj => h j v (by rw [List.getElem?_append_left (List.getElem?_eq_some_iff.1 hj).1]; exact hj), fun j v hj => by
    have := h (xs.length + j) v (by rw [List.getElem?_append_right (by omega), Nat.add_sub_cancel_left]; exact hj)
    rw [← Nat.add_assoc] at this
    exact this⟩
theorem rg_cons {w : World} {b o : Nat} {x : Value} {ys : List Value} (h : w.rangeAt b o (x :: ys)) : w.cell? ⟨b, o, none⟩ = some x ∧ w.rangeAt b (o + 1) ys :=
  ⟨h 0 x rfl, fun j v hj => by
    have := h (j + 1) v hj
    rw [show o + (j + 1) = o + 1 + j by omega] at this
    exact this⟩
/-- a sequence's parts, from o on in block b -/
structure SqAt (w : World) (b o : Nat) (k : Int) (br : ByteArray) (og cu : List Int) (td : Value) (dn md : Int) (st : Bool) : Prop where
  all : w.rangeAt b o (sqV k br og cu td dn md st)
  c0 : w.cell? ⟨b, o, none⟩ = some (.int .i64 k)
  c1 : w.cell? ⟨b, o + 1, none⟩ = some (.string br)
  og : w.rangeAt b (o + 2) (bv og)
  cu : w.rangeAt b (o + 34) (bv cu)
  td : w.cell? ⟨b, o + 66, none⟩ = some td
  dn : w.cell? ⟨b, o + 67, none⟩ = some (.int .i64 dn)
  md : w.cell? ⟨b, o + 68, none⟩ = some (.int .i64 md)
  st : w.cell? ⟨b, o + 69, none⟩ = some (.bool st)
theorem sq_at {w : World} {b o : Nat} {k : Int} {br : ByteArray} {og cu : List Int} {td : Value} {dn md : Int} {st : Bool} (ho : og.length = 32) (hc : cu.length = 32) (h : w.rangeAt b o (sqV k br og cu td dn md st)) : SqAt w b o k br og cu td dn md st := by
  have h0 := rg_cons h
  have h1 := rg_cons h0.2
  have h2 := rg_app h1.2
  have h3 := rg_app h2.2
  have h4 := rg_cons h3.2
  have h5 := rg_cons h4.2
  have h6 := rg_cons h5.2
  have h7 := rg_cons h6.2
  have e4 := h4.1
  have e5 := h5.1
  have e6 := h6.1
  have e7 := h7.1
  have e3 := h3.1
  simp only [bv_len, ho, hc, Nat.add_assoc] at e3 e4 e5 e6 e7
  exact ⟨h, h0.1, h1.1, by have := h2.1; simpa [Nat.add_assoc] using this, by simpa using e3, by simpa using e4, by simpa using e5, by simpa using e6, by simpa using e7⟩
/-- a transaction's parts, in block b -/
structure TxAt (w : World) (b : Nat) (hh : Bool) (hd : ByteArray) (mv : Value) (hs : Bool) (sq : List Value) (mm : Value) : Prop where
  all : w.rangeAt b 0 (txV hh hd mv hs sq mm)
  c0 : w.cell? ⟨b, 0, none⟩ = some (.bool hh)
  c1 : w.cell? ⟨b, 1, none⟩ = some (.string hd)
  c2 : w.cell? ⟨b, 2, none⟩ = some mv
  c3 : w.cell? ⟨b, 3, none⟩ = some (.bool hs)
  sq : w.rangeAt b 4 sq
  mm : w.cell? ⟨b, 74, none⟩ = some mm
theorem tx_at {w : World} {b : Nat} {hh : Bool} {hd : ByteArray} {mv : Value} {hs : Bool} {sq : List Value} {mm : Value} (hq : sq.length = 70) (h : w.rangeAt b 0 (txV hh hd mv hs sq mm)) : TxAt w b hh hd mv hs sq mm := by
  have h0 := rg_cons h
  have h1 := rg_cons h0.2
  have h2 := rg_cons h1.2
  have h3 := rg_cons h2.2
  have h4 := rg_app h3.2
  have h5 := rg_cons h4.2
  have e5 := h5.1
  simp only [hq] at e5
  exact ⟨h, h0.1, by simpa using h1.1, by simpa using h2.1, by simpa using h3.1, by simpa using h4.1, by simpa using e5⟩
/-- a row's cells told by a list are a range -/
theorem row_range {w : World} {X n : Nat} {t : TypeId} {D : List Value} (h : w.rowIs X t n (fun i => D.getD i undef)) (hl : D.length = n) : w.rangeAt X 0 D := fun j v hj => by
  have hjl := (List.getElem?_eq_some_iff.1 hj).1
  rw [Nat.zero_add, h.cell (show j < n by omega)]
  simp [List.getD, hj]
theorem row_of_stored {w : World} {X n : Nat} {t : TypeId} {D : List Value} (h : w.heap[X]? = some (.cells D.toArray t (0, 0))) (hl : D.length = n) : w.rowIs X t n (fun i => D.getD i undef) :=
  ⟨D.toArray, h, by rw [List.size_toArray, hl], fun i hi => by
    simp [List.getD, show i < D.length by omega]⟩
theorem row_newL (w : World) (D : List Value) (t : TypeId) (n : Nat) (hl : D.length = n) : (w.alloc (.cells D.toArray t)).rowIs w.heap.size t n (fun i => D.getD i undef) :=
  row_of_stored (by show (w.heap.push _)[w.heap.size]? = _; simp) hl
/-- a row of values of sz cells each that is read; it lies below G -/
structure RdS (G sz : Nat) (w : World) (A : Option Addr) (n C : Nat) (cs : List (List Value)) : Prop where
  len : cs.length = n
  cap : n ≤ C
  max : C ≤ 9223372036854775807
  size : ∀ c ∈ cs, c.length = sz
  cell : 0 < n → ∃ g o, A = some ⟨g, o, none⟩ ∧ g < G ∧ ∀ i, i < n → w.rangeAt g (o + i * sz) (cs.getD i [])
theorem RdS.below {G sz B : Nat} {w w' : World} {A : Option Addr} {n C : Nat} {cs : List (List Value)} (h : RdS G sz w A n C cs) (hb : Below B w w') (hG : G ≤ B) : RdS G sz w' A n C cs :=
  ⟨h.len, h.cap, h.max, h.size, fun h0 => by
    obtain ⟨g, o, h1, h2, h3⟩ := h.cell h0
    exact ⟨g, o, h1, h2, fun i hi => range_below hb (h3 i hi) (by omega)⟩⟩
/-- bytes that are read and lie below G -/
structure RdG (G : Nat) (w : World) (A : Option Addr) (n C : Nat) (l : List Int) : Prop where
  rd : RdB w A n C l
  lt : ∀ x, A = some x → 0 < n → x.block < G
theorem RdG.below {G B : Nat} {w w' : World} {A : Option Addr} {n C : Nat} {l : List Int} (h : RdG G w A n C l) (hb : Below B w w') (hs : B ≤ w.heap.size) (hG : G ≤ B) : RdG G w' A n C l :=
  ⟨⟨h.rd.len, h.rd.cap, h.rd.max, h.rd.big, h.rd.none, h.rd.byte, fun x hx => by
    obtain ⟨h1, h2⟩ := h.rd.cell x hx
    refine ⟨fun h0 => Nat.lt_of_lt_of_le (h1 h0) hb.size, fun i hi => ?_⟩
    rw [hb.cell (p := x.add i) (by rw [add_block]; have := h.lt x hx (by omega); omega)]
    exact h2 i hi⟩, h.lt⟩
/-- a move -/
structure Mv where
  nm : ByteArray
  od : List Int
  nw : List Int
  wy : ByteArray
instance : Inhabited Mv := ⟨⟨ByteArray.empty, [], [], ByteArray.empty⟩⟩
def Mv.cells (m : Mv) : List Value := .string m.nm :: (bv m.od ++ (bv m.nw ++ [.string m.wy]))
/-- a step -/
structure Td where
  dd : Int
  id : List Int
instance : Inhabited Td := ⟨⟨0, []⟩⟩
def Td.cells (t : Td) : List Value := .int .i64 t.dd :: bv t.id
/-- a conflict that is known: its key, its bytes and where they lie -/
structure My where
  key : List Int
  A : Option Addr
  n : Nat
  C : Nat
  l : List Int
instance : Inhabited My := ⟨⟨[], none, 0, 0, []⟩⟩
def My.cells (m : My) : List Value := bv m.key ++ [.slice m.A m.n m.C]
/-- rows of moves, steps, conflicts -/
structure RdM (G : Nat) (w : World) (A : Option Addr) (n C : Nat) (ms : List Mv) : Prop where
  rd : RdS G 66 w A n C (ms.map Mv.cells)
  ok : ∀ m ∈ ms, m.od.length = 32 ∧ m.nw.length = 32 ∧ m.nm.size ≤ 1000000000 ∧ m.wy.size ≤ 1000000000
structure RdT (G : Nat) (w : World) (A : Option Addr) (n C : Nat) (ts : List Td) : Prop where
  rd : RdS G 33 w A n C (ts.map Td.cells)
  ok : ∀ t ∈ ts, t.id.length = 32
structure RdY (G : Nat) (w : World) (A : Option Addr) (n C : Nat) (ys : List My) : Prop where
  rd : RdS G 33 w A n C (ys.map My.cells)
  ok : ∀ y ∈ ys, y.key.length = 32 ∧ y.n ≤ 1000000000 ∧ RdG G w y.A y.n y.C y.l
theorem RdM.below {G B : Nat} {w w' : World} {A : Option Addr} {n C : Nat} {ms : List Mv} (h : RdM G w A n C ms) (hb : Below B w w') (hG : G ≤ B) : RdM G w' A n C ms := ⟨h.rd.below hb hG, h.ok⟩
theorem RdT.below {G B : Nat} {w w' : World} {A : Option Addr} {n C : Nat} {ts : List Td} (h : RdT G w A n C ts) (hb : Below B w w') (hG : G ≤ B) : RdT G w' A n C ts := ⟨h.rd.below hb hG, h.ok⟩
theorem RdY.below {G B : Nat} {w w' : World} {A : Option Addr} {n C : Nat} {ys : List My} (h : RdY G w A n C ys) (hb : Below B w w') (hs : B ≤ w.heap.size) (hG : G ≤ B) : RdY G w' A n C ys :=
  ⟨h.rd.below hb hG, fun y hy => ⟨(h.ok y hy).1, (h.ok y hy).2.1, (h.ok y hy).2.2.below hb hs hG⟩⟩
theorem getD_memI {α : Type} [Inhabited α] {l : List α} {k : Nat} (h : k < l.length) : l.getD k default ∈ l := by
  rw [List.getD_eq_getElem?_getD, List.getElem?_eq_getElem h]; exact List.getElem_mem h
theorem map_getD {α : Type} [Inhabited α] (f : α → List Value) {l : List α} {k : Nat} (h : k < l.length) : (l.map f).getD k [] = f (l.getD k default) := by
  simp [List.getD, h]
theorem take_snocI {α : Type} [Inhabited α] (l : List α) (k : Nat) (hk : k < l.length) : l.take (k + 1) = l.take k ++ [l.getD k default] := by
  rw [List.take_succ_eq_append_getElem hk]
  congr 2
  simp [List.getD, hk]
theorem drop_consI {α : Type} [Inhabited α] (l : List α) (k : Nat) (hk : k < l.length) : l.drop k = l.getD k default :: l.drop (k + 1) := by
  rw [List.drop_eq_getElem_cons hk]
  congr 1
  simp [List.getD, hk]
theorem Mv.len {m : Mv} (h : m.od.length = 32) (h' : m.nw.length = 32) : m.cells.length = 66 := by simp [Mv.cells, bv_len, h, h']
theorem Td.len {t : Td} (h : t.id.length = 32) : t.cells.length = 33 := by simp [Td.cells, bv_len, h]
theorem My.len {m : My} (h : m.key.length = 32) : m.cells.length = 33 := by simp [My.cells, bv_len, h]
theorem Mv.one (m : Mv) : ∀ v ∈ m.cells, v.oneCell' = true := by
  intro v hv
  simp only [Mv.cells, List.mem_cons, List.mem_append, List.not_mem_nil, or_false] at hv
  rcases hv with rfl | h | h | rfl
  · rfl
  · exact bv_mem_one h
  · exact bv_mem_one h
  · rfl
theorem Td.one (t : Td) : ∀ v ∈ t.cells, v.oneCell' = true := by
  intro v hv
  simp only [Td.cells, List.mem_cons] at hv
  rcases hv with rfl | h
  · rfl
  · exact bv_mem_one h
theorem My.one (m : My) : ∀ v ∈ m.cells, v.oneCell' = true := by
  intro v hv
  simp only [My.cells, List.mem_append, List.mem_cons, List.not_mem_nil, or_false] at hv
  rcases hv with h | rfl
  · exact bv_mem_one h
  · rfl
end Go.Proofs.Ytmcmapgllaopmaa.Cd
end

section
namespace Go.Proofs.Ytmcmapgllaopmaa.Cd
open Go.RowKit
set_option linter.unusedVariables false
/-- a type of rows: the row's, the thing's, its cells when zero, how many, its bytes -/
structure RowT (tS tE : TypeId) (Z : List Value) (sz by' : Nat) : Prop where
  und : Try.prog.underlying tS = some (.slice tE)
  info : (Try.prog.info? tE).map (fun i => (i.zero, i.size, i.bytes)) = some (some (.agg Z.toArray), sz, by')
  zl : Z.length = sz
  pos : 0 < sz
  few : sz ≤ 100
  byt : by' ≤ 100
def tdZ : List Value := Td.cells ⟨0, List.replicate 32 0⟩
def mvZ : List Value := Mv.cells ⟨ByteArray.empty, List.replicate 32 0, List.replicate 32 0, ByteArray.empty⟩
def myZ : List Value := My.cells ⟨List.replicate 32 0, none, 0, 0, []⟩
theorem rowTd : RowT 63 84 tdZ 33 40 := ⟨Try.underlying63, by kernel_rfl, by simp [tdZ, Td.cells, bv_len], by decide, by decide, by decide⟩
theorem rowMv : RowT 62 126 mvZ 66 96 := ⟨Try.underlying62, by kernel_rfl, by simp [mvZ, Mv.cells, bv_len], by decide, by decide, by decide⟩
theorem rowMy : RowT 66 128 myZ 33 56 := ⟨Try.underlying66, by kernel_rfl, by simp [myZ, My.cells, bv_len], by decide, by decide, by decide⟩
theorem run_append_z {tS tE : TypeId} {Z : List Value} {sz by' : Nat} (T : RowT tS tE Z sz by') (w : World) (ty : TypeId) (B : Nat) (v : Value) (n : Nat) (d : List Value) (hown : w.ownsRow B tE sz v n d)
    (g : Nat) (cs : List Value) (hy : ∀ j u, cs[j]? = some u → w.cell? ((⟨g, 0, none⟩ : Addr).add j) = some u) (hyl : cs.length = sz) (hone : ∀ u ∈ cs, u.oneCell' = true)
    (hn : n ≤ 1000000) (hbase : B ≤ w.heap.size) :
    ∃ A' C' w', (Builtin.append_ #[tS, tS] ty #[v, .slice (some ⟨g, 0, none⟩) 1 1]).run Try.prog w = .ok (.slice A' (n + 1) C') w' ∧ w'.ownsRow B tE sz (.slice A' (n + 1) C') (n + 1) (d ++ cs) ∧ w.grownBy w' v.ownBlock := by
  obtain ⟨i0, hi, hz0, hz1, hz2⟩ := info_parts T.info
  have hpos := T.pos
  have hbt := T.byt
  have hb1 : (n + 1) * by' ≤ (n + 1) * 100 := Nat.mul_le_mul_left _ hbt
  obtain ⟨v', w', hr, h2, h3, h4⟩ := run_append_own (P := Try.prog) w B tS ty tE i0 (.agg Z.toArray) sz by' T.und hi hz0 hz1 hz2 (by simp [Value.cells, T.zl]) hpos v n d hown ⟨g, 0, none⟩ 1 1 cs (by rw [hyl, Nat.one_mul]) hy hone (by unfold maxLen; omega) (by omega) hbase
  obtain ⟨A', C', rfl⟩ := own_slice' h2
  exact ⟨A', C', w', hr, h2, h3⟩
theorem step_append_z {tS tE : TypeId} {Z : List Value} {sz by' : Nat} (T : RowT tS tE Z sz by') (w : World) {ops : Array Oper} {o : Oper} {a : Act} {K : Act → World → Prop} {Q : Exit → Act → World → Prop} {E : Prop} (hgd : o.guard = none) (s x : Operand)
    (ho : o.op = .call { callee := .builtin .append, args := #[s, x], argTypes := #[tS, tS] })
    (B : Nat) (v : Value) (n : Nat) (d : List Value) (hs : a.eval s = v) (hown : w.ownsRow B tE sz v n d)
    (g : Nat) (cs : List Value) (hx : a.eval x = .slice (some ⟨g, 0, none⟩) 1 1) (hy : ∀ j u, cs[j]? = some u → w.cell? ((⟨g, 0, none⟩ : Addr).add j) = some u) (hyl : cs.length = sz) (hone : ∀ u ∈ cs, u.oneCell' = true)
    (hn : n ≤ 1000000) (hbase : B ≤ w.heap.size)
    (h : ∀ A' C' w', w'.ownsRow B tE sz (.slice A' (n + 1) C') (n + 1) (d ++ cs) → w.grownBy w' v.ownBlock → K (a.put o.dst (.slice A' (n + 1) C')) w') :
    if Region.wanted o (yielded ops a.tmps) = true then Oper.wp Try.prog o a w K Q else E := by
  have hw : Region.wanted o (yielded ops a.tmps) = true := by simp [Region.wanted, hgd]
  rw [if_pos hw]
  obtain ⟨A', C', w', hr, h2, h3⟩ := run_append_z T w o.type B v n d hown g cs hy hyl hone hn hbase
  unfold Oper.wp execOp
  simp only [ho, resolve, invoke, builtin, Sem.run_bind, Sem.run_pure, Result.andThen_ok, List.map_toArray, List.map_cons, List.map_nil, hs, hx, hr]
  exact h A' C' w' h2 h3
theorem wpList_append_z {tS tE : TypeId} {Z : List Value} {sz by' : Nat} (T : RowT tS tE Z sz by') (w : World) {ops : Array Oper} {rest : List Oper} {o : Oper} {a : Act} {Q : Exit → Act → World → Prop} (hgd : o.guard = none) (s x : Operand)
    (ho : o.op = .call { callee := .builtin .append, args := #[s, x], argTypes := #[tS, tS] })
    (B : Nat) (v : Value) (n : Nat) (d : List Value) (hs : a.eval s = v) (hown : w.ownsRow B tE sz v n d)
    (g : Nat) (cs : List Value) (hx : a.eval x = .slice (some ⟨g, 0, none⟩) 1 1) (hy : ∀ j u, cs[j]? = some u → w.cell? ((⟨g, 0, none⟩ : Addr).add j) = some u) (hyl : cs.length = sz) (hone : ∀ u ∈ cs, u.oneCell' = true)
    (hn : n ≤ 1000000) (hbase : B ≤ w.heap.size)
    (h : ∀ A' C' w', w'.ownsRow B tE sz (.slice A' (n + 1) C') (n + 1) (d ++ cs) → w.grownBy w' v.ownBlock → wpList Try.prog ops Q rest (a.put o.dst (.slice A' (n + 1) C')) w') : wpList Try.prog ops Q (o :: rest) a w := by
  refine wpList_plain hgd fun K hK => ?_
  obtain ⟨A', C', w', hr, h2, h3⟩ := run_append_z T w o.type B v n d hown g cs hy hyl hone hn hbase
  unfold Oper.wp execOp
  simp only [ho, resolve, invoke, builtin, Sem.run_bind, Sem.run_pure, Result.andThen_ok, List.map_toArray, List.map_cons, List.map_nil, hs, hx, hr]
  exact hK _ _ (h A' C' w' h2 h3)
theorem fill_z {sz : Nat} {Z cs : List Value} (hp : 0 < sz) (hl : cs.length = sz) : Instr.fill (fun i => some (i * sz, sz)) ((Array.range (1 * sz)).map ((Value.agg Z.toArray).cells[· % (Value.agg Z.toArray).cells.size]!)) [(0, Value.agg cs.toArray)] = some cs.toArray := by
  have := Great.fill_whole (s := sz) hp [Value.agg cs.toArray] ((Array.range (1 * sz)).map ((Value.agg Z.toArray).cells[· % (Value.agg Z.toArray).cells.size]!)) (by simp [Value.cells, hl]) (by simp)
  simpa [Value.cells] using this
theorem step_build_z {tS tE : TypeId} {Z : List Value} {sz by' : Nat} (T : RowT tS tE Z sz by') (w : World) {ops : Array Oper} {o : Oper} {a : Act} {K : Act → World → Prop} {Q : Exit → Act → World → Prop} {E : Prop} (hgd : o.guard = none) (x : Operand)
    (ho : o.op = .buildSlice tS 1 #[(0, x)]) (cs : List Value) (hx : a.eval x = .agg cs.toArray) (hl : cs.length = sz)
    (h : K (a.put o.dst (.slice (some ⟨w.heap.size, 0, none⟩) 1 1)) (w.alloc (.cells cs.toArray tE))) :
    if Region.wanted o (yielded ops a.tmps) = true then Oper.wp Try.prog o a w K Q else E := by
  have hw : Region.wanted o (yielded ops a.tmps) = true := by simp [Region.wanted, hgd]
  rw [if_pos hw]
  obtain ⟨i0, hi, hz0, hz1, hz2⟩ := info_parts T.info
  have hpos := T.pos
  have hfew := T.few
  refine wp_buildSlice tS tE 1 #[(0, x)] ho cs.toArray i0 _ T.und hi hz0 (by rw [hz1]; omega) (by rw [hz1]; omega) ?_ h
  rw [hz1]
  simpa [hx] using fill_z (Z := Z) hpos hl
theorem wpList_build_z {tS tE : TypeId} {Z : List Value} {sz by' : Nat} (T : RowT tS tE Z sz by') (w : World) {ops : Array Oper} {rest : List Oper} {o : Oper} {a : Act} {Q : Exit → Act → World → Prop} (hgd : o.guard = none) (x : Operand)
    (ho : o.op = .buildSlice tS 1 #[(0, x)]) (cs : List Value) (hx : a.eval x = .agg cs.toArray) (hl : cs.length = sz)
    (h : wpList Try.prog ops Q rest (a.put o.dst (.slice (some ⟨w.heap.size, 0, none⟩) 1 1)) (w.alloc (.cells cs.toArray tE))) : wpList Try.prog ops Q (o :: rest) a w := by
  obtain ⟨i0, hi, hz0, hz1, hz2⟩ := info_parts T.info
  have hpos := T.pos
  have hfew := T.few
  refine wpList_buildSlice hgd tS tE 1 #[(0, x)] ho cs.toArray i0 _ T.und hi hz0 (by rw [hz1]; omega) (by rw [hz1]; omega) ?_ h
  rw [hz1]
  simpa [hx] using fill_z (Z := Z) hpos hl
theorem new_cellsZ (w : World) (cs : List Value) (t : TypeId) : ∀ j u, cs[j]? = some u → (w.alloc (.cells cs.toArray t)).cell? ((⟨w.heap.size, 0, none⟩ : Addr).add j) = some u := by
  intro j u hj
  rw [show Addr.add ⟨w.heap.size, 0, none⟩ j = (⟨w.heap.size, j, none⟩ : Addr) from by unfold Addr.add; split <;> simp_all, World.cell?_alloc_new]
  simpa using hj
def tdsV (d : List Td) : List Value := d.flatMap Td.cells
def mvsV (d : List Mv) : List Value := d.flatMap Mv.cells
def mysV (d : List My) : List Value := d.flatMap My.cells
theorem tdsV_snoc (d : List Td) (y : Td) : tdsV (d ++ [y]) = tdsV d ++ y.cells := by simp [tdsV]
theorem mvsV_snoc (d : List Mv) (y : Mv) : mvsV (d ++ [y]) = mvsV d ++ y.cells := by simp [mvsV]
theorem mysV_snoc (d : List My) (y : My) : mysV (d ++ [y]) = mysV d ++ y.cells := by simp [mysV]
end Go.Proofs.Ytmcmapgllaopmaa.Cd
end

section
namespace Go.Proofs.Ytmcmapgllaopmaa.Cd
open Go.RowKit
set_option linter.unusedVariables false
/-- a place: what failed, where -/
abbrev Pl := Int × Nat
def atN (l : List Int) (L : Nat) (p : Pl) (n : Nat) : Pl := (tkF p.1 p.2 L n, tkA p.1 p.2 L n)
def geN (l : List Int) (L : Nat) (p : Pl) (n : Nat) : Nat := (nv (tkL p.1 l p.2 L n)).toNat
def geL (l : List Int) (L : Nat) (p : Pl) (n : Nat) : List Int := tkL p.1 l p.2 L n
def geI (l : List Int) (L : Nat) (p : Pl) : List Int := idv (tkL p.1 l p.2 L 32)
def atT (l : List Int) (L : Nat) (p : Pl) (n most : Nat) : Pl := (txF p.1 l p.2 L n most, txA p.1 l p.2 L n most)
def geT (l : List Int) (L : Nat) (p : Pl) (n most : Nat) : ByteArray := txS p.1 l p.2 L n most
/-- a reader at a place -/
def At (w : World) (R N : Nat) (t : TypeId) (A : Option Addr) (L C : Nat) (l : List Int) (p : Pl) (E : Nat → Value) : Prop := Rdr w R N t A L C l p.2 p.1 E
theorem geI_len (l : List Int) (L : Nat) (p : Pl) : (geI l L p).length = 32 := by
  refine idv_len _ ?_
  unfold tkL
  split
  · rw [List.length_take]; omega
  · simp
theorem nv_tkL4 (f : Int) (l : List Int) (at' L n : Nat) (hn : n ≤ 4) (hl : l.length = L) (hb : ∀ i, i < L → 0 ≤ l.getD i 0 ∧ l.getD i 0 ≤ 255) : 0 ≤ nv (tkL f l at' L n) ∧ nv (tkL f l at' L n) < 256 ^ n := by
  unfold tkL
  split
  · refine nv_bound n _ (by rw [List.length_take]; omega) (fun i hi => ?_)
    rw [List.length_take, List.length_drop] at hi
    rw [take_getD _ _ _ (by omega)]
    have := hb (at' + i) (by omega)
    simpa [List.getD] using this
  · exact ⟨by decide, Int.pow_pos (by decide)⟩
theorem geN_eq {l : List Int} {L : Nat} {p : Pl} {n : Nat} (hn : n ≤ 4) (hl : l.length = L) (hb : ∀ i, i < L → 0 ≤ l.getD i 0 ∧ l.getD i 0 ≤ 255) : nv (tkL p.1 l p.2 L n) = ((geN l L p n : Nat) : Int) := by
  have := nv_tkL4 p.1 l p.2 L n hn hl hb
  unfold geN; omega
theorem geN_lt {l : List Int} {L : Nat} {p : Pl} {n : Nat} (hn : n ≤ 4) (hl : l.length = L) (hb : ∀ i, i < L → 0 ≤ l.getD i 0 ∧ l.getD i 0 ≤ 255) : geN l L p n < 256 ^ n := by
  have h := nv_tkL4 p.1 l p.2 L n hn hl hb
  have e := geN_eq (p := p) hn hl hb
  have h2 := h.2
  rw [e] at h2
  have h3 : ((256 ^ n : Nat) : Int) = (256 : Int) ^ n := Int.natCast_pow 256 n
  rw [← h3] at h2
  exact Int.ofNat_lt.1 h2
theorem number_p (R N : Nat) (t : TypeId) (A : Option Addr) (L C : Nat) (l : List Int) (p : Pl) (E : Nat → Value) (n : Nat) (w : World) (h : At w R N t A L C l p E) (hn : n ≤ 4) :
    Calls Try.prog 62 #[.pointer (some ⟨R, 0, none⟩), .int .i64 n] w fun e w' => e = .returned (.int .i64 (geN l L p n : Nat)) ∧ At w' R N t A L C l (atN l L p n) E ∧ w.grownBy w' (some R) := by
  have := number_r R N t A L C l p.2 p.1 E n w h hn
  rw [geN_eq hn h.rd.len h.rd.byte] at this
  exact this
theorem byte_p (R N : Nat) (t : TypeId) (A : Option Addr) (L C : Nat) (l : List Int) (p : Pl) (E : Nat → Value) (w : World) (h : At w R N t A L C l p E) :
    Calls Try.prog 61 #[.pointer (some ⟨R, 0, none⟩)] w fun e w' => e = .returned (.int .u8 (geN l L p 1 : Nat)) ∧ At w' R N t A L C l (atN l L p 1) E ∧ w.grownBy w' (some R) := by
  have := byte_r R N t A L C l p.2 p.1 E w h
  rw [geN_eq (by decide) h.rd.len h.rd.byte] at this
  exact this
theorem id_p (R N : Nat) (t : TypeId) (A : Option Addr) (L C : Nat) (l : List Int) (p : Pl) (E : Nat → Value) (w : World) (h : At w R N t A L C l p E) :
    Calls Try.prog 84 #[.pointer (some ⟨R, 0, none⟩)] w fun e w' => e = .returned (.agg (bv (geI l L p)).toArray) ∧ At w' R N t A L C l (atN l L p 32) E ∧ w.grownBy w' (some R) :=
  id_r R N t A L C l p.2 p.1 E w h
theorem text_p (R N : Nat) (t : TypeId) (A : Option Addr) (L C : Nat) (l : List Int) (p : Pl) (E : Nat → Value) (n most : Nat) (w : World) (h : At w R N t A L C l p E) (hn : n < 4) :
    Calls Try.prog 89 #[.pointer (some ⟨R, 0, none⟩), .int .i64 n, .int .i64 most] w fun e w' => e = .returned (.string (geT l L p n most)) ∧ At w' R N t A L C l (atT l L p n most) E ∧ w.grownBy w' (some R) :=
  text_r R N t A L C l p.2 p.1 E n most w h hn
theorem ok_p (R N : Nat) (t : TypeId) (A : Option Addr) (L C : Nat) (l : List Int) (p : Pl) (E : Nat → Value) (w : World) (h : At w R N t A L C l p E) :
    Calls Try.prog 46 #[.pointer (some ⟨R, 0, none⟩)] w fun e' w' => e' = .returned (.bool (p.1 == 0)) ∧ w' = w :=
  ok_any R N t A L C l p.2 p.1 E w h
theorem fail_p (R N : Nat) (t : TypeId) (A : Option Addr) (L C : Nat) (l : List Int) (p : Pl) (e : Int) (E : Nat → Value) (w : World) (h : At w R N t A L C l p E) :
    Calls Try.prog 85 #[.pointer (some ⟨R, 0, none⟩), .int .i64 e] w fun e' w' => e' = .returned (.tuple #[]) ∧ At w' R N t A L C l (fl p.1 e, p.2) E ∧ w.grownBy w' (some R) :=
  fail_any R N t A L C l p.2 p.1 e E w h
/-- the steps told, and the place behind -/
def tdL (l : List Int) (L : Nat) : Nat → Pl → List Td → Pl × List Td
  | 0, p, ts => (p, ts)
  | n + 1, p, ts => if p.1 = 0 then tdL l L n (atN l L (atN l L p 1) 32) (ts ++ [⟨(geN l L p 1 : Nat), geI l L (atN l L p 1)⟩]) else (p, ts)
def sK (l : List Int) (L : Nat) (p : Pl) : Nat := geN l L p 1
def sP1 (l : List Int) (L : Nat) (p : Pl) : Pl := atN l L p 1
def sBr (l : List Int) (L : Nat) (p : Pl) : ByteArray := geT l L (sP1 l L p) 1 255
def sP2 (l : List Int) (L : Nat) (p : Pl) : Pl := atT l L (sP1 l L p) 1 255
def sOg (l : List Int) (L : Nat) (p : Pl) : List Int := geI l L (sP2 l L p)
def sP3 (l : List Int) (L : Nat) (p : Pl) : Pl := atN l L (sP2 l L p) 32
def sCu (l : List Int) (L : Nat) (p : Pl) : List Int := geI l L (sP3 l L p)
def sP4 (l : List Int) (L : Nat) (p : Pl) : Pl := atN l L (sP3 l L p) 32
def sM (l : List Int) (L : Nat) (p : Pl) : Nat := geN l L (sP4 l L p) 2
def sP5 (l : List Int) (L : Nat) (p : Pl) : Pl := atN l L (sP4 l L p) 2
def sQ (l : List Int) (L : Nat) (p : Pl) : Pl × List Td := tdL l L (sM l L p) (sP5 l L p) []
def sDn (l : List Int) (L : Nat) (p : Pl) : Nat := geN l L (sQ l L p).1 2
def sP6 (l : List Int) (L : Nat) (p : Pl) : Pl := atN l L (sQ l L p).1 2
def sMd (l : List Int) (L : Nat) (p : Pl) : Nat := geN l L (sP6 l L p) 2
def sP7 (l : List Int) (L : Nat) (p : Pl) : Pl := atN l L (sP6 l L p) 2
def sSt (l : List Int) (L : Nat) (p : Pl) : Nat := geN l L (sP7 l L p) 1
def sP8 (l : List Int) (L : Nat) (p : Pl) : Pl := atN l L (sP7 l L p) 1
def sP9 (l : List Int) (L : Nat) (p : Pl) : Pl := if 1 < sSt l L p then (fl (sP8 l L p).1 16, (sP8 l L p).2) else sP8 l L p
/-- a sequence, its steps a row -/
structure Sq where
  k : Int
  br : ByteArray
  og : List Int
  cu : List Int
  ts : List Td
  dn : Int
  md : Int
  st : Bool
def Sq.nil (k : Int) : Sq := ⟨k, ByteArray.empty, List.replicate 32 0, List.replicate 32 0, [], 0, 0, false⟩
def sqP (l : List Int) (L : Nat) (p : Pl) : Sq := if sK l L p = 0 then Sq.nil 0 else ⟨(sK l L p : Nat), sBr l L p, sOg l L p, sCu l L p, (sQ l L p).2, (sDn l L p : Nat), (sMd l L p : Nat), sSt l L p == 1⟩
def sqE (l : List Int) (L : Nat) (p : Pl) : Pl := if sK l L p = 0 then sP1 l L p else sP9 l L p
theorem tdL_len (l : List Int) (L : Nat) : ∀ (n : Nat) (p : Pl) (ts : List Td), (tdL l L n p ts).2.length ≤ ts.length + n
  | 0, _, _ => by simp [tdL]
  | n + 1, p, ts => by
    unfold tdL
    split
    · refine Nat.le_trans (tdL_len l L n _ _) ?_
      simp; omega
    · simp
/-- the sequence's cells -/
def Sq.cells (s : Sq) (v : Value) : List Value := sqV s.k s.br s.og s.cu v s.dn s.md s.st
/-- what (*txReader).seq hands back -/
def SqRet (R : Nat) (A : Option Addr) (L C : Nat) (l : List Int) (p : Pl) (E : Nat → Value) (w : World) (e : Ending) (w' : World) : Prop :=
  At w' R 3 136 A L C l (sqE l L p) E ∧ w.grownBy w' (some R) ∧
  ∃ Ai Ci, e = .returned (.agg ((sqP l L p).cells (.slice Ai (sqP l L p).ts.length Ci)).toArray) ∧ w'.ownsRow w.heap.size 84 33 (.slice Ai (sqP l L p).ts.length Ci) (sqP l L p).ts.length (tdsV (sqP l L p).ts)
end Go.Proofs.Ytmcmapgllaopmaa.Cd
end

section
namespace Go.Proofs.Ytmcmapgllaopmaa.Cd
open Go.RowKit
set_option linter.unusedVariables false
/-- cells laid from o on, as a list -/
def layL (D : List Value) (o : Nat) (vs : List Value) : List Value := D.take o ++ vs ++ D.drop (o + vs.length)
theorem layL_len {D vs : List Value} {o N : Nat} (hl : D.length = N) (ho : o + vs.length ≤ N) : (layL D o vs).length = N := by
  simp [layL]; omega
theorem row_setL {w : World} {X N : Nat} {t : TypeId} {D : List Value} (h : w.rowIs X t N (fun i => D.getD i undef)) (hl : D.length = N) (i : Nat) (v : Value) : (w.setCell ⟨X, i, none⟩ v).rowIs X t N (fun j => (D.set i v).getD j undef) :=
  (h.set i v).congr (fun j hj => by
    by_cases e : j = i
    · subst e
      rw [if_pos rfl]
      simp [List.getD, show j < D.length by omega]
    · rw [if_neg e]
      simp [List.getD, List.getElem?_set_ne (Ne.symm e)])
theorem row_layL {w : World} {X N : Nat} {t : TypeId} {D : List Value} (h : w.rowIs X t N (fun i => D.getD i undef)) (hl : D.length = N) (o : Nat) (vs : List Value) (ho : o + vs.length ≤ N) : (w.setCells X o vs).rowIs X t N (fun j => (layL D o vs).getD j undef) :=
  (row_lay h o vs).congr (fun j hj => by
    unfold layL layF
    by_cases h1 : o ≤ j ∧ j < o + vs.length
    · rw [if_pos h1, List.append_assoc, List.getD_eq_getElem?_getD (l := D.take o ++ _), List.getElem?_append_right (by rw [List.length_take]; omega), List.getElem?_append_left (by rw [List.length_take]; omega), List.length_take, show min o D.length = o by omega]
      simp [List.getD]
    · rw [if_neg h1]
      by_cases h2 : j < o
      · simp only [List.getD]
        rw [List.append_assoc, List.getElem?_append_left (by rw [List.length_take]; omega), List.getElem?_take_of_lt h2]
      · simp only [List.getD]
        rw [List.getElem?_append_right (by simp; omega), List.getElem?_drop]
        congr 2
        simp; omega)
/-- the walk's state: the reader, the result's block, the struct's own -/
structure Ws (w : World) (R O X : Nat) (tX : TypeId) (N : Nat) (D : List Value) (A : Option Addr) (L C : Nat) (l : List Int) (p : Pl) (E : Nat → Value) (W : World) : Prop where
  rd : At W R 3 136 A L C l p E
  dl : D.length = N
  rx : W.rowIs X tX N (fun i => D.getD i undef)
  ro : ∃ F, W.rowIs O tX N F
  gr : w.grownBy W (some R)
  hR : R < w.heap.size
  hA : ∀ x, A = some x → 0 < L → x.block < w.heap.size
  hO : w.heap.size ≤ O
  hX : O < X
section
variable {w : World} {R O X : Nat} {tX : TypeId} {N : Nat} {D : List Value} {A : Option Addr} {L C : Nat} {l : List Int} {p : Pl} {E : Nat → Value} {W : World}
theorem Ws.hXs (h : Ws w R O X tX N D A L C l p E W) : X < W.heap.size := h.rx.lt
theorem Ws.call (h : Ws w R O X tX N D A L C l p E W) {W' : World} {p' : Pl} (hr : At W' R 3 136 A L C l p' E) (hg : W.grownBy W' (some R)) : Ws w R O X tX N D A L C l p' E W' := by
  have h1 := h.hR
  have h2 := h.hO
  have h3 := h.hX
  obtain ⟨F, ho⟩ := h.ro
  exact ⟨hr, h.dl, h.rx.of_block (hg.block X h.rx.lt (fun e => by have := Option.some.inj e; omega)), ⟨F, ho.of_block (hg.block O ho.lt (fun e => by have := Option.some.inj e; omega))⟩, grown_trans h.gr hg, h1, h.hA, h2, h3⟩
theorem Ws.belowB (h : Ws w R O X tX N D A L C l p E W) {W' : World} (hb : Below (X + 1) W W') : Ws w R O X tX N D A L C l p E W' := by
  have h1 := h.hR
  have h2 := h.hO
  have h3 := h.hX
  obtain ⟨F, ho⟩ := h.ro
  exact ⟨Rdr.belowB h.rd hb (by omega) (fun x hx h0 => by have := h.hA x hx h0; omega), h.dl, h.rx.of_block (hb.block X (by omega)), ⟨F, ho.of_block (hb.block O (by omega))⟩, ⟨hb.os.trans h.gr.os, hb.tape.trans h.gr.tape, hb.output.trans h.gr.output, Nat.le_trans h.gr.size hb.size, fun i hi hne => (hb.block i (by omega)).trans (h.gr.block i hi hne)⟩, h1, h.hA, h2, h3⟩
theorem Ws.set (h : Ws w R O X tX N D A L C l p E W) (i : Nat) (v : Value) : Ws w R O X tX N (D.set i v) A L C l p E (W.setCell ⟨X, i, none⟩ v) := by
  have h1 := h.hR
  have h2 := h.hO
  have h3 := h.hX
  obtain ⟨F, ho⟩ := h.ro
  have hg := grown_set W X i v
  exact ⟨Rdr.setX h.rd X i v (by omega) (fun x hx h0 => by have := h.hA x hx h0; omega), by rw [List.length_set]; exact h.dl, row_setL h.rx h.dl i v, ⟨F, ho.setOther (a := ⟨X, i, none⟩) (fun e => by have : X = O := e.symm ▸ rfl; omega) v⟩, ⟨hg.os.trans h.gr.os, hg.tape.trans h.gr.tape, hg.output.trans h.gr.output, Nat.le_trans h.gr.size hg.size, fun j hj hne => (hg.block j (Nat.lt_of_lt_of_le hj h.gr.size) (fun e => by have := Option.some.inj e; omega)).trans (h.gr.block j hj hne)⟩, h1, h.hA, h2, h3⟩
theorem Ws.lay (h : Ws w R O X tX N D A L C l p E W) (o : Nat) (vs : List Value) (ho : o + vs.length ≤ N) : Ws w R O X tX N (layL D o vs) A L C l p E (W.setCells X o vs) := by
  have h1 := h.hR
  have h2 := h.hO
  have h3 := h.hX
  obtain ⟨F, hro⟩ := h.ro
  exact ⟨Rdr.laid (X := X) (by omega) vs o W (fun x hx h0 => by have := h.hA x hx h0; omega) h.rd, layL_len h.dl ho, row_layL h.rx h.dl o vs ho, ⟨F, row_apart (b := O) (E := X) (by omega) vs o W hro⟩, grown_laid (by omega) vs o W h.gr, h1, h.hA, h2, h3⟩
theorem Ws.drew (h : Ws w R O X tX N D A L C l p E W) (n : Nat) : Ws w R O X tX N D A L C l p E (W.drewN n) := by
  obtain ⟨F, hro⟩ := h.ro
  exact ⟨Rdr.drewN h.rd n, h.dl, h.rx, ⟨F, hro⟩, ⟨h.gr.os, h.gr.tape, h.gr.output, h.gr.size, h.gr.block⟩, h.hR, h.hA, h.hO, h.hX⟩
theorem Ws.cell (h : Ws w R O X tX N D A L C l p E W) (i : Nat) (hi : i < N) : W.cell? ⟨X, i, none⟩ = some (D.getD i undef) := h.rx.cell hi
theorem Ws.range (h : Ws w R O X tX N D A L C l p E W) : W.rangeAt X 0 D := row_range h.rx h.dl
theorem Ws.there (h : Ws w R O X tX N D A L C l p E W) (o : Nat) (vs : List Value) (ho : o + vs.length ≤ N) : W.there X o vs.toArray.size := fun j hj => by
  rw [List.size_toArray] at hj
  exact ⟨by rw [h.rx.cell (show o + j < N by omega)]; rfl, h.rx.frozen _⟩
theorem Ws.own_call {B e sz n : Nat} {v : Value} {xs : List Value} (h : Ws w R O X tX N D A L C l p E W) (ho : W.ownsRow B e sz v n xs) (hB : X < B) {W' : World} (hg : W.grownBy W' (some R)) : W'.ownsRow B e sz v n xs :=
  own_grown ho hg (fun e => by have := (ho.lt R e).1; have := h.hR; have := h.hO; have := h.hX; omega)
theorem Ws.own_set {B e sz n : Nat} {v : Value} {xs : List Value} (ho : W.ownsRow B e sz v n xs) (hB : X < B) (i : Nat) (u : Value) : (W.setCell ⟨X, i, none⟩ u).ownsRow B e sz v n xs :=
  own_grown ho (grown_set W X i u) (fun e => by have := (ho.lt X e).1; omega)
theorem Ws.own_lay {B e sz n : Nat} {v : Value} {xs : List Value} (ho : W.ownsRow B e sz v n xs) (hB : X < B) (o : Nat) (vs : List Value) : (W.setCells X o vs).ownsRow B e sz v n xs :=
  own_grown ho (grown_cells W X vs o) (fun e => by have := (ho.lt X e).1; omega)
/-- what behind an append to a row above X holds -/
theorem Ws.app (h : Ws w R O X tX N D A L C l p E W) {v : Value} {e sz n : Nat} {xs : List Value} {B : Nat} (ho : W.ownsRow B e sz v n xs) (hB : X < B) {W' : World} (hg : W.grownBy W' v.ownBlock) : Ws w R O X tX N D A L C l p E W' :=
  h.belowB ((Below.refl (X + 1) W).grown hg (by have := h.hXs; omega) (fun k hk => by have := (ho.lt k hk).1; omega))
theorem Ws.alloc (h : Ws w R O X tX N D A L C l p E W) (o : Obj) : Ws w R O X tX N D A L C l p E (W.alloc o) :=
  h.belowB ((Below.refl (X + 1) W).alloc (by have := h.hXs; omega) o)
/-- the end: the struct's cells are laid into the result's block -/
theorem Ws.fin (h : Ws w R O X tX N D A L C l p E W) {B e sz n : Nat} {v : Value} {xs : List Value} : 
    At (W.setCells O 0 D) R 3 136 A L C l p E ∧ w.grownBy (W.setCells O 0 D) (some R) ∧ (W.setCells O 0 D).heap[O]? = some (.cells D.toArray tX (0, 0)) ∧ W.there O 0 D.toArray.size ∧ (W.ownsRow B e sz v n xs → X < B → (W.setCells O 0 D).ownsRow B e sz v n xs) := by
  have h1 := h.hR
  have h2 := h.hO
  have h3 := h.hX
  obtain ⟨F, hro⟩ := h.ro
  refine ⟨Rdr.laid (X := O) (by omega) D 0 W (fun x hx h0 => by have := h.hA x hx h0; omega) h.rd, grown_laid (by omega) D 0 W h.gr, row_stored hro D h.dl, fun j hj => ?_, fun ho hB => own_grown ho (grown_cells W O D 0) (fun e => by have := (ho.lt O e).1; omega)⟩
  rw [List.size_toArray, h.dl] at hj
  rw [Nat.zero_add]
  exact ⟨by rw [hro.cell hj]; rfl, hro.frozen _⟩
end
/-- the struct's block is made and laid, the result's block stands -/
theorem Ws.of {w W : World} {R O N : Nat} {tX : TypeId} {A : Option Addr} {L C : Nat} {l : List Int} {p : Pl} {E : Nat → Value} {F : Nat → Value} {Z : Array Value} {D : List Value} (hr : At W R 3 136 A L C l p E) (ho : W.rowIs O tX N F) (hg : w.grownBy W (some R)) (hR : R < w.heap.size) (hA : ∀ x, A = some x → 0 < L → x.block < w.heap.size) (hO : w.heap.size ≤ O) (hZ : Z.size = N) (hl : D.length = N) :
    Ws w R O W.heap.size tX N D A L C l p E ((W.alloc (.cells Z tX)).setCells W.heap.size 0 D) := by
  have hb := (Below.refl W.heap.size W).alloc (Nat.le_refl _) (.cells Z tX)
  have hz := row_new W Z tX
  rw [hZ] at hz
  have hOl := ho.lt
  have hX := (row_lay hz 0 D).congr (g := fun i => D.getD i undef) (fun j hj => by rw [layF, if_pos (by omega), Nat.sub_zero])
  exact ⟨Rdr.laid (X := W.heap.size) (by omega) D 0 _ (fun x hx h0 => by have := hA x hx h0; omega) (hr.below hb), hl, hX, ⟨F, row_apart (b := O) (E := W.heap.size) (by omega) D 0 _ (ho.of_block (hb.block O hOl))⟩, grown_laid (by omega) D 0 _ (grown_trans hg ⟨hb.os, hb.tape, hb.output, hb.size, fun i hi _ => hb.block i hi⟩), hR, hA, hO, hOl⟩
end Go.Proofs.Ytmcmapgllaopmaa.Cd
end

section
namespace Go.Proofs.Ytmcmapgllaopmaa.Cd
open Go.RowKit
set_option linter.unusedVariables false
/-- the walk's state, a row of one's own above X, and a block of the round's thing -/
structure Wy (w : World) (R O X : Nat) (tX : TypeId) (N : Nat) (D : List Value) (A : Option Addr) (L C : Nat) (l : List Int) (p : Pl) (E : Nat → Value) (e sz n : Nat) (v : Value) (xs : List Value) (Y : Nat) (tY : TypeId) (NY : Nat) (DY : List Value) (W : World) : Prop where
  ws : Ws w R O X tX N D A L C l p E W
  own : W.ownsRow (X + 1) e sz v n xs
  yl : DY.length = NY
  ry : W.rowIs Y tY NY (fun i => DY.getD i undef)
  hY : X < Y
  ne : v.ownBlock ≠ some Y
section
variable {w : World} {R O X : Nat} {tX : TypeId} {N : Nat} {D : List Value} {A : Option Addr} {L C : Nat} {l : List Int} {p : Pl} {E : Nat → Value} {e sz n : Nat} {v : Value} {xs : List Value} {Y : Nat} {tY : TypeId} {NY : Nat} {DY : List Value} {W : World}
theorem Ws.belowY (h : Ws w R O X tX N D A L C l p E W) (hY : X < Y) (o : Nat) (vs : List Value) : Ws w R O X tX N D A L C l p E (W.setCells Y o vs) :=
  h.belowB ((Below.refl (X + 1) W).grown (grown_cells W Y vs o) (by have := h.hXs; omega) (fun k hk => by have := Option.some.inj hk; omega))
/-- the block is made and laid -/
theorem Wy.new (h : Ws w R O X tX N D A L C l p E W) (ho : W.ownsRow (X + 1) e sz v n xs) {Z : Array Value} (hZ : Z.size = NY) (hl : DY.length = NY) : Wy w R O X tX N D A L C l p E e sz n v xs W.heap.size tY NY DY ((W.alloc (.cells Z tY)).setCells W.heap.size 0 DY) := by
  have hz := row_new W Z tY
  rw [hZ] at hz
  have hXs := h.hXs
  have hne : v.ownBlock ≠ some W.heap.size := fun e => by have := (ho.lt _ e).2; omega
  have hb := (Below.refl W.heap.size W).alloc (Nat.le_refl _) (.cells Z tY)
  exact ⟨(h.alloc _).belowY hXs 0 DY, own_grown (own_keep ho hb) (grown_cells _ W.heap.size DY 0) hne, hl, (row_lay hz 0 DY).congr (fun j hj => by rw [layF, if_pos (by omega), Nat.sub_zero]), hXs, hne⟩
theorem Wy.call (h : Wy w R O X tX N D A L C l p E e sz n v xs Y tY NY DY W) {W' : World} {p' : Pl} (hr : At W' R 3 136 A L C l p' E) (hg : W.grownBy W' (some R)) : Wy w R O X tX N D A L C l p' E e sz n v xs Y tY NY DY W' := by
  have h1 := h.ws.hR
  have h2 := h.ws.hO
  have h3 := h.ws.hX
  have h4 := h.hY
  exact ⟨h.ws.call hr hg, h.ws.own_call h.own (Nat.lt_succ_self X) hg, h.yl, h.ry.of_block (hg.block Y h.ry.lt (fun e => by have := Option.some.inj e; omega)), h4, h.ne⟩
theorem Wy.drew (h : Wy w R O X tX N D A L C l p E e sz n v xs Y tY NY DY W) (k : Nat) : Wy w R O X tX N D A L C l p E e sz n v xs Y tY NY DY (W.drewN k) :=
  ⟨h.ws.drew k, ⟨h.own.1, h.own.2⟩, h.yl, h.ry, h.hY, h.ne⟩
theorem Wy.lay (h : Wy w R O X tX N D A L C l p E e sz n v xs Y tY NY DY W) (o : Nat) (vs : List Value) (ho : o + vs.length ≤ NY) : Wy w R O X tX N D A L C l p E e sz n v xs Y tY NY (layL DY o vs) (W.setCells Y o vs) :=
  ⟨h.ws.belowY h.hY o vs, own_grown h.own (grown_cells W Y vs o) h.ne, layL_len h.yl ho, row_layL h.ry h.yl o vs ho, h.hY, h.ne⟩
theorem Wy.set (h : Wy w R O X tX N D A L C l p E e sz n v xs Y tY NY DY W) (i : Nat) (u : Value) : Wy w R O X tX N D A L C l p E e sz n v xs Y tY NY (DY.set i u) (W.setCell ⟨Y, i, none⟩ u) :=
  ⟨h.ws.belowY h.hY i [u], own_grown h.own (grown_set W Y i u) h.ne, by rw [List.length_set]; exact h.yl, row_setL h.ry h.yl i u, h.hY, h.ne⟩
theorem Wy.range (h : Wy w R O X tX N D A L C l p E e sz n v xs Y tY NY DY W) : W.rangeAt Y 0 DY := row_range h.ry h.yl
theorem Wy.there (h : Wy w R O X tX N D A L C l p E e sz n v xs Y tY NY DY W) (o : Nat) (vs : List Value) (ho : o + vs.length ≤ NY) : W.there Y o vs.toArray.size := fun j hj => by
  rw [List.size_toArray] at hj
  exact ⟨by rw [h.ry.cell (show o + j < NY by omega)]; rfl, h.ry.frozen _⟩
/-- the row has one more behind it, and the struct's cell tells it -/
theorem Wy.app (h : Wy w R O X tX N D A L C l p E e sz n v xs Y tY NY DY W) {W' W2 : World} {v' : Value} {n' : Nat} {xs' : List Value} (hb : Below W.heap.size W W2) (ho : W'.ownsRow (X + 1) e sz v' n' xs') (hg : W2.grownBy W' v.ownBlock) (i : Nat) :
    Ws w R O X tX N (D.set i v') A L C l p E (W'.setCell ⟨X, i, none⟩ v') ∧ (W'.setCell ⟨X, i, none⟩ v').ownsRow (X + 1) e sz v' n' xs' := by
  have hXs := h.ws.hXs
  have h1 := h.ws.belowB (hb.mono (by omega))
  have h2 := own_keep h.own hb
  have h3 := h1.app h2 (Nat.lt_succ_self X) hg
  exact ⟨h3.set i v', Ws.own_set ho (Nat.lt_succ_self X) i v'⟩
end
def tdN (k : Nat) : List Value := Td.cells ⟨(k : Int), List.replicate 32 0⟩
theorem tdN_len (k : Nat) : (tdN k).length = 33 := by simp [tdN, Td.cells, bv_len]
theorem tdN_lay (k : Nat) (x : List Int) (hx : x.length = 32) : layL (tdN k) 1 (bv x) = Td.cells ⟨(k : Int), x⟩ := by
  simp [layL, tdN, Td.cells, bv_len, hx]
theorem zeroTdZ (w : World) : (zeroValue 84).run Try.prog w = .ok (.agg tdZ.toArray) w := by kernel_rfl
theorem tdZ_size : tdZ.toArray.size = 33 := by rw [List.size_toArray]; exact rowTd.zl
set_option maxRecDepth 100000 in
theorem built_td (k : Nat) : Try.prog.built 84 [(0, .int .i64 (k : Int))] = some (tdN k).toArray := by rfl
end Go.Proofs.Ytmcmapgllaopmaa.Cd
end
