/- The document's place in bytes: numbers. -/
import Derived.Test.YtmcmapgllaopmaaCdObj
namespace Go.Proofs.Ytmcmapgllaopmaa.Cd
open Go.RowKit
set_option linter.unusedVariables false

/-- the place's cells -/
def cuF (A : Option Addr) (L C p : Nat) (cut : Bool) : Nat → Value
  | 0 => .slice A L C
  | 1 => .int .i64 (p : Int)
  | 2 => .bool cut
  | _ => undef
structure Cu (w : World) (R : Nat) (A : Option Addr) (L C : Nat) (l : List Int) (p : Nat) (cut : Bool) : Prop where
  row : w.rowIs R 99 3 (cuF A L C p cut)
  rd : RdB w A L C l
  apart : ∀ x, A = some x → 0 < L → x.block ≠ R
  le : p ≤ L

theorem Cu.c0 {w : World} {R : Nat} {A : Option Addr} {L C : Nat} {l : List Int} {p : Nat} {cut : Bool} (h : Cu w R A L C l p cut) : w.cell? ⟨R, 0, none⟩ = some (.slice A L C) := h.row.cell (by omega)
theorem Cu.c1 {w : World} {R : Nat} {A : Option Addr} {L C : Nat} {l : List Int} {p : Nat} {cut : Bool} (h : Cu w R A L C l p cut) : w.cell? ⟨R, 1, none⟩ = some (.int .i64 (p : Int)) := h.row.cell (by omega)
theorem Cu.c2 {w : World} {R : Nat} {A : Option Addr} {L C : Nat} {l : List Int} {p : Nat} {cut : Bool} (h : Cu w R A L C l p cut) : w.cell? ⟨R, 2, none⟩ = some (.bool cut) := h.row.cell (by omega)
theorem Cu.setP {w : World} {R : Nat} {A : Option Addr} {L C : Nat} {l : List Int} {p : Nat} {cut : Bool} (h : Cu w R A L C l p cut) (q : Nat) (hq : q ≤ L) : Cu (w.setCell ⟨R, 1, none⟩ (.int .i64 (q : Int))) R A L C l q cut :=
  ⟨(h.row.set 1 _).congr (fun j _ => by
    match j with
    | 0 => rfl
    | 1 => rfl
    | 2 => rfl
    | j + 3 => rfl), h.rd.grown (grown_set w R 1 _) h.apart, h.apart, hq⟩
theorem Cu.setC {w : World} {R : Nat} {A : Option Addr} {L C : Nat} {l : List Int} {p : Nat} {cut : Bool} (h : Cu w R A L C l p cut) (c : Bool) : Cu (w.setCell ⟨R, 2, none⟩ (.bool c)) R A L C l p c :=
  ⟨(h.row.set 2 _).congr (fun j _ => by
    match j with
    | 0 => rfl
    | 1 => rfl
    | 2 => rfl
    | j + 3 => rfl), h.rd.grown (grown_set w R 2 _) h.apart, h.apart, h.le⟩
theorem Cu.drewN {w : World} {R : Nat} {A : Option Addr} {L C : Nat} {l : List Int} {p : Nat} {cut : Bool} (h : Cu w R A L C l p cut) (n : Nat) : Cu (w.drewN n) R A L C l p cut :=
  ⟨h.row, ⟨h.rd.len, h.rd.cap, h.rd.max, h.rd.big, h.rd.none, h.rd.byte, h.rd.cell⟩, h.apart, h.le⟩
theorem Cu.below {w w' : World} {R : Nat} {A : Option Addr} {L C : Nat} {l : List Int} {p : Nat} {cut : Bool} (h : Cu w R A L C l p cut) (hb : Below w.heap.size w w') : Cu w' R A L C l p cut :=
  ⟨h.row.of_block (hb.block R h.row.lt), h.rd.below hb, h.apart, h.le⟩

/-- what is behind a piece of n bytes -/
def cuC (cut : Bool) (p n L : Nat) : Bool := cut || decide (L - p < n)
def cuP (cut : Bool) (p n L : Nat) : Nat := if cuC cut p n L = true then p else p + n
def cuB (cut : Bool) (l : List Int) (p n L : Nat) : List Int := if cuC cut p n L = true then [] else (l.drop p).take n
theorem cu_yes {cut : Bool} {p n L : Nat} (h : cuC cut p n L = true) (l : List Int) : cuP cut p n L = p ∧ cuB cut l p n L = [] := ⟨by unfold cuP; rw [if_pos h], by unfold cuB; rw [if_pos h]⟩
theorem cu_no {cut : Bool} {p n L : Nat} (h : cuC cut p n L = false) (l : List Int) : cuP cut p n L = p + n ∧ cuB cut l p n L = (l.drop p).take n := ⟨by unfold cuP; rw [if_neg (by rw [h]; decide)], by unfold cuB; rw [if_neg (by rw [h]; decide)]⟩

set_option maxHeartbeats 1000000 in
theorem get_any (A : Option Addr) (L C : Nat) (l : List Int) (p n : Nat) (w : World) (h : RdB w A L C l) (hn : p + n ≤ L) :
    Calls Try.prog 66 #[.slice A L C, .int .i64 p, .int .i64 n] w fun e w' => e = .returned (.int .i64 (tv ((l.drop p).take n))) ∧ w' = w := by
  have HRd := Lib.hid h
  have hbig := h.big
  have hcap := h.cap
  have hmax := h.max
  have HL := Lib.hid h.len
  clear h
  go_enter Try.func66, Try.ntmps66
  go_wp2
  go_loop [7, 8] (fun s7 s8 => ∃ k : Nat, s7 = .int .i64 (tv (((l.drop p).take n).take k)) ∧ s8 = .int .i64 k ∧ k ≤ n) (fun _ s8 => n - (intOf s8).toNat)
  case atStart => exact ⟨0, rfl, rfl, Nat.zero_le _⟩
  case round =>
    obtain ⟨k, rfl, rfl, hk⟩ := hrel
    by_cases hlt : k < n
    · obtain ⟨g, o, rfl, hgl, hcc⟩ := HRd.out.at (by omega)
      obtain ⟨q, hq⟩ : ∃ q, q = p + k := ⟨_, rfl⟩
      have hc : w.cell? ⟨g, o + q, none⟩ = some (.int .u8 (l.getD q 0)) := hcc q (by omega)
      have hb := HRd.out.byte q (by omega)
      have hb0 := hb.1
      have hb1 := hb.2
      have hll := HL.out
      have hst := tv_step ((l.drop p).take n) k (by rw [List.length_take, List.length_drop]; omega)
      have hgd : ((l.drop p).take n).getD k 0 = l.getD q 0 := by rw [hq]; simp [List.getD, hlt]
      rw [hgd] at hst
      have HSt := Lib.hid hst
      have hqe : (p : Int) + (k : Int) = (q : Int) := by omega
      have hkl : decide ((k : Int) < (n : Int)) = true := by simp; omega
      have z0 : (0 : Int) ≤ (q : Int) := by omega
      have z1 : (q : Int) < (L : Int) := by omega
      have z2 : IntKind.i64.wrap (q : Int) = (q : Int) := IntWalk.i64_in _ (by omega)
      clear hcc hb hst hgd hq hll
      generalize tv (((l.drop p).take n).take k) = Y at *
      generalize l.getD q 0 = c at *
      go_wp2_with fail
      go_round
      case rel => exact ⟨k + 1, by rw [HSt.out], by go_num, by omega⟩
      case measure => simp [intOf]; omega
    · have hX : tv (((l.drop p).take n).take k) = tv ((l.drop p).take n) := by rw [List.take_of_length_le (by rw [List.length_take]; omega)]
      have HX := Lib.hid hX
      have hd : decide ((k : Int) < (n : Int)) = false := by simp; omega
      clear hX
      generalize tv (((l.drop p).take n).take k) = X at *
      go_wp2_with fail
      go_ret
      exact ⟨ret_int HX.out, rfl⟩

/-- the number told, and the place behind -/
def CnRet (R : Nat) (A : Option Addr) (L C : Nat) (l : List Int) (p : Nat) (cut : Bool) (n : Nat) (w : World) (e : Ending) (w' : World) : Prop :=
  e = .returned (.int .i64 (tv (cuB cut l p n L))) ∧ Cu w' R A L C l (cuP cut p n L) (cuC cut p n L) ∧ w.grownBy w' (some R)
theorem grown_drewN (w : World) (R n : Nat) : w.grownBy (w.drewN n) (some R) := ⟨rfl, rfl, rfl, Nat.le_refl _, fun _ _ _ => rfl⟩
theorem grown_setN (w : World) (R n i : Nat) (v : Value) : w.grownBy ((w.drewN n).setCell ⟨R, i, none⟩ v) (some R) := grown_trans (grown_drewN w R n) (grown_set _ R i v)

set_option maxHeartbeats 1000000 in
theorem cnum_r (R : Nat) (A : Option Addr) (L C : Nat) (l : List Int) (p : Nat) (cut : Bool) (n : Nat) (w : World) (h : Cu w R A L C l p cut) (hn : n ≤ 100000) :
    Calls Try.prog 47 #[.pointer (some ⟨R, 0, none⟩), .int .i64 n] w (CnRet R A L C l p cut n w) := by
  have H := Lib.hid h
  have hle := h.le
  have hbig := h.rd.big
  have hcap := h.rd.cap
  have hmax := h.rd.max
  have hc0 := h.c0
  have hc1 := h.c1
  have hc2 := h.c2
  have hf2 : w.frozen? ⟨R, 2, none⟩ = false := h.row.frozen 2
  have hf1 : w.frozen? ⟨R, 1, none⟩ = false := h.row.frozen 1
  clear h
  cases cut with
  | true =>
    have HC : Hid (cuC true p n L = true) := Lib.hid rfl
    have HS := Lib.hid (fun k => (H.out.drewN k).setC true)
    go_enter Try.func47, Try.ntmps47
    go_wp2
    go_quiet (fail)
    go_wp2
    go_ret
    refine ⟨ret_int ?_, ?_, grown_setN w R _ 2 _⟩
    · rw [(cu_yes HC.out l).2]; rfl
    · rw [(cu_yes HC.out l).1, HC.out]; exact HS.out _
  | false =>
    by_cases hlt : L - p < n
    · have HC : Hid (cuC false p n L = true) := Lib.hid (by unfold cuC; simp [hlt])
      have hd : decide ((L : Int) - (p : Int) < (n : Int)) = true := by simp; omega
      have HS := Lib.hid (fun k => (H.out.drewN k).setC true)
      go_enter Try.func47, Try.ntmps47
      go_wp2
      go_quiet (fail)
      go_wp2
      go_ret
      refine ⟨ret_int ?_, ?_, grown_setN w R _ 2 _⟩
      · rw [(cu_yes HC.out l).2]; rfl
      · rw [(cu_yes HC.out l).1, HC.out]; exact HS.out _
    · have HC : Hid (cuC false p n L = false) := Lib.hid (by unfold cuC; simp [hlt])
      have hd : decide ((L : Int) - (p : Int) < (n : Int)) = false := by simp; omega
      obtain ⟨q, hq⟩ : ∃ q, q = p + n := ⟨_, rfl⟩
      have hqe : (p : Int) + (n : Int) = (q : Int) := by omega
      have HQ := Lib.hid hq
      generalize hV : tv ((l.drop p).take n) = V at *
      have HV := Lib.hid hV
      clear hV hq
      go_enter Try.func47, Try.ntmps47
      go_wp2
      go_quiet (fail)
      go_wp2_with fail
      have HS0 := Lib.hid (H.out.drewN nq)
      have HG0 := Lib.hid (grown_drewN w R nq)
      clear H hc0 hc1 hc2 hf1 hf2
      generalize w.drewN nq = w1 at *
      have HS := Lib.hid (fun k => (HS0.out.drewN k).setP q (by have := HQ.out; omega))
      have HG := Lib.hid (fun k => get_any A L C l p n (w1.drewN k) (HS0.out.drewN k).rd (by omega))
      rw [HV.out] at HG
      have hc0 := HS0.out.c0
      have hc1 := HS0.out.c1
      have hf1 : w1.frozen? ⟨R, 1, none⟩ = false := HS0.out.row.frozen 1
      go_quiet ((go_at_call 66; with_reducible exact Calls.quiet_of_same (HG.out _)))
      go_wp2_with fail
      go_ret
      refine ⟨ret_int ?_, ?_, grown_trans HG0.out (grown_setN _ R _ 1 _)⟩
      · rw [(cu_no HC.out l).2, HV.out]
      · rw [(cu_no HC.out l).1, HC.out, ← HQ.out]; exact HS.out _
end Go.Proofs.Ytmcmapgllaopmaa.Cd
