/- The document's place in bytes: Ids, texts. -/
import Derived.Test.YtmcmapgllaopmaaCdCb
namespace Go.Proofs.Ytmcmapgllaopmaa.Cd
open Go.RowKit
set_option linter.unusedVariables false

theorem tv_snoc (l : List Int) (c : Int) : tv (l ++ [c]) = bits .or .i64 (wrap64 (tv l * 256)) c := by simp [tv]
/-- a number of at most four bytes -/
theorem tv_nv : ∀ (k : Nat) (l : List Int), k ≤ 4 → l.length ≤ k → (∀ i, i < l.length → 0 ≤ l.getD i 0 ∧ l.getD i 0 ≤ 255) → tv l = nv l := by
  intro k
  induction k with
  | zero =>
    intro l _ hl _
    obtain rfl : l = [] := List.eq_nil_of_length_eq_zero (by omega)
    rfl
  | succ k ih =>
    intro l hk hl hb
    rcases List.eq_nil_or_concat l with rfl | ⟨m, c, rfl⟩
    · rfl
    · rw [List.concat_eq_append] at *
      have hbm : ∀ i, i < m.length → 0 ≤ m.getD i 0 ∧ m.getD i 0 ≤ 255 := fun i hi => by
        have := hb i (by simp; omega)
        simpa [List.getD, List.getElem?_append_left hi] using this
      have h1 := ih m (by omega) (by simp at hl; omega) hbm
      have h2 := hb m.length (by simp)
      have h3 : (m ++ [c]).getD m.length 0 = c := by simp [List.getD]
      rw [h3] at h2
      have h4 := nv_small m 3 (by omega) (by simp at hl; omega) hbm
      rw [tv_snoc, nv_snoc, h1]
      have hw : wrap64 (nv m * 256) = nv m * 256 := IntWalk.wrap64_in _ (by omega)
      rw [hw, or_low _ _ h4.1 h4.2 h2.1 h2.2]
theorem cuB_len (cut : Bool) (l : List Int) (p n L : Nat) : (cuB cut l p n L).length ≤ n := by
  unfold cuB
  split
  · simp
  · rw [List.length_take]; omega
theorem cuB_byte {cut : Bool} {l : List Int} {p n L : Nat} (hl : l.length = L) (hb : ∀ i, i < L → 0 ≤ l.getD i 0 ∧ l.getD i 0 ≤ 255) : ∀ i, i < (cuB cut l p n L).length → 0 ≤ (cuB cut l p n L).getD i 0 ∧ (cuB cut l p n L).getD i 0 ≤ 255 := by
  unfold cuB
  split
  · intro i hi; exact absurd hi (by simp)
  · intro i hi
    rw [List.length_take, List.length_drop] at hi
    rw [take_getD _ _ _ (by omega)]
    have := hb (p + i) (by omega)
    simpa [List.getD] using this
theorem cu_num {cut : Bool} {l : List Int} {p n L : Nat} (hn : n ≤ 3) (hl : l.length = L) (hb : ∀ i, i < L → 0 ≤ l.getD i 0 ∧ l.getD i 0 ≤ 255) : tv (cuB cut l p n L) = nv (cuB cut l p n L) ∧ 0 ≤ nv (cuB cut l p n L) ∧ nv (cuB cut l p n L) < 16777216 :=
  ⟨tv_nv 4 _ (Nat.le_refl _) (by have := cuB_len cut l p n L; omega) (cuB_byte hl hb), nv_small _ 3 (by omega) (by have := cuB_len cut l p n L; omega) (cuB_byte hl hb)⟩

/-- bytes laid one by one -/
def atF (T : List Int) (k : Nat) : Nat → Value := fun j => .int .u8 (if j < k then T.getD j 0 else 0)
theorem atF_step (T : List Int) (k : Nat) (j : Nat) : (if j = k then Value.int .u8 (T.getD k 0) else atF T k j) = atF T (k + 1) j := by
  unfold atF
  by_cases h : j = k
  · subst h; simp
  · rw [if_neg h]
    by_cases h2 : j < k
    · rw [if_pos h2, if_pos (by omega)]
    · rw [if_neg h2, if_neg (by omega)]

set_option maxHeartbeats 1000000 in
theorem at_any (A : Option Addr) (C : Nat) (l : List Int) (w : World) (h : RdB w A 32 C l) :
    Calls Try.prog 86 #[.slice A 32 C, .int .i64 0] w fun e w' => e = .returned (.agg (bv l).toArray) ∧ Below w.heap.size w w' := by
  have hz1 := zero32
  have hll := h.len
  generalize hZ1 : (bv (List.replicate 32 0)).toArray = Z1 at *
  have HZ1 := Lib.hid hZ1
  have HO1 : Hid ((w.alloc (.cells Z1 37)).rowIs w.heap.size 37 32 (fun _ => .int .u8 0)) := Lib.hid (by rw [← HZ1.out]; exact row_zeros w 32 _)
  have hX1 : (w.alloc (.cells Z1 37)).heap.size = w.heap.size + 1 := by show (w.heap.push _).size = _; simp
  have HB1 := Lib.hid ((Below.refl w.heap.size w).alloc (Nat.le_refl _) (.cells Z1 37))
  have HI2 : Hid (((w.alloc (.cells Z1 37)).alloc (.cells Z1 37)).rowIs (w.alloc (.cells Z1 37)).heap.size 37 32 (atF l 0)) := Lib.hid (by
    have h := row_zeros (w.alloc (.cells Z1 37)) 32 37
    rw [hZ1] at h
    exact h.congr (fun j _ => by unfold atF; rw [if_neg (by omega)]))
  have HO2 := Lib.hid (World.rowIs.alloc HO1.out (.cells Z1 37))
  have HB2 := Lib.hid (HB1.out.alloc (show w.heap.size ≤ (w.alloc (.cells Z1 37)).heap.size by omega) (.cells Z1 37))
  have HRd := Lib.hid (h.below HB2.out)
  have HLt : Hid (∀ x, A = some x → x.block < w.heap.size) := Lib.hid (fun x hx => (h.cell x hx).1 (by omega))
  have hcap := h.cap
  have hmax := h.max
  rw [hX1] at HI2
  clear hZ1 h HO1 HB1
  go_enter Try.func86, Try.ntmps86
  go_upto_region 2 with (fail)
  (try rw [hX1])
  generalize (w.alloc (.cells Z1 37)).alloc (.cells Z1 37) = w2 at *
  clear hX1
  obtain ⟨I, hI⟩ : ∃ I, I = w.heap.size + 1 := ⟨_, rfl⟩
  obtain ⟨O, hO⟩ : ∃ O, O = w.heap.size := ⟨_, rfl⟩
  rw [← hI] at HI2 ⊢
  rw [← hO] at HO2 HB2 HLt ⊢
  have hOI : O < I := by omega
  have HOw := Lib.hid hO
  clear hI hO
  go_wp2_with fail
  go_loopw [6] (fun s wr => ∃ k : Nat, s = .int .i64 k ∧ k ≤ 32 ∧ Hid (wr.rowIs I 37 32 (atF l k)) ∧ Hid (wr.rowIs O 37 32 (fun _ => .int .u8 0)) ∧ Hid (Below O w wr) ∧ Hid (RdB wr A 32 C l)) (fun s _ => 32 - (intOf s).toNat)
  case atStart => exact ⟨0, rfl, Nat.zero_le _, HI2, HO2, HB2, HRd⟩
  case round =>
    clear HI2 HO2 HB2 HRd
    obtain ⟨k, rfl, hk, HI, HO, HB, HRd⟩ := hrel
    by_cases hlt : k < 32
    · obtain ⟨g, o, rfl, hgl, hcc⟩ := HRd.out.at (by omega)
      have hc : wr.cell? ⟨g, o + k, none⟩ = some (.int .u8 (l.getD k 0)) := hcc k hlt
      have hgO : g < O := HLt.out _ rfl
      have hci : wr.cell? ⟨I, k, none⟩ = some _ := HI.out.cell hlt
      have hfi : wr.frozen? ⟨I, k, none⟩ = false := HI.out.frozen _
      have HI3 := Lib.hid ((HI.out.set k (.int .u8 (l.getD k 0))).congr (fun j _ => atF_step l k j))
      have HO3 := Lib.hid (HO.out.setOther (a := ⟨I, k, none⟩) (by show O ≠ I; omega) (.int .u8 (l.getD k 0)))
      have HB3 := Lib.hid (HB.out.setCell (p := ⟨I, k, none⟩) (by show O ≤ I; omega) (.int .u8 (l.getD k 0)))
      have HRd3 := Lib.hid (HRd.out.grown (grown_set wr I k (.int .u8 (l.getD k 0))) (fun x hx _ => by have := HLt.out x hx; omega))
      have hk0 : (0 : Int) ≤ (k : Int) := by omega
      have hk1 : (k : Int) < 32 := by omega
      clear HI HO HB HRd hcc
      generalize l.getD k 0 = c at *
      go_wp2_with fail
      go_roundw
      case rel => exact ⟨k + 1, by go_num, by omega, HI3, HO3, HB3, HRd3⟩
      case measure => simp [intOf]; omega
    · have ek : k = 32 := by omega
      have hd : decide ((k : Int) < 32) = false := by simp; omega
      have hbl : (bv l).length = 32 := by rw [bv_len, hll]
      have HRg : Hid (wr.rangeAt I 0 (bv l)) := Lib.hid (fun j v hj => by
        have hl := (List.getElem?_eq_some_iff.1 hj).1
        rw [hbl] at hl
        rw [Nat.zero_add, HI.out.cell hl, atF, if_pos (by omega), ← hj]
        simp [bv, List.getD, show j < l.length by omega])
      have HSz : Hid ((Try.prog.info? 37).map (·.size) = some (bv l).length) := Lib.hid (by rw [hbl]; kernel_rfl)
      have HSz2 : Hid ((Try.prog.info? 37).map (·.size) = some (bv l).toArray.size) := Lib.hid (by rw [List.size_toArray]; exact HSz.out)
      have HOne := Lib.hid (all_oneCell_toArray (bv_one l))
      have HTh : Hid (wr.there O 0 (bv l).toArray.size) := Lib.hid (fun j hj => by
        rw [List.size_toArray, hbl] at hj
        rw [Nat.zero_add]
        exact ⟨by rw [HO.out.cell hj]; rfl, HO.out.frozen _⟩)
      have HSt := Lib.hid (row_stored HO.out (bv l) hbl)
      have HBx := Lib.hid (below_cells (Nat.le_refl O) (bv l) 0 _ HB.out)
      clear HI HO HB HRd hbl
      generalize hDL : bv l = DL at *
      have HDL := Lib.hid hDL
      clear hDL
      go_wp2_with (first
        | (refine wpList_load_mid rfl _ _ rfl I 0 rfl DL _ HRg.out Try.underlying37 rfl HSz.out ?_)
        | (refine wpList_store_mid rfl _ _ _ rfl O 0 DL.toArray rfl rfl HTh.out HSz2.out HOne.out ?_))
      refine bodyPost_ret (results_cell_row rfl _ _ O _ _ _ _ rfl HSt.out Try.underlying37 rfl HSz2.out) rfl ?_
      exact ⟨by rw [HDL.out], by rw [← HOw.out]; exact HBx.out⟩

theorem Cu.laid {R : Nat} {A : Option Addr} {L C : Nat} {l : List Int} {p : Nat} {cut : Bool} {X : Nat} (hX : X ≠ R) : ∀ (vs : List Value) (o : Nat) (w : World), (∀ x, A = some x → 0 < L → x.block ≠ X) → Cu w R A L C l p cut → Cu (w.setCells X o vs) R A L C l p cut
  | [], _, _, _, h => h
  | v :: vs, o, w, ha, h => Cu.laid hX vs (o + 1) _ ha ⟨h.row.setOther (a := ⟨X, o, none⟩) (Ne.symm hX) v, h.rd.grown (grown_set w X o v) ha, h.apart, h.le⟩
theorem grown_of_below {B : Nat} {w w' : World} {R : Nat} (hb : Below B w w') (hB : B = w.heap.size) : w.grownBy w' (some R) := ⟨hb.os, hb.tape, hb.output, hB ▸ hb.size, fun i hi _ => hb.block i (hB ▸ hi)⟩

/-- the Id told, and the place behind -/
def CiRet (R : Nat) (A : Option Addr) (L C : Nat) (l : List Int) (p : Nat) (cut : Bool) (w : World) (e : Ending) (w' : World) : Prop :=
  e = .returned (.agg (bv (idv (cuB cut l p 32 L))).toArray) ∧ Cu w' R A L C l (cuP cut p 32 L) (cuC cut p 32 L) ∧ w.grownBy w' (some R)

set_option maxRecDepth 100000 in
set_option maxHeartbeats 1000000 in
theorem cid_r (R : Nat) (A : Option Addr) (L C : Nat) (l : List Int) (p : Nat) (cut : Bool) (w : World) (h : Cu w R A L C l p cut) :
    Calls Try.prog 49 #[.pointer (some ⟨R, 0, none⟩)] w (CiRet R A L C l p cut w) := by
  have hz1 := zero32
  have hRl := h.row.lt
  have HLt : Hid (∀ x, A = some x → 0 < L → x.block < w.heap.size) := Lib.hid (fun x hx h0 => (h.rd.cell x hx).1 h0)
  generalize hZ1 : (bv (List.replicate 32 0)).toArray = Z1 at *
  have HZ1 := Lib.hid hZ1
  have HO1 : Hid ((w.alloc (.cells Z1 37)).rowIs w.heap.size 37 32 (fun _ => .int .u8 0)) := Lib.hid (by rw [← HZ1.out]; exact row_zeros w 32 _)
  have hs1 := al_lt w (.cells Z1 37)
  have hb1 := (Below.refl w.heap.size w).alloc (Nat.le_refl _) (.cells Z1 37)
  have HU := Lib.hid (h.below hb1)
  have HG1 := Lib.hid (grown_of_below (R := R) hb1 rfl)
  have HBy := Lib.hid (cbytes_r R A L C l p cut 32 _ HU.out (by omega))
  rw [show ((32 : Nat) : Int) = 32 from rfl] at HBy
  have HBd : Hid (∀ i, i < (cuB cut l p 32 L).length → 0 ≤ (cuB cut l p 32 L).getD i 0 ∧ (cuB cut l p 32 L).getD i 0 ≤ 255) := Lib.hid (cuB_byte h.rd.len h.rd.byte)
  clear h hb1 hZ1 HU
  go_enter Try.func49, Try.ntmps49
  go_wp2_with fail
  generalize w.alloc (.cells Z1 37) = w1 at *
  refine HBy.out.mono ?_
  rintro e w2 ⟨A', C', rfl, ho, hU, hg⟩
  obtain ⟨O, hO⟩ : ∃ O, O = w.heap.size := ⟨_, rfl⟩
  rw [← hO] at HO1 HLt hRl hs1 ⊢
  have HOw := Lib.hid hO
  have HO2 := Lib.hid (World.rowIs.of_block HO1.out (hg.block O hs1 (fun e => by have := Option.some.inj e; omega)))
  have HG2 := Lib.hid (grown_trans HG1.out hg)
  have HU2 := Lib.hid hU
  have HO := Lib.hid ho
  have hc2 := hU.c2
  have hs2 : w1.heap.size ≤ w2.heap.size := hg.size
  clear ho hU hg HBy HO1 HG1 hO
  by_cases hc : cuC cut p 32 L = true
  · have HC := Lib.hid hc
    rw [hc] at hc2
    have hT := (cu_yes hc l).2
    clear hc
    have HFn : Hid (w2.there O 0 (bv (List.replicate 32 0)).toArray.size) := Lib.hid (fun j hj => by
      have hj2 : j < 32 := by simpa [bv] using hj
      rw [Nat.zero_add]
      exact ⟨by rw [HO2.out.cell hj2]; rfl, HO2.out.frozen _⟩)
    have HSz2 : Hid ((Try.prog.info? 37).map (·.size) = some (bv (List.replicate 32 0)).toArray.size) := Lib.hid (by kernel_rfl)
    have HOne := Lib.hid (all_oneCell_toArray (bv_one (List.replicate 32 0)))
    have HSt := Lib.hid (row_stored HO2.out (bv (List.replicate 32 0)) (by simp [bv]))
    have HUx := Lib.hid (Cu.laid (X := O) (by omega) (bv (List.replicate 32 0)) 0 _ (fun x hx h0 => by have := HLt.out x hx h0; omega) HU2.out)
    have HGx := Lib.hid (grown_laid (a := w) (E := O) (by have := HOw.out; omega) (bv (List.replicate 32 0)) 0 _ HG2.out)
    have HT : Hid ((bv (List.replicate 32 0)).toArray = (bv (idv (cuB cut l p 32 L))).toArray) := Lib.hid (by rw [hT]; rfl)
    clear hT HO2 HU2 HG2
    go_wp2_with (first
      | (refine wpList_build rfl 37 _ rfl (by kernel_rfl) ?_
         generalize hG : Option.getD (Program.built _ _ _) _ = KA
         have HKe : Hid (KA = (bv (List.replicate 32 0)).toArray) := Lib.hid (hG.symm.trans (show _ = (bv (List.replicate 32 0)).toArray from by kernel_rfl))
         clear hG)
      | (refine wpList_store_mid rfl _ _ _ rfl O 0 (bv (List.replicate 32 0)).toArray rfl (show _ = _ from congrArg Value.agg HKe.out) HFn.out HSz2.out HOne.out ?_))
    refine bodyPost_ret (results_cell_row rfl _ _ O _ _ _ _ rfl HSt.out Try.underlying37 rfl HSz2.out) rfl ?_
    exact ⟨by rw [HT.out], HUx.out, HGx.out⟩
  · have hcf : cuC cut p 32 L = false := by simpa using hc
    rw [hcf] at hc2
    have hlen : (cuB cut l p 32 L).length = 32 := by
      rw [(cu_no hcf l).2, List.length_take, List.length_drop, HU2.out.rd.len]
      have : decide (L - p < 32) = false := by
        cases cut with
        | true => simp [cuC] at hcf
        | false => simpa [cuC] using hcf
      have := of_decide_eq_false this
      omega
    have HBd2 := HBd.out
    have hid2 : idv (cuB cut l p 32 L) = cuB cut l p 32 L := by simp [idv, hlen]
    rw [← hcf] at hc2
    rw [hcf] at hc2
    have HI2 := Lib.hid hid2
    generalize hTT : cuB cut l p 32 L = T at *
    have HTT := Lib.hid hTT
    clear hTT
    have hrd := RdB.of_own2 HO.out (by omega) HBd2
    rw [hlen] at hrd
    have HAt := Lib.hid (at_any A' C' T w2 hrd)
    have HLn := Lib.hid hlen
    clear hc hcf hid2 HBd2 HBd hrd
    rw [hlen]
    go_wp2_with fail
    refine HAt.out.mono ?_
    rintro e w3 ⟨rfl, hb⟩
    have hbl : (bv T).length = 32 := by rw [bv_len, HLn.out]
    have HO3 := HO2.out.of_block (hb.block O (by omega))
    have HFn : Hid (w3.there O 0 (bv T).toArray.size) := Lib.hid (fun j hj => by
      rw [List.size_toArray, hbl] at hj
      rw [Nat.zero_add]
      exact ⟨by rw [HO3.cell hj]; rfl, HO3.frozen _⟩)
    have HSz2 : Hid ((Try.prog.info? 37).map (·.size) = some (bv T).toArray.size) := Lib.hid (by rw [List.size_toArray, hbl]; kernel_rfl)
    have HOne := Lib.hid (all_oneCell_toArray (bv_one T))
    have HSt := Lib.hid (row_stored HO3 (bv T) hbl)
    have HUx := Lib.hid (Cu.laid (X := O) (by omega) (bv T) 0 _ (fun x hx h0 => by have := HLt.out x hx h0; omega) (HU2.out.below hb))
    have HGx := Lib.hid (grown_laid (a := w) (E := O) (by have := HOw.out; omega) (bv T) 0 _ (grown_trans HG2.out (grown_of_below hb rfl)))
    clear hbl HO3 hb HAt HO2 HU2 HG2
    generalize hDT : bv T = DT at *
    have HDT := Lib.hid hDT
    clear hDT
    go_wp2_with (refine wpList_store_mid rfl _ _ _ rfl O 0 DT.toArray rfl rfl HFn.out HSz2.out HOne.out ?_)
    refine bodyPost_ret (results_cell_row rfl _ _ O _ _ _ _ rfl HSt.out Try.underlying37 rfl HSz2.out) rfl ?_
    exact ⟨by rw [HTT.out, HI2.out, HDT.out], HUx.out, HGx.out⟩

/-- a text behind a number of n bytes: its length; where the place is, whether it was cut; its bytes -/
def ctM (cut : Bool) (l : List Int) (p n L : Nat) : Nat := (nv (cuB cut l p n L)).toNat
def ctB (cut : Bool) (l : List Int) (p n L : Nat) : List Int := cuB (cuC cut p n L) l (cuP cut p n L) (ctM cut l p n L) L
def ctP (cut : Bool) (l : List Int) (p n L : Nat) : Nat := cuP (cuC cut p n L) (cuP cut p n L) (ctM cut l p n L) L
def ctC (cut : Bool) (l : List Int) (p n L : Nat) : Bool := cuC (cuC cut p n L) (cuP cut p n L) (ctM cut l p n L) L
def CtRet (R : Nat) (A : Option Addr) (L C : Nat) (l : List Int) (p : Nat) (cut : Bool) (n : Nat) (w : World) (e : Ending) (w' : World) : Prop :=
  e = .returned (.string (sb (ctB cut l p n L))) ∧ Cu w' R A L C l (ctP cut l p n L) (ctC cut l p n L) ∧ w.grownBy w' (some R)

set_option maxRecDepth 100000 in
theorem ctext_r (R : Nat) (A : Option Addr) (L C : Nat) (l : List Int) (p : Nat) (cut : Bool) (n : Nat) (w : World) (h : Cu w R A L C l p cut) (hn : n ≤ 3) :
    Calls Try.prog 48 #[.pointer (some ⟨R, 0, none⟩), .int .i64 n] w (CtRet R A L C l p cut n w) := by
  have HNu := Lib.hid (cnum_r R A L C l p cut n w h (by omega))
  obtain ⟨e1, b0, b1⟩ := cu_num (cut := cut) (p := p) hn h.rd.len h.rd.byte
  have hm : tv (cuB cut l p n L) = ((ctM cut l p n L : Nat) : Int) := by rw [e1]; unfold ctM; omega
  have hmb : ctM cut l p n L < 16777216 := by unfold ctM; omega
  unfold CnRet at HNu
  rw [hm] at HNu
  unfold CtRet ctB ctP ctC
  have HBd : Hid (∀ i, i < (cuB (cuC cut p n L) l (cuP cut p n L) (ctM cut l p n L) L).length → 0 ≤ (cuB (cuC cut p n L) l (cuP cut p n L) (ctM cut l p n L) L).getD i 0 ∧ (cuB (cuC cut p n L) l (cuP cut p n L) (ctM cut l p n L) L).getD i 0 ≤ 255) := Lib.hid (cuB_byte h.rd.len h.rd.byte)
  have HLn := Lib.hid (cuB_len (cuC cut p n L) l (cuP cut p n L) (ctM cut l p n L) L)
  generalize ctM cut l p n L = m at *
  clear hm e1 b0 b1 h
  go_enter Try.func48, Try.ntmps48
  go_wp2_with fail
  refine HNu.out.mono ?_
  rintro e w1 ⟨rfl, hU, hg⟩
  have HBy := Lib.hid (cbytes_r R A L C l _ _ m w1 hU (by omega))
  have HG := Lib.hid hg
  clear hU hg HNu
  go_wp2_with fail
  refine HBy.out.mono ?_
  rintro e w2 ⟨A', C', rfl, ho, hU2, hg2⟩
  have cv := conv_rd (RdB.of_own2 ho (by have := HLn.out; omega) HBd.out)
  have HU2 := Lib.hid hU2
  have HG2 := Lib.hid (grown_trans HG.out hg2)
  clear hU2 hg2 ho HBy HG
  go_wp2_with fail
  go_ret
  exact ⟨rfl, HU2.out, HG2.out⟩
end Go.Proofs.Ytmcmapgllaopmaa.Cd
