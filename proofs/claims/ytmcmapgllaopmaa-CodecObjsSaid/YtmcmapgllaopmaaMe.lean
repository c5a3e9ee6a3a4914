/- Texts of one's own, merged: CdCommit, CdPc, CdObj, CdCur. -/
import Derived.Test.YtmcmapgllaopmaaMd

section
/- commitReader.commit. -/
namespace Go.Proofs.Ytmcmapgllaopmaa.Cd
open Go.RowKit
set_option linter.unusedVariables false

def cm (tree : List Int) (ps : Value) (au : ByteArray) (tm : Int) (ms : ByteArray) : List Value := bv tree ++ [ps, .string au, .int .i64 tm, .string ms]
/-- the commit's cells, by their index -/
def cmF (tr : List Int) (ps : Value) (au : ByteArray) (tm : Int) (ms : ByteArray) : Nat → Value := fun j => if j = 32 then ps else if j = 33 then .string au else if j = 34 then .int .i64 tm else if j = 35 then .string ms else .int .u8 (tr.getD j 0)
theorem cmF_start (ZC : Array Value) (h34 : ZC.getD 34 undef = .int .i64 0) (h35 : ZC.getD 35 undef = .string ByteArray.empty) (tr : List Int) (hl : tr.length = 32) (ps : Value) (au : ByteArray) (j : Nat) (hj : j < 36) :
    (if j = 33 then Value.string au else if j = 32 then ps else layF (fun i => ZC.getD i undef) 0 (bv tr) j) = cmF tr ps au 0 ByteArray.empty j := by
  unfold cmF
  by_cases e2 : j = 32
  · subst e2; simp
  · by_cases e3 : j = 33
    · subst e3; simp
    · rw [if_neg e3, if_neg e2, if_neg e2, if_neg e3, layF, bv_len]
      by_cases e4 : j = 34
      · subst e4; rw [if_neg (by omega)]; simpa using h34
      · by_cases e5 : j = 35
        · subst e5; rw [if_neg (by omega)]; simpa using h35
        · rw [if_pos (by omega), if_neg e4, if_neg e5, Nat.sub_zero]
          simp [bv, List.getD, show j < tr.length by omega]
theorem cmF_time (tr : List Int) (ps : Value) (au : ByteArray) (tm tm' : Int) (ms : ByteArray) (j : Nat) : (if j = 34 then Value.int .i64 tm' else cmF tr ps au tm ms j) = cmF tr ps au tm' ms j := by
  unfold cmF
  by_cases e : j = 34
  · subst e; simp
  · simp [e]
theorem cmF_msg (tr : List Int) (ps : Value) (au : ByteArray) (tm : Int) (ms ms' : ByteArray) (j : Nat) : (if j = 35 then Value.string ms' else cmF tr ps au tm ms j) = cmF tr ps au tm ms' j := by
  unfold cmF
  by_cases e : j = 35
  · subst e; simp
  · simp [e]
theorem cm_len (tr : List Int) (ps : Value) (au : ByteArray) (tm : Int) (ms : ByteArray) (hl : tr.length = 32) : (cm tr ps au tm ms).length = 36 := by simp [cm, bv_len, hl]
theorem cm_get (tr : List Int) (ps : Value) (au : ByteArray) (tm : Int) (ms : ByteArray) (hl : tr.length = 32) (j : Nat) (hj : j < 36) : (cm tr ps au tm ms)[j]? = some (cmF tr ps au tm ms j) := by
  unfold cm cmF
  by_cases h : j < 32
  · rw [List.getElem?_append_left (by rw [bv_len]; omega), if_neg (by omega), if_neg (by omega), if_neg (by omega), if_neg (by omega)]
    simp [bv, List.getD, show j < tr.length by omega]
  · rw [List.getElem?_append_right (by rw [bv_len]; omega), bv_len, hl]
    rcases (show j = 32 ∨ j = 33 ∨ j = 34 ∨ j = 35 by omega) with rfl | rfl | rfl | rfl <;> rfl
theorem cm_one (tr : List Int) (ps : Value) (au : ByteArray) (tm : Int) (ms : ByteArray) (hp : ps.oneCell' = true) : ∀ v ∈ cm tr ps au tm ms, v.oneCell' = true := by
  intro v hv
  unfold cm at hv
  rcases List.mem_append.1 hv with h | h
  · exact bv_one _ v h
  · simp only [List.mem_cons, List.not_mem_nil, or_false] at h
    rcases h with rfl | rfl | rfl | rfl
    · exact hp
    · rfl
    · rfl
    · rfl

/-- a time out of bytes -/
def tv (l : List Int) : Int := l.foldl (fun x c => bits .or .i64 (wrap64 (x * 256)) c) 0
theorem tv_step (l : List Int) (k : Nat) (h : k < l.length) : tv (l.take (k + 1)) = bits .or .i64 (wrap64 (tv (l.take k) * 256)) (l.getD k 0) := by
  unfold tv
  rw [List.take_succ_eq_append_getElem h, List.foldl_append]
  simp only [List.foldl_cons, List.foldl_nil, List.getD, List.getElem?_eq_getElem h, Option.getD_some]

/-- what the bytes of a commit say, one behind the other -/
def cT (f : Int) (l : List Int) (a L : Nat) : List Int := idv (tkL f l a L 32)
def cF2 (f : Int) (l : List Int) (a L : Nat) : Int := if cT f l a L = List.replicate 32 0 then fl (tkF f a L 32) 1 else tkF f a L 32
def cQ (f : Int) (l : List Int) (a L : Nat) : Int × Nat × List (List Int) := pa (cF2 f l a L) l (tkA f a L 32) L
def cAu (f : Int) (l : List Int) (a L : Nat) : ByteArray := txS (cQ f l a L).1 l (cQ f l a L).2.1 L 2 1000
def cA4 (f : Int) (l : List Int) (a L : Nat) : Nat := txA (cQ f l a L).1 l (cQ f l a L).2.1 L 2 1000
def cF4 (f : Int) (l : List Int) (a L : Nat) : Int := txF (cQ f l a L).1 l (cQ f l a L).2.1 L 2 1000
def cB (f : Int) (l : List Int) (a L : Nat) : List Int := tkL (cF4 f l a L) l (cA4 f l a L) L 8
def cA5 (f : Int) (l : List Int) (a L : Nat) : Nat := tkA (cF4 f l a L) (cA4 f l a L) L 8
def cF5 (f : Int) (l : List Int) (a L : Nat) : Int := tkF (cF4 f l a L) (cA4 f l a L) L 8
def cMs (f : Int) (l : List Int) (a L : Nat) : ByteArray := txS (cF5 f l a L) l (cA5 f l a L) L 2 1000
def cA6 (f : Int) (l : List Int) (a L : Nat) : Nat := txA (cF5 f l a L) l (cA5 f l a L) L 2 1000
def cF6 (f : Int) (l : List Int) (a L : Nat) : Int := txF (cF5 f l a L) l (cA5 f l a L) L 2 1000
def cF7 (f : Int) (l : List Int) (a L : Nat) : Int := enF (cF6 f l a L) (cA6 f l a L) L

/-- the commit told, and the reader behind -/
def CmRet (R : Nat) (A : Option Addr) (L C : Nat) (l : List Int) (at' : Nat) (f : Int) (E : Nat → Value) (w : World) (e : Ending) (w' : World) : Prop :=
  (∀ x ∈ (cQ f l at' L).2.2, x.length = 32) ∧ Rdr w' R 3 110 A L C l (cA6 f l at' L) (cF7 f l at' L) E ∧ w.grownBy w' (some R) ∧
  ∃ Ai Ci, e = .returned (.agg (cm (cT f l at' L) (.slice Ai (cQ f l at' L).2.2.length Ci) (cAu f l at' L) (tv (cB f l at' L)) (cMs f l at' L)).toArray) ∧ w'.ownsRow w.heap.size 37 32 (.slice Ai (cQ f l at' L).2.2.length Ci) (cQ f l at' L).2.2.length (idsV (cQ f l at' L).2.2)

set_option maxRecDepth 100000 in
theorem zeroCm (w : World) : (zeroValue 40).run Try.prog w = .ok (.agg (cm (List.replicate 32 0) (.slice none 0 0) ByteArray.empty 0 ByteArray.empty).toArray) w := by rfl

set_option maxRecDepth 100000 in
set_option maxHeartbeats 4000000 in
theorem commit_r (R : Nat) (A : Option Addr) (L C : Nat) (l : List Int) (at' : Nat) (f0 : Int) (E : Nat → Value) (w : World) (h : Rdr w R 3 110 A L C l at' f0 E) :
    Calls Try.prog 54 #[.pointer (some ⟨R, 0, none⟩)] w (CmRet R A L C l at' f0 E w) := by
  have hz := zeroCm
  have hZl : (cm (List.replicate 32 0) (.slice none 0 0) ByteArray.empty 0 ByteArray.empty).toArray.size = 36 := by simp [cm, bv]
  have HZ34 : Hid ((cm (List.replicate 32 0) (.slice none 0 0) ByteArray.empty 0 ByteArray.empty).toArray.getD 34 undef = .int .i64 0) := Lib.hid rfl
  have HZ35 : Hid ((cm (List.replicate 32 0) (.slice none 0 0) ByteArray.empty 0 ByteArray.empty).toArray.getD 35 undef = .string ByteArray.empty) := Lib.hid rfl
  generalize (cm (List.replicate 32 0) (.slice none 0 0) ByteArray.empty 0 ByteArray.empty).toArray = ZC at *
  have HZl := Lib.hid hZl
  have HR0 := Lib.hid h
  clear hZl h
  go_enter Try.func54, Try.ntmps54
  go_upto_region 2 with (fail)
  have hX1 : (w.alloc (.cells ZC 40)).heap.size = w.heap.size + 1 := by show (w.heap.push _).size = _; simp
  have hb1 := (Below.refl w.heap.size w).alloc (Nat.le_refl _) (.cells ZC 40)
  have hb2 := hb1.alloc (Nat.le_of_lt (al_lt w _)) (.cells ZC 40)
  have hro := row_new w ZC 40
  have hrx := row_new (w.alloc (.cells ZC 40)) ZC 40
  rw [HZl.out] at hro hrx
  have HO := Lib.hid (World.rowIs.alloc hro (.cells ZC 40))
  have HX := Lib.hid hrx
  have HR := Lib.hid (HR0.out.below hb2)
  have HG : Hid (w.grownBy ((w.alloc (.cells ZC 40)).alloc (.cells ZC 40)) (some R)) := Lib.hid ⟨hb2.os, hb2.tape, hb2.output, hb2.size, fun i hi _ => hb2.block i hi⟩
  have hRl := HR0.out.row.lt
  have HAB : Hid (∀ x, A = some x → 0 < L → x.block < w.heap.size) := Lib.hid (fun x hx h0 => (HR0.out.rd.cell x hx).1 h0)
  clear hb1 hb2 hro hrx HR0
  rw [hX1] at HX
  (try rw [hX1])
  generalize (w.alloc (.cells ZC 40)).alloc (.cells ZC 40) = w2 at *
  clear hX1
  obtain ⟨X, hX⟩ : ∃ X, X = w.heap.size + 1 := ⟨_, rfl⟩
  rw [← hX] at HX ⊢
  obtain ⟨O, hO⟩ : ∃ O, O = w.heap.size := ⟨_, rfl⟩
  rw [← hO] at HO HAB hRl hX ⊢
  have HOw := Lib.hid hO
  have HXO := Lib.hid hX
  have hRX : R < X := by omega
  have hOX : O < X := by omega
  clear hX hO
  have HId := Lib.hid (id_r R 3 110 A L C l at' f0 E w2 HR.out)
  obtain ⟨tr, htr⟩ : ∃ tr, tr = idv (tkL f0 l at' L 32) := ⟨_, rfl⟩
  rw [← htr] at HId
  have htl : tr.length = 32 := by
    rw [htr]
    refine idv_len _ ?_
    unfold tkL
    split
    · rw [List.length_take]; omega
    · simp
  have HTr := Lib.hid htr
  have hbl : (bv tr).length = 32 := by rw [bv_len, htl]
  have hq : ∀ W, (Op.equalIn 10000 37 (.agg (bv tr).toArray) (.agg #[.int .u8 0, .int .u8 0, .int .u8 0, .int .u8 0, .int .u8 0, .int .u8 0, .int .u8 0, .int .u8 0, .int .u8 0, .int .u8 0, .int .u8 0, .int .u8 0, .int .u8 0, .int .u8 0, .int .u8 0, .int .u8 0, .int .u8 0, .int .u8 0, .int .u8 0, .int .u8 0, .int .u8 0, .int .u8 0, .int .u8 0, .int .u8 0, .int .u8 0, .int .u8 0, .int .u8 0, .int .u8 0, .int .u8 0, .int .u8 0, .int .u8 0, .int .u8 0])).run Try.prog W = .ok (decide (tr = List.replicate 32 0)) W := fun W => ids_none tr htl W
  have HSz2 : Hid ((Try.prog.info? 37).map (·.size) = some (bv tr).toArray.size) := Lib.hid (by rw [List.size_toArray, hbl]; kernel_rfl)
  have HSz1 : Hid ((Try.prog.info? 37).map (·.size) = some (bv tr).length) := Lib.hid (by rw [hbl]; kernel_rfl)
  have HOne := Lib.hid (all_oneCell_toArray (bv_one tr))
  have HBl := Lib.hid hbl
  clear htr hbl
  go_wp2_with fail
  refine HId.out.mono ?_
  rintro e w3 ⟨rfl, hR3, hg3⟩
  have HX3 := Lib.hid (World.rowIs.of_block HX.out (hg3.block X HX.out.lt (fun e => by have := Option.some.inj e; omega)))
  have HO3 := Lib.hid (World.rowIs.of_block HO.out (hg3.block O HO.out.lt (fun e => by have := Option.some.inj e; omega)))
  have HTh : Hid (w3.there X 0 (bv tr).toArray.size) := Lib.hid (fun j hj => by
    rw [List.size_toArray, HBl.out] at hj
    rw [Nat.zero_add]
    exact ⟨by rw [HX3.out.cell (show j < 36 by omega)]; rfl, HX3.out.frozen _⟩)
  have HX4 := Lib.hid (row_lay HX3.out 0 (bv tr))
  have HO4 := Lib.hid (row_apart (b := O) (E := X) (by omega) (bv tr) 0 w3 HO3.out)
  have HR4 := Lib.hid (Rdr.laid (X := X) (by omega) (bv tr) 0 _ (fun x hx h0 => by have := HAB.out x hx h0; omega) hR3)
  have HG4 : Hid (w.grownBy (w3.setCells X 0 (bv tr)) (some R)) := Lib.hid (grown_laid (by have := HOw.out; omega) (bv tr) 0 _ (grown_trans HG.out hg3))
  have HRg : Hid ((w3.setCells X 0 (bv tr)).rangeAt X 0 (bv tr)) := Lib.hid (fun j v hj => by
    have hl := (List.getElem?_eq_some_iff.1 hj).1
    have hl2 := HBl.out
    rw [Nat.zero_add, HX4.out.cell (by omega), layF, if_pos (by omega)]
    simp [hj, List.getD])
  clear HX HO HR HG HId hR3 hg3 HX3 HO3
  generalize hDI : bv tr = DI at *
  have HDI := Lib.hid hDI
  clear hDI
  go_upto_region 3 with (refine wpList_store_mid rfl _ _ _ rfl X 0 DI.toArray rfl rfl HTh.out HSz2.out HOne.out ?_)
  change Code.wp _ _ _ _ (w3.setCells X 0 DI)
  generalize w3.setCells X 0 DI = w4 at *
  clear HTh HSz2 HOne
  by_cases hz0 : tr = List.replicate 32 0
  · rw [decide_eq_true hz0] at hq
    have H2 : Hid (fl (tkF f0 at' L 32) 1 = if tr = List.replicate 32 0 then fl (tkF f0 at' L 32) 1 else tkF f0 at' L 32) := Lib.hid (by rw [if_pos hz0])
    have HFm := Lib.hid (fail_any R 3 110 A L C l _ _ 1 E w4 HR4.out)
    clear hz0
    go_wp2_with (refine wpList_load_mid rfl _ _ rfl X 0 rfl DI _ HRg.out Try.underlying37 rfl HSz1.out ?_)
    refine HFm.out.mono ?_
    rintro e w5 ⟨rfl, hR5, hg5⟩
    have HX5 := Lib.hid (World.rowIs.of_block HX4.out (hg5.block X HX4.out.lt (fun e => by have := Option.some.inj e; omega)))
    have HO5 := Lib.hid (World.rowIs.of_block HO4.out (hg5.block O HO4.out.lt (fun e => by have := Option.some.inj e; omega)))
    obtain ⟨F2, hF2⟩ : ∃ F2, F2 = fl (tkF f0 at' L 32) 1 := ⟨_, rfl⟩
    obtain ⟨A1, hA1⟩ : ∃ A1, A1 = tkA f0 at' L 32 := ⟨_, rfl⟩
    rw [← hF2, ← hA1] at hR5
    have HE2 := Lib.hid (H2.out.symm.trans hF2.symm)
    have HA1 := Lib.hid hA1
    have HR5 := Lib.hid hR5
    have HG5 := Lib.hid (grown_trans HG4.out hg5)
    clear hR5 hg5 HFm HX4 HO4 HR4 HG4 hF2 hA1 HRg hq
    have HPs := Lib.hid (parents_any R A L C l A1 F2 E w5 HR5.out)
    have hs5 := HX5.out.lt
    go_wp2_with fail
    refine HPs.out.mono ?_
    rintro e w6 ⟨h32, hR6, hg6, Ai, Ci, rfl, ho6⟩
    obtain ⟨q, hqq⟩ : ∃ q, q = pa F2 l A1 L := ⟨_, rfl⟩
    rw [← hqq] at h32 hR6 ho6 ⊢
    have HQ := Lib.hid hqq
    have H32 := Lib.hid h32
    have HX6 := Lib.hid (World.rowIs.of_block HX5.out (hg6.block X HX5.out.lt (fun e => by have := Option.some.inj e; omega)))
    have HO6 := Lib.hid (World.rowIs.of_block HO5.out (hg6.block O HO5.out.lt (fun e => by have := Option.some.inj e; omega)))
    have hc : w6.cell? ⟨X, 32, none⟩ = some _ := HX6.out.cell (i := 32) (by omega)
    have hf : w6.frozen? ⟨X, 32, none⟩ = false := HX6.out.frozen _
    have HX7 := Lib.hid (HX6.out.set 32 (.slice Ai q.2.2.length Ci))
    have HO7 := Lib.hid (HO6.out.setOther (a := ⟨X, 32, none⟩) (fun e => by have : X = O := e.symm ▸ rfl; omega) (.slice Ai q.2.2.length Ci))
    have HR7 := Lib.hid (Rdr.setX hR6 X 32 (.slice Ai q.2.2.length Ci) (by omega) (fun x hx h0 => by have := HAB.out x hx h0; omega))
    have HOw7 := Lib.hid (own_grown ho6 (grown_set w6 X 32 (.slice Ai q.2.2.length Ci)) (fun e => by have := (ho6.lt X e).1; omega))
    have HG7 : Hid (w.grownBy (w6.setCell ⟨X, 32, none⟩ (.slice Ai q.2.2.length Ci)) (some R)) := Lib.hid (by
      have h1 := grown_trans HG5.out hg6
      have h2 := grown_set w6 X 32 (.slice Ai q.2.2.length Ci)
      exact ⟨h2.os.trans h1.os, h2.tape.trans h1.tape, h2.output.trans h1.output, Nat.le_trans h1.size h2.size, fun i hi hne => (h2.block i (Nat.lt_of_lt_of_le hi h1.size) (fun e => by have := Option.some.inj e; have := HOw.out; omega)).trans (h1.block i hi hne)⟩)
    clear hqq h32 HPs hR6 hg6 ho6 HX6 HO6 HX5 HO5 HR5 HG5
    go_upto_region 6 with (fail)
    generalize w6.setCell ⟨X, 32, none⟩ (.slice Ai q.2.2.length Ci) = w7 at *
    have HTx := Lib.hid (text_r R 3 110 A L C l q.2.1 q.1 E 2 1000 w7 HR7.out (by omega))
    rw [show ((2 : Nat) : Int) = 2 from rfl, show ((1000 : Nat) : Int) = 1000 from rfl] at HTx
    go_wp2_with fail
    refine HTx.out.mono ?_
    rintro e w8 ⟨rfl, hR8, hg8⟩
    obtain ⟨au, hau⟩ : ∃ au, au = txS q.1 l q.2.1 L 2 1000 := ⟨_, rfl⟩
    rw [← hau]
    have HAu := Lib.hid hau
    have HX8 := Lib.hid (World.rowIs.of_block HX7.out (hg8.block X HX7.out.lt (fun e => by have := Option.some.inj e; omega)))
    have HO8 := Lib.hid (World.rowIs.of_block HO7.out (hg8.block O HO7.out.lt (fun e => by have := Option.some.inj e; omega)))
    have HOw8 := Lib.hid (own_grown HOw7.out hg8 (fun e => by have := (HOw7.out.lt R e).1; omega))
    have hc : w8.cell? ⟨X, 33, none⟩ = some _ := HX8.out.cell (i := 33) (by omega)
    have hf : w8.frozen? ⟨X, 33, none⟩ = false := HX8.out.frozen _
    have HX9 := Lib.hid (HX8.out.set 33 (.string au))
    have HO9 := Lib.hid (HO8.out.setOther (a := ⟨X, 33, none⟩) (fun e => by have : X = O := e.symm ▸ rfl; omega) (.string au))
    have HR9 := Lib.hid (Rdr.setX hR8 X 33 (.string au) (by omega) (fun x hx h0 => by have := HAB.out x hx h0; omega))
    have HOw9 := Lib.hid (own_grown HOw8.out (grown_set w8 X 33 (.string au)) (fun e => by have := (HOw8.out.lt X e).1; omega))
    have HG9 : Hid (w.grownBy (w8.setCell ⟨X, 33, none⟩ (.string au)) (some R)) := Lib.hid (by
      have h1 := grown_trans HG7.out hg8
      have h2 := grown_set w8 X 33 (.string au)
      exact ⟨h2.os.trans h1.os, h2.tape.trans h1.tape, h2.output.trans h1.output, Nat.le_trans h1.size h2.size, fun i hi hne => (h2.block i (Nat.lt_of_lt_of_le hi h1.size) (fun e => by have := Option.some.inj e; have := HOw.out; omega)).trans (h1.block i hi hne)⟩)
    clear hau HTx hR8 hg8 HX7 HO7 HOw7 HR7 HG7 HX8 HO8 HOw8
    go_upto_region 7 with (fail)
    generalize w8.setCell ⟨X, 33, none⟩ (.string au) = w9 at *
    obtain ⟨A4, hA4⟩ : ∃ A4, A4 = txA q.1 l q.2.1 L 2 1000 := ⟨_, rfl⟩
    obtain ⟨F4, hF4⟩ : ∃ F4, F4 = txF q.1 l q.2.1 L 2 1000 := ⟨_, rfl⟩
    rw [← hA4, ← hF4] at HR9
    have HA4 := Lib.hid hA4
    have HF4 := Lib.hid hF4
    clear hA4 hF4
    have HTk := Lib.hid (take_any R 3 110 A L C l A4 F4 E 8 w9 HR9.out (by omega))
    rw [show ((8 : Nat) : Int) = 8 from rfl] at HTk
    go_wp2_with fail
    refine HTk.out.mono ?_
    rintro e wt ⟨At, Ct, rfl, hrd, hne, hRt, hgt⟩
    obtain ⟨T, hT⟩ : ∃ T, T = tkL F4 l A4 L 8 := ⟨_, rfl⟩
    obtain ⟨A5, hA5⟩ : ∃ A5, A5 = tkA F4 A4 L 8 := ⟨_, rfl⟩
    obtain ⟨F5, hF5⟩ : ∃ F5, F5 = tkF F4 A4 L 8 := ⟨_, rfl⟩
    rw [← hT] at hrd hne ⊢
    rw [← hA5, ← hF5] at hRt
    have HT := Lib.hid hT
    have HA5 := Lib.hid hA5
    have HF5 := Lib.hid hF5
    have HRd := Lib.hid hrd
    have HRt := Lib.hid hRt
    have HNX := Lib.hid (hne X (fun x hx h0 => by have := HAB.out x hx h0; omega))
    have HXt := Lib.hid (World.rowIs.of_block HX9.out (hgt.block X HX9.out.lt (fun e => by have := Option.some.inj e; omega)))
    have HOt := Lib.hid (World.rowIs.of_block HO9.out (hgt.block O HO9.out.lt (fun e => by have := Option.some.inj e; omega)))
    have HOwt := Lib.hid (own_grown HOw9.out hgt (fun e => by have := (HOw9.out.lt R e).1; omega))
    have HGt := Lib.hid (grown_trans HG9.out hgt)
    have HXc : Hid (wt.rowIs X 40 36 (cmF tr (.slice Ai q.2.2.length Ci) au 0 ByteArray.empty)) := Lib.hid (HXt.out.congr (fun j hj => by rw [← HDI.out]; exact cmF_start ZC HZ34.out HZ35.out tr htl _ au j hj))
    have hcap := hrd.cap
    have hmax := hrd.max
    clear hT hA5 hF5 hrd hne hRt hgt HX9 HO9 HOw9 HG9 HR9 HXt HTk hc hf
    go_wp2_with fail
    go_loopw [32] (fun s wr => ∃ k : Nat, s = .int .i64 k ∧ k ≤ T.length ∧ Hid (wr.rowIs X 40 36 (cmF tr (.slice Ai q.2.2.length Ci) au (tv (T.take k)) ByteArray.empty)) ∧ Hid (wr.rowIs O 40 36 (fun i => ZC.getD i undef)) ∧ Hid (Rdr wr R 3 110 A L C l A5 F5 E) ∧ Hid (wr.ownsRow w5.heap.size 37 32 (.slice Ai q.2.2.length Ci) q.2.2.length (idsV q.2.2)) ∧ Hid (RdB wr At T.length Ct T) ∧ Hid (w.grownBy wr (some R))) (fun s _ => T.length - (intOf s).toNat)
    case atStart => exact ⟨0, rfl, Nat.zero_le _, HXc, HOt, HRt, HOwt, HRd, HGt⟩
    case round =>
      clear HXc HOt HRt HOwt HRd HGt
      obtain ⟨k, rfl, hk, HXk, HOk, HRk, HOwk, HRd, HGk⟩ := hrel
      by_cases hlt : k < T.length
      · obtain ⟨g, o, rfl, hgl, hcc⟩ := HRd.out.at (by omega)
        have hc1 : wr.cell? ⟨g, o + k, none⟩ = some (.int .u8 (T.getD k 0)) := hcc k hlt
        have hc2 : wr.cell? ⟨X, 34, none⟩ = some (.int .i64 (tv (T.take k))) := HXk.out.cell (i := 34) (by omega)
        have hf2 : wr.frozen? ⟨X, 34, none⟩ = false := HXk.out.frozen _
        have hb := HRd.out.byte k hlt
        have hb0 := hb.1
        have hb1 := hb.2
        have hst := tv_step T k hlt
        have HX2 := Lib.hid ((HXk.out.set 34 (.int .i64 (tv (T.take (k + 1))))).congr (fun j _ => cmF_time tr _ au _ _ ByteArray.empty j))
        have HO2 := Lib.hid (HOk.out.setOther (a := ⟨X, 34, none⟩) (fun e => by have : X = O := e.symm ▸ rfl; omega) (.int .i64 (tv (T.take (k + 1)))))
        have HR2 := Lib.hid (Rdr.setX HRk.out X 34 (.int .i64 (tv (T.take (k + 1)))) (by omega) (fun x hx h0 => by have := HAB.out x hx h0; omega))
        have HOw2 := Lib.hid (own_grown HOwk.out (grown_set wr X 34 (.int .i64 (tv (T.take (k + 1))))) (fun e => by have := (HOwk.out.lt X e).1; omega))
        have HRd2 := Lib.hid (HRd.out.grown (grown_set wr X 34 (.int .i64 (tv (T.take (k + 1))))) HNX.out)
        have HG2 : Hid (w.grownBy (wr.setCell ⟨X, 34, none⟩ (.int .i64 (tv (T.take (k + 1))))) (some R)) := Lib.hid (by
          have h1 := HGk.out
          have h2 := grown_set wr X 34 (.int .i64 (tv (T.take (k + 1))))
          exact ⟨h2.os.trans h1.os, h2.tape.trans h1.tape, h2.output.trans h1.output, Nat.le_trans h1.size h2.size, fun i hi hne => (h2.block i (Nat.lt_of_lt_of_le hi h1.size) (fun e => by have := Option.some.inj e; have := HOw.out; omega)).trans (h1.block i hi hne)⟩)
        rw [hst] at HX2 HO2 HR2 HOw2 HRd2 HG2
        have HSt := Lib.hid hst
        have hk0 : (0 : Int) ≤ (k : Int) := by omega
        have hkl : (k : Int) < (T.length : Int) := by omega
        clear hst hcc hb HXk HOk HRk HOwk HRd HGk
        generalize hY : tv (T.take k) = Y at *
        generalize T.getD k 0 = c at *
        clear hY
        go_wp2_with fail
        go_roundw
        case rel => exact ⟨k + 1, by go_num, by omega, by rw [HSt.out]; exact HX2, HO2, HR2, HOw2, HRd2, HG2⟩
        case measure => simp [intOf]; omega
      · have hkT : k = T.length := by omega
        have hd : decide ((k : Int) < (T.length : Int)) = false := by simp; omega
        have HXe : Hid (wr.rowIs X 40 36 (cmF tr (.slice Ai q.2.2.length Ci) au (tv T) ByteArray.empty)) := Lib.hid (by
          have h := HXk.out
          rw [hkT, List.take_length] at h
          exact h)
        clear HXk hkT
        have HMx := Lib.hid (text_r R 3 110 A L C l A5 F5 E 2 1000 wr HRk.out (by omega))
        rw [show ((2 : Nat) : Int) = 2 from rfl, show ((1000 : Nat) : Int) = 1000 from rfl] at HMx
        go_wp2_with fail
        refine HMx.out.mono ?_
        rintro e w11 ⟨rfl, hR11, hg11⟩
        obtain ⟨ms, hms⟩ : ∃ ms, ms = txS F5 l A5 L 2 1000 := ⟨_, rfl⟩
        obtain ⟨A6, hA6⟩ : ∃ A6, A6 = txA F5 l A5 L 2 1000 := ⟨_, rfl⟩
        obtain ⟨F6, hF6⟩ : ∃ F6, F6 = txF F5 l A5 L 2 1000 := ⟨_, rfl⟩
        rw [← hms]
        rw [← hA6, ← hF6] at hR11
        have HMs := Lib.hid hms
        have HA6 := Lib.hid hA6
        have HF6 := Lib.hid hF6
        have HX11 := Lib.hid (World.rowIs.of_block HXe.out (hg11.block X HXe.out.lt (fun e => by have := Option.some.inj e; omega)))
        have HO11 := Lib.hid (World.rowIs.of_block HOk.out (hg11.block O HOk.out.lt (fun e => by have := Option.some.inj e; omega)))
        have HOw11 := Lib.hid (own_grown HOwk.out hg11 (fun e => by have := (HOwk.out.lt R e).1; omega))
        have hc : w11.cell? ⟨X, 35, none⟩ = some _ := HX11.out.cell (i := 35) (by omega)
        have hf : w11.frozen? ⟨X, 35, none⟩ = false := HX11.out.frozen _
        have HX12 := Lib.hid ((HX11.out.set 35 (.string ms)).congr (fun j _ => cmF_msg tr _ au _ _ ms j))
        have HO12 := Lib.hid (HO11.out.setOther (a := ⟨X, 35, none⟩) (fun e => by have : X = O := e.symm ▸ rfl; omega) (.string ms))
        have HR12 := Lib.hid (Rdr.setX hR11 X 35 (.string ms) (by omega) (fun x hx h0 => by have := HAB.out x hx h0; omega))
        have HOw12 := Lib.hid (own_grown HOw11.out (grown_set w11 X 35 (.string ms)) (fun e => by have := (HOw11.out.lt X e).1; omega))
        have HG12 : Hid (w.grownBy (w11.setCell ⟨X, 35, none⟩ (.string ms)) (some R)) := Lib.hid (by
          have h1 := grown_trans HGk.out hg11
          have h2 := grown_set w11 X 35 (.string ms)
          exact ⟨h2.os.trans h1.os, h2.tape.trans h1.tape, h2.output.trans h1.output, Nat.le_trans h1.size h2.size, fun i hi hne => (h2.block i (Nat.lt_of_lt_of_le hi h1.size) (fun e => by have := Option.some.inj e; have := HOw.out; omega)).trans (h1.block i hi hne)⟩)
        clear hms hA6 hF6 hR11 hg11 HX11 HO11 HOw11 HXe HOk HRk HOwk HRd HGk HMx
        go_upto_region 13 with (fail)
        generalize w11.setCell ⟨X, 35, none⟩ (.string ms) = w12 at *
        have HEn := Lib.hid (end_any R 3 110 A L C l A6 F6 E w12 HR12.out)
        clear hc hf
        go_wp2_with fail
        refine HEn.out.mono ?_
        rintro e w13 ⟨rfl, hR13, hg13⟩
        have HX13 := HX12.out.of_block (hg13.block X HX12.out.lt (fun e => by have := Option.some.inj e; omega))
        have HO13 := HO12.out.of_block (hg13.block O HO12.out.lt (fun e => by have := Option.some.inj e; omega))
        have HOw13 := own_grown HOw12.out hg13 (fun e => by have := (HOw12.out.lt R e).1; omega)
        have hg14 := grown_trans HG12.out hg13
        have hcl : (cm tr (.slice Ai q.2.2.length Ci) au (tv T) ms).length = 36 := cm_len tr _ au _ ms htl
        have hc1 := cm_one tr (.slice Ai q.2.2.length Ci) au (tv T) ms rfl
        have HLd : Hid (w13.rangeAt X 0 (cm tr (.slice Ai q.2.2.length Ci) au (tv T) ms)) := Lib.hid (fun j v hj => by
          have hl := (List.getElem?_eq_some_iff.1 hj).1
          rw [hcl] at hl
          rw [Nat.zero_add, HX13.cell hl, ← hj, cm_get tr _ au _ ms htl j hl])
        have HLt : Hid (w13.there O 0 (cm tr (.slice Ai q.2.2.length Ci) au (tv T) ms).toArray.size) := Lib.hid (fun j hj => by
          rw [List.size_toArray, hcl] at hj
          rw [Nat.zero_add]
          exact ⟨by rw [HO13.cell hj]; rfl, HO13.frozen _⟩)
        have HLs : Hid ((Try.prog.info? 40).map (·.size) = some (cm tr (.slice Ai q.2.2.length Ci) au (tv T) ms).length) := Lib.hid (by rw [hcl]; kernel_rfl)
        have HLs2 : Hid ((Try.prog.info? 40).map (·.size) = some (cm tr (.slice Ai q.2.2.length Ci) au (tv T) ms).toArray.size) := Lib.hid (by rw [List.size_toArray]; exact HLs.out)
        have HLo := Lib.hid (all_oneCell_toArray hc1)
        have HSt := Lib.hid (row_stored HO13 (cm tr (.slice Ai q.2.2.length Ci) au (tv T) ms) hcl)
        have HRz := Lib.hid (Rdr.laid (X := O) (by have := HOw.out; omega) (cm tr (.slice Ai q.2.2.length Ci) au (tv T) ms) 0 w13 (fun x hx h0 => by have := HAB.out x hx h0; omega) hR13)
        have HGz := Lib.hid (grown_laid (a := w) (E := O) (by have := HOw.out; omega) (cm tr (.slice Ai q.2.2.length Ci) au (tv T) ms) 0 w13 hg14)
        have HOz := Lib.hid (own_grown HOw13 (grown_cells w13 O (cm tr (.slice Ai q.2.2.length Ci) au (tv T) ms) 0) (fun e => by have := (HOw13.lt O e).1; omega))
        clear hR13 hg13 hg14 HX13 HO13 HOw13 hcl hc1 HX12 HO12 HR12 HOw12 HG12 HEn
        generalize hCM : cm tr (.slice Ai q.2.2.length Ci) au (tv T) ms = CM at *
        have HCM := Lib.hid hCM
        clear hCM
        go_wp2_with (first
          | (refine wpList_load_mid rfl _ _ rfl X 0 rfl CM _ HLd.out Try.underlying40 rfl HLs.out ?_)
          | (refine wpList_store_mid rfl _ _ _ rfl O 0 CM.toArray rfl rfl HLt.out HLs2.out HLo.out ?_))
        refine bodyPost_ret (results_cell_row rfl _ _ O _ _ _ _ rfl HSt.out Try.underlying40 rfl HLs2.out) rfl ?_
        have e2 : cF2 f0 l at' L = F2 := by unfold cF2 cT; rw [← HTr.out]; exact HE2.out
        have eQ : cQ f0 l at' L = q := by unfold cQ; rw [e2, ← HA1.out]; exact HQ.out.symm
        have eAu : cAu f0 l at' L = au := by unfold cAu; rw [eQ]; exact HAu.out.symm
        have e4 : cA4 f0 l at' L = A4 := by unfold cA4; rw [eQ]; exact HA4.out.symm
        have eF4 : cF4 f0 l at' L = F4 := by unfold cF4; rw [eQ]; exact HF4.out.symm
        have eB : cB f0 l at' L = T := by unfold cB; rw [eF4, e4]; exact HT.out.symm
        have e5 : cA5 f0 l at' L = A5 := by unfold cA5; rw [eF4, e4]; exact HA5.out.symm
        have eF5 : cF5 f0 l at' L = F5 := by unfold cF5; rw [eF4, e4]; exact HF5.out.symm
        have eMs : cMs f0 l at' L = ms := by unfold cMs; rw [eF5, e5]; exact HMs.out.symm
        have e6 : cA6 f0 l at' L = A6 := by unfold cA6; rw [eF5, e5]; exact HA6.out.symm
        have eF6 : cF6 f0 l at' L = F6 := by unfold cF6; rw [eF5, e5]; exact HF6.out.symm
        have eF7 : cF7 f0 l at' L = enF F6 A6 L := by unfold cF7; rw [eF6, e6]
        unfold CmRet
        rw [eQ, eAu, eB, eMs, e6, eF7, show cT f0 l at' L = tr from HTr.out.symm]
        exact ⟨H32.out, HRz.out, HGz.out, Ai, Ci, by rw [HCM.out], own_base HOz.out (by have := HOw.out; omega)⟩
  · rw [decide_eq_false hz0] at hq
    have H2 : Hid (tkF f0 at' L 32 = if tr = List.replicate 32 0 then fl (tkF f0 at' L 32) 1 else tkF f0 at' L 32) := Lib.hid (by rw [if_neg hz0])
    clear hz0
    obtain ⟨F2, hF2⟩ : ∃ F2, F2 = tkF f0 at' L 32 := ⟨_, rfl⟩
    obtain ⟨A1, hA1⟩ : ∃ A1, A1 = tkA f0 at' L 32 := ⟨_, rfl⟩
    have hR5 := HR4.out
    rw [← hF2, ← hA1] at hR5
    have HE2 := Lib.hid (H2.out.symm.trans hF2.symm)
    have HA1 := Lib.hid hA1
    have HR5 := Lib.hid hR5
    have HF2 := Lib.hid hF2
    have HX5 := HX4
    have HO5 := HO4
    have HG5 := HG4
    clear hR5 hF2 hA1 HX4 HO4 HR4 HG4
    go_wp2_with (refine wpList_load_mid rfl _ _ rfl X 0 rfl DI _ HRg.out Try.underlying37 rfl HSz1.out ?_)
    clear HRg hq
    have HPs := Lib.hid (parents_any R A L C l A1 F2 E w4 HR5.out)
    have hs5 := HX5.out.lt
    refine HPs.out.mono ?_
    rintro e w6 ⟨h32, hR6, hg6, Ai, Ci, rfl, ho6⟩
    obtain ⟨q, hqq⟩ : ∃ q, q = pa F2 l A1 L := ⟨_, rfl⟩
    rw [← hqq] at h32 hR6 ho6 ⊢
    have HQ := Lib.hid hqq
    have H32 := Lib.hid h32
    have HX6 := Lib.hid (World.rowIs.of_block HX5.out (hg6.block X HX5.out.lt (fun e => by have := Option.some.inj e; omega)))
    have HO6 := Lib.hid (World.rowIs.of_block HO5.out (hg6.block O HO5.out.lt (fun e => by have := Option.some.inj e; omega)))
    have hc : w6.cell? ⟨X, 32, none⟩ = some _ := HX6.out.cell (i := 32) (by omega)
    have hf : w6.frozen? ⟨X, 32, none⟩ = false := HX6.out.frozen _
    have HX7 := Lib.hid (HX6.out.set 32 (.slice Ai q.2.2.length Ci))
    have HO7 := Lib.hid (HO6.out.setOther (a := ⟨X, 32, none⟩) (fun e => by have : X = O := e.symm ▸ rfl; omega) (.slice Ai q.2.2.length Ci))
    have HR7 := Lib.hid (Rdr.setX hR6 X 32 (.slice Ai q.2.2.length Ci) (by omega) (fun x hx h0 => by have := HAB.out x hx h0; omega))
    have HOw7 := Lib.hid (own_grown ho6 (grown_set w6 X 32 (.slice Ai q.2.2.length Ci)) (fun e => by have := (ho6.lt X e).1; omega))
    have HG7 : Hid (w.grownBy (w6.setCell ⟨X, 32, none⟩ (.slice Ai q.2.2.length Ci)) (some R)) := Lib.hid (by
      have h1 := grown_trans HG5.out hg6
      have h2 := grown_set w6 X 32 (.slice Ai q.2.2.length Ci)
      exact ⟨h2.os.trans h1.os, h2.tape.trans h1.tape, h2.output.trans h1.output, Nat.le_trans h1.size h2.size, fun i hi hne => (h2.block i (Nat.lt_of_lt_of_le hi h1.size) (fun e => by have := Option.some.inj e; have := HOw.out; omega)).trans (h1.block i hi hne)⟩)
    clear hqq h32 HPs hR6 hg6 ho6 HX6 HO6 HX5 HO5 HR5 HG5
    go_upto_region 6 with (fail)
    generalize w6.setCell ⟨X, 32, none⟩ (.slice Ai q.2.2.length Ci) = w7 at *
    have HTx := Lib.hid (text_r R 3 110 A L C l q.2.1 q.1 E 2 1000 w7 HR7.out (by omega))
    rw [show ((2 : Nat) : Int) = 2 from rfl, show ((1000 : Nat) : Int) = 1000 from rfl] at HTx
    go_wp2_with fail
    refine HTx.out.mono ?_
    rintro e w8 ⟨rfl, hR8, hg8⟩
    obtain ⟨au, hau⟩ : ∃ au, au = txS q.1 l q.2.1 L 2 1000 := ⟨_, rfl⟩
    rw [← hau]
    have HAu := Lib.hid hau
    have HX8 := Lib.hid (World.rowIs.of_block HX7.out (hg8.block X HX7.out.lt (fun e => by have := Option.some.inj e; omega)))
    have HO8 := Lib.hid (World.rowIs.of_block HO7.out (hg8.block O HO7.out.lt (fun e => by have := Option.some.inj e; omega)))
    have HOw8 := Lib.hid (own_grown HOw7.out hg8 (fun e => by have := (HOw7.out.lt R e).1; omega))
    have hc : w8.cell? ⟨X, 33, none⟩ = some _ := HX8.out.cell (i := 33) (by omega)
    have hf : w8.frozen? ⟨X, 33, none⟩ = false := HX8.out.frozen _
    have HX9 := Lib.hid (HX8.out.set 33 (.string au))
    have HO9 := Lib.hid (HO8.out.setOther (a := ⟨X, 33, none⟩) (fun e => by have : X = O := e.symm ▸ rfl; omega) (.string au))
    have HR9 := Lib.hid (Rdr.setX hR8 X 33 (.string au) (by omega) (fun x hx h0 => by have := HAB.out x hx h0; omega))
    have HOw9 := Lib.hid (own_grown HOw8.out (grown_set w8 X 33 (.string au)) (fun e => by have := (HOw8.out.lt X e).1; omega))
    have HG9 : Hid (w.grownBy (w8.setCell ⟨X, 33, none⟩ (.string au)) (some R)) := Lib.hid (by
      have h1 := grown_trans HG7.out hg8
      have h2 := grown_set w8 X 33 (.string au)
      exact ⟨h2.os.trans h1.os, h2.tape.trans h1.tape, h2.output.trans h1.output, Nat.le_trans h1.size h2.size, fun i hi hne => (h2.block i (Nat.lt_of_lt_of_le hi h1.size) (fun e => by have := Option.some.inj e; have := HOw.out; omega)).trans (h1.block i hi hne)⟩)
    clear hau HTx hR8 hg8 HX7 HO7 HOw7 HR7 HG7 HX8 HO8 HOw8
    go_upto_region 7 with (fail)
    generalize w8.setCell ⟨X, 33, none⟩ (.string au) = w9 at *
    obtain ⟨A4, hA4⟩ : ∃ A4, A4 = txA q.1 l q.2.1 L 2 1000 := ⟨_, rfl⟩
    obtain ⟨F4, hF4⟩ : ∃ F4, F4 = txF q.1 l q.2.1 L 2 1000 := ⟨_, rfl⟩
    rw [← hA4, ← hF4] at HR9
    have HA4 := Lib.hid hA4
    have HF4 := Lib.hid hF4
    clear hA4 hF4
    have HTk := Lib.hid (take_any R 3 110 A L C l A4 F4 E 8 w9 HR9.out (by omega))
    rw [show ((8 : Nat) : Int) = 8 from rfl] at HTk
    go_wp2_with fail
    refine HTk.out.mono ?_
    rintro e wt ⟨At, Ct, rfl, hrd, hne, hRt, hgt⟩
    obtain ⟨T, hT⟩ : ∃ T, T = tkL F4 l A4 L 8 := ⟨_, rfl⟩
    obtain ⟨A5, hA5⟩ : ∃ A5, A5 = tkA F4 A4 L 8 := ⟨_, rfl⟩
    obtain ⟨F5, hF5⟩ : ∃ F5, F5 = tkF F4 A4 L 8 := ⟨_, rfl⟩
    rw [← hT] at hrd hne ⊢
    rw [← hA5, ← hF5] at hRt
    have HT := Lib.hid hT
    have HA5 := Lib.hid hA5
    have HF5 := Lib.hid hF5
    have HRd := Lib.hid hrd
    have HRt := Lib.hid hRt
    have HNX := Lib.hid (hne X (fun x hx h0 => by have := HAB.out x hx h0; omega))
    have HXt := Lib.hid (World.rowIs.of_block HX9.out (hgt.block X HX9.out.lt (fun e => by have := Option.some.inj e; omega)))
    have HOt := Lib.hid (World.rowIs.of_block HO9.out (hgt.block O HO9.out.lt (fun e => by have := Option.some.inj e; omega)))
    have HOwt := Lib.hid (own_grown HOw9.out hgt (fun e => by have := (HOw9.out.lt R e).1; omega))
    have HGt := Lib.hid (grown_trans HG9.out hgt)
    have HXc : Hid (wt.rowIs X 40 36 (cmF tr (.slice Ai q.2.2.length Ci) au 0 ByteArray.empty)) := Lib.hid (HXt.out.congr (fun j hj => by rw [← HDI.out]; exact cmF_start ZC HZ34.out HZ35.out tr htl _ au j hj))
    have hcap := hrd.cap
    have hmax := hrd.max
    clear hT hA5 hF5 hrd hne hRt hgt HX9 HO9 HOw9 HG9 HR9 HXt HTk hc hf
    go_wp2_with fail
    go_loopw [32] (fun s wr => ∃ k : Nat, s = .int .i64 k ∧ k ≤ T.length ∧ Hid (wr.rowIs X 40 36 (cmF tr (.slice Ai q.2.2.length Ci) au (tv (T.take k)) ByteArray.empty)) ∧ Hid (wr.rowIs O 40 36 (fun i => ZC.getD i undef)) ∧ Hid (Rdr wr R 3 110 A L C l A5 F5 E) ∧ Hid (wr.ownsRow w4.heap.size 37 32 (.slice Ai q.2.2.length Ci) q.2.2.length (idsV q.2.2)) ∧ Hid (RdB wr At T.length Ct T) ∧ Hid (w.grownBy wr (some R))) (fun s _ => T.length - (intOf s).toNat)
    case atStart => exact ⟨0, rfl, Nat.zero_le _, HXc, HOt, HRt, HOwt, HRd, HGt⟩
    case round =>
      clear HXc HOt HRt HOwt HRd HGt
      obtain ⟨k, rfl, hk, HXk, HOk, HRk, HOwk, HRd, HGk⟩ := hrel
      by_cases hlt : k < T.length
      · obtain ⟨g, o, rfl, hgl, hcc⟩ := HRd.out.at (by omega)
        have hc1 : wr.cell? ⟨g, o + k, none⟩ = some (.int .u8 (T.getD k 0)) := hcc k hlt
        have hc2 : wr.cell? ⟨X, 34, none⟩ = some (.int .i64 (tv (T.take k))) := HXk.out.cell (i := 34) (by omega)
        have hf2 : wr.frozen? ⟨X, 34, none⟩ = false := HXk.out.frozen _
        have hb := HRd.out.byte k hlt
        have hb0 := hb.1
        have hb1 := hb.2
        have hst := tv_step T k hlt
        have HX2 := Lib.hid ((HXk.out.set 34 (.int .i64 (tv (T.take (k + 1))))).congr (fun j _ => cmF_time tr _ au _ _ ByteArray.empty j))
        have HO2 := Lib.hid (HOk.out.setOther (a := ⟨X, 34, none⟩) (fun e => by have : X = O := e.symm ▸ rfl; omega) (.int .i64 (tv (T.take (k + 1)))))
        have HR2 := Lib.hid (Rdr.setX HRk.out X 34 (.int .i64 (tv (T.take (k + 1)))) (by omega) (fun x hx h0 => by have := HAB.out x hx h0; omega))
        have HOw2 := Lib.hid (own_grown HOwk.out (grown_set wr X 34 (.int .i64 (tv (T.take (k + 1))))) (fun e => by have := (HOwk.out.lt X e).1; omega))
        have HRd2 := Lib.hid (HRd.out.grown (grown_set wr X 34 (.int .i64 (tv (T.take (k + 1))))) HNX.out)
        have HG2 : Hid (w.grownBy (wr.setCell ⟨X, 34, none⟩ (.int .i64 (tv (T.take (k + 1))))) (some R)) := Lib.hid (by
          have h1 := HGk.out
          have h2 := grown_set wr X 34 (.int .i64 (tv (T.take (k + 1))))
          exact ⟨h2.os.trans h1.os, h2.tape.trans h1.tape, h2.output.trans h1.output, Nat.le_trans h1.size h2.size, fun i hi hne => (h2.block i (Nat.lt_of_lt_of_le hi h1.size) (fun e => by have := Option.some.inj e; have := HOw.out; omega)).trans (h1.block i hi hne)⟩)
        rw [hst] at HX2 HO2 HR2 HOw2 HRd2 HG2
        have HSt := Lib.hid hst
        have hk0 : (0 : Int) ≤ (k : Int) := by omega
        have hkl : (k : Int) < (T.length : Int) := by omega
        clear hst hcc hb HXk HOk HRk HOwk HRd HGk
        generalize hY : tv (T.take k) = Y at *
        generalize T.getD k 0 = c at *
        clear hY
        go_wp2_with fail
        go_roundw
        case rel => exact ⟨k + 1, by go_num, by omega, by rw [HSt.out]; exact HX2, HO2, HR2, HOw2, HRd2, HG2⟩
        case measure => simp [intOf]; omega
      · have hkT : k = T.length := by omega
        have hd : decide ((k : Int) < (T.length : Int)) = false := by simp; omega
        have HXe : Hid (wr.rowIs X 40 36 (cmF tr (.slice Ai q.2.2.length Ci) au (tv T) ByteArray.empty)) := Lib.hid (by
          have h := HXk.out
          rw [hkT, List.take_length] at h
          exact h)
        clear HXk hkT
        have HMx := Lib.hid (text_r R 3 110 A L C l A5 F5 E 2 1000 wr HRk.out (by omega))
        rw [show ((2 : Nat) : Int) = 2 from rfl, show ((1000 : Nat) : Int) = 1000 from rfl] at HMx
        go_wp2_with fail
        refine HMx.out.mono ?_
        rintro e w11 ⟨rfl, hR11, hg11⟩
        obtain ⟨ms, hms⟩ : ∃ ms, ms = txS F5 l A5 L 2 1000 := ⟨_, rfl⟩
        obtain ⟨A6, hA6⟩ : ∃ A6, A6 = txA F5 l A5 L 2 1000 := ⟨_, rfl⟩
        obtain ⟨F6, hF6⟩ : ∃ F6, F6 = txF F5 l A5 L 2 1000 := ⟨_, rfl⟩
        rw [← hms]
        rw [← hA6, ← hF6] at hR11
        have HMs := Lib.hid hms
        have HA6 := Lib.hid hA6
        have HF6 := Lib.hid hF6
        have HX11 := Lib.hid (World.rowIs.of_block HXe.out (hg11.block X HXe.out.lt (fun e => by have := Option.some.inj e; omega)))
        have HO11 := Lib.hid (World.rowIs.of_block HOk.out (hg11.block O HOk.out.lt (fun e => by have := Option.some.inj e; omega)))
        have HOw11 := Lib.hid (own_grown HOwk.out hg11 (fun e => by have := (HOwk.out.lt R e).1; omega))
        have hc : w11.cell? ⟨X, 35, none⟩ = some _ := HX11.out.cell (i := 35) (by omega)
        have hf : w11.frozen? ⟨X, 35, none⟩ = false := HX11.out.frozen _
        have HX12 := Lib.hid ((HX11.out.set 35 (.string ms)).congr (fun j _ => cmF_msg tr _ au _ _ ms j))
        have HO12 := Lib.hid (HO11.out.setOther (a := ⟨X, 35, none⟩) (fun e => by have : X = O := e.symm ▸ rfl; omega) (.string ms))
        have HR12 := Lib.hid (Rdr.setX hR11 X 35 (.string ms) (by omega) (fun x hx h0 => by have := HAB.out x hx h0; omega))
        have HOw12 := Lib.hid (own_grown HOw11.out (grown_set w11 X 35 (.string ms)) (fun e => by have := (HOw11.out.lt X e).1; omega))
        have HG12 : Hid (w.grownBy (w11.setCell ⟨X, 35, none⟩ (.string ms)) (some R)) := Lib.hid (by
          have h1 := grown_trans HGk.out hg11
          have h2 := grown_set w11 X 35 (.string ms)
          exact ⟨h2.os.trans h1.os, h2.tape.trans h1.tape, h2.output.trans h1.output, Nat.le_trans h1.size h2.size, fun i hi hne => (h2.block i (Nat.lt_of_lt_of_le hi h1.size) (fun e => by have := Option.some.inj e; have := HOw.out; omega)).trans (h1.block i hi hne)⟩)
        clear hms hA6 hF6 hR11 hg11 HX11 HO11 HOw11 HXe HOk HRk HOwk HRd HGk HMx
        go_upto_region 13 with (fail)
        generalize w11.setCell ⟨X, 35, none⟩ (.string ms) = w12 at *
        have HEn := Lib.hid (end_any R 3 110 A L C l A6 F6 E w12 HR12.out)
        clear hc hf
        go_wp2_with fail
        refine HEn.out.mono ?_
        rintro e w13 ⟨rfl, hR13, hg13⟩
        have HX13 := HX12.out.of_block (hg13.block X HX12.out.lt (fun e => by have := Option.some.inj e; omega))
        have HO13 := HO12.out.of_block (hg13.block O HO12.out.lt (fun e => by have := Option.some.inj e; omega))
        have HOw13 := own_grown HOw12.out hg13 (fun e => by have := (HOw12.out.lt R e).1; omega)
        have hg14 := grown_trans HG12.out hg13
        have hcl : (cm tr (.slice Ai q.2.2.length Ci) au (tv T) ms).length = 36 := cm_len tr _ au _ ms htl
        have hc1 := cm_one tr (.slice Ai q.2.2.length Ci) au (tv T) ms rfl
        have HLd : Hid (w13.rangeAt X 0 (cm tr (.slice Ai q.2.2.length Ci) au (tv T) ms)) := Lib.hid (fun j v hj => by
          have hl := (List.getElem?_eq_some_iff.1 hj).1
          rw [hcl] at hl
          rw [Nat.zero_add, HX13.cell hl, ← hj, cm_get tr _ au _ ms htl j hl])
        have HLt : Hid (w13.there O 0 (cm tr (.slice Ai q.2.2.length Ci) au (tv T) ms).toArray.size) := Lib.hid (fun j hj => by
          rw [List.size_toArray, hcl] at hj
          rw [Nat.zero_add]
          exact ⟨by rw [HO13.cell hj]; rfl, HO13.frozen _⟩)
        have HLs : Hid ((Try.prog.info? 40).map (·.size) = some (cm tr (.slice Ai q.2.2.length Ci) au (tv T) ms).length) := Lib.hid (by rw [hcl]; kernel_rfl)
        have HLs2 : Hid ((Try.prog.info? 40).map (·.size) = some (cm tr (.slice Ai q.2.2.length Ci) au (tv T) ms).toArray.size) := Lib.hid (by rw [List.size_toArray]; exact HLs.out)
        have HLo := Lib.hid (all_oneCell_toArray hc1)
        have HSt := Lib.hid (row_stored HO13 (cm tr (.slice Ai q.2.2.length Ci) au (tv T) ms) hcl)
        have HRz := Lib.hid (Rdr.laid (X := O) (by have := HOw.out; omega) (cm tr (.slice Ai q.2.2.length Ci) au (tv T) ms) 0 w13 (fun x hx h0 => by have := HAB.out x hx h0; omega) hR13)
        have HGz := Lib.hid (grown_laid (a := w) (E := O) (by have := HOw.out; omega) (cm tr (.slice Ai q.2.2.length Ci) au (tv T) ms) 0 w13 hg14)
        have HOz := Lib.hid (own_grown HOw13 (grown_cells w13 O (cm tr (.slice Ai q.2.2.length Ci) au (tv T) ms) 0) (fun e => by have := (HOw13.lt O e).1; omega))
        clear hR13 hg13 hg14 HX13 HO13 HOw13 hcl hc1 HX12 HO12 HR12 HOw12 HG12 HEn
        generalize hCM : cm tr (.slice Ai q.2.2.length Ci) au (tv T) ms = CM at *
        have HCM := Lib.hid hCM
        clear hCM
        go_wp2_with (first
          | (refine wpList_load_mid rfl _ _ rfl X 0 rfl CM _ HLd.out Try.underlying40 rfl HLs.out ?_)
          | (refine wpList_store_mid rfl _ _ _ rfl O 0 CM.toArray rfl rfl HLt.out HLs2.out HLo.out ?_))
        refine bodyPost_ret (results_cell_row rfl _ _ O _ _ _ _ rfl HSt.out Try.underlying40 rfl HLs2.out) rfl ?_
        have e2 : cF2 f0 l at' L = F2 := by unfold cF2 cT; rw [← HTr.out]; exact HE2.out
        have eQ : cQ f0 l at' L = q := by unfold cQ; rw [e2, ← HA1.out]; exact HQ.out.symm
        have eAu : cAu f0 l at' L = au := by unfold cAu; rw [eQ]; exact HAu.out.symm
        have e4 : cA4 f0 l at' L = A4 := by unfold cA4; rw [eQ]; exact HA4.out.symm
        have eF4 : cF4 f0 l at' L = F4 := by unfold cF4; rw [eQ]; exact HF4.out.symm
        have eB : cB f0 l at' L = T := by unfold cB; rw [eF4, e4]; exact HT.out.symm
        have e5 : cA5 f0 l at' L = A5 := by unfold cA5; rw [eF4, e4]; exact HA5.out.symm
        have eF5 : cF5 f0 l at' L = F5 := by unfold cF5; rw [eF4, e4]; exact HF5.out.symm
        have eMs : cMs f0 l at' L = ms := by unfold cMs; rw [eF5, e5]; exact HMs.out.symm
        have e6 : cA6 f0 l at' L = A6 := by unfold cA6; rw [eF5, e5]; exact HA6.out.symm
        have eF6 : cF6 f0 l at' L = F6 := by unfold cF6; rw [eF5, e5]; exact HF6.out.symm
        have eF7 : cF7 f0 l at' L = enF F6 A6 L := by unfold cF7; rw [eF6, e6]
        unfold CmRet
        rw [eQ, eAu, eB, eMs, e6, eF7, show cT f0 l at' L = tr from HTr.out.symm]
        exact ⟨H32.out, HRz.out, HGz.out, Ai, Ci, by rw [HCM.out], own_base HOz.out (by have := HOw.out; omega)⟩
end Go.Proofs.Ytmcmapgllaopmaa.Cd
end

section
/- ParseCommit of any bytes. -/
namespace Go.Proofs.Ytmcmapgllaopmaa.Cd
open Go.RowKit
set_option linter.unusedVariables false

theorem results_cell2 {P : Program} {fn : Func} {p q : Tmp} {ty : TypeId} (h : fn.results = #[.cell p ty, .tmp q]) (tmps : Array Value) (w : World) (g : Nat) (t : TypeId) (cs : Array Value) (fr : Nat × Nat) (d : TypeDesc)
    (hp : tmps.getD p undef = .pointer (some ⟨g, 0, none⟩)) (hg : w.heap[g]? = some (.cells cs t fr))
    (hu : P.underlying ty = some d) (hd : (match d with | .struct _ | .array _ _ => true | _ => false) = true) (hi : (P.info? ty).map (·.size) = some cs.size) (v : Value) (hv : tmps.getD q undef = v) :
    (results fn tmps).run P w = .ok (.tuple #[.agg cs, v]) w := by
  have hp' : tmps[p]?.getD undef = .pointer (some ⟨g, 0, none⟩) := by simpa using hp
  have hv' : tmps[q]?.getD undef = v := by simpa using hv
  simp [results, h, hp', hv', asAddr, run_loadVar_row w g t ty cs fr d hg hu hd hi]

/-- no commit -/
def cm0 : List Value := cm (List.replicate 32 0) (.slice none 0 0) ByteArray.empty 0 ByteArray.empty

/-- what ParseCommit hands back -/
def PcRet (l : List Int) (L : Nat) (w : World) (e : Ending) (w' : World) : Prop :=
  Below w.heap.size w w' ∧
  ((cF7 0 l 0 L ≠ 0 ∧ e = .returned (.tuple #[.agg cm0.toArray, .int .i64 (cF7 0 l 0 L)])) ∨
   (cF7 0 l 0 L = 0 ∧ (∀ x ∈ (cQ 0 l 0 L).2.2, x.length = 32) ∧ ∃ Ai Ci, e = .returned (.tuple #[.agg (cm (cT 0 l 0 L) (.slice Ai (cQ 0 l 0 L).2.2.length Ci) (cAu 0 l 0 L) (tv (cB 0 l 0 L)) (cMs 0 l 0 L)).toArray, .int .i64 0]) ∧ w'.ownsRow w.heap.size 37 32 (.slice Ai (cQ 0 l 0 L).2.2.length Ci) (cQ 0 l 0 L).2.2.length (idsV (cQ 0 l 0 L).2.2)))

theorem step_store_mid {ops : Array Oper} {o : Oper} {a : Act} {w : World} {K : Act → World → Prop} {Q : Exit → Act → World → Prop} {E : Prop} (hgd : o.guard = none) (ty : TypeId) (x y : Operand) (ho : o.op = .store ty x y)
    (b off : Nat) (cells : Array Value) (hx : a.eval x = .pointer (some ⟨b, off, none⟩)) (hy : a.eval y = .agg cells)
    (ht : w.there b off cells.size) (hi : (Try.prog.info? ty).map (·.size) = some cells.size) (h1 : cells.all (·.oneCell') = true)
    (h : K (a.put o.dst undef) (w.setCells b off cells.toList)) : if Region.wanted o (yielded ops a.tmps) = true then Oper.wp Try.prog o a w K Q else E := by
  have hw : Region.wanted o (yielded ops a.tmps) = true := by simp [Region.wanted, hgd]
  rw [if_pos hw]
  exact wp_store_mid ty x y ho b off cells hx hy ht hi h1 h

/-- a pointer's block's cells, all of them, stored: what the store and the result ask -/
structure Fin (w0 : World) (B : Nat) (w : World) (O : Nat) (ty : TypeId) (D : List Value) : Prop where
  there : w.there O 0 D.toArray.size
  size : (Try.prog.info? ty).map (·.size) = some D.toArray.size
  one : D.toArray.all (·.oneCell') = true
  stored : (w.setCells O 0 D).heap[O]? = some (.cells D.toArray ty (0, 0))
  bel : Below B w0 (w.setCells O 0 D)
theorem below_cells {B O : Nat} {w0 : World} (hO : B ≤ O) : ∀ (vs : List Value) (o : Nat) (w : World), Below B w0 w → Below B w0 (w.setCells O o vs)
  | [], _, _, h => h
  | v :: vs, o, w, h => below_cells hO vs (o + 1) _ (h.setCell (p := ⟨O, o, none⟩) hO v)
theorem Fin.mk' {w0 w : World} {B O : Nat} {D : List Value} {f : Nat → Value} (hl : D.length = 36) (h1 : ∀ v ∈ D, v.oneCell' = true) (hr : w.rowIs O 40 36 f) (hb : Below B w0 w) (hO : B ≤ O) : Fin w0 B w O 40 D :=
  ⟨fun j hj => by
    rw [List.size_toArray, hl] at hj
    rw [Nat.zero_add]
    exact ⟨by rw [hr.cell hj]; rfl, hr.frozen _⟩, by rw [List.size_toArray, hl]; kernel_rfl, all_oneCell_toArray h1, row_stored hr D hl, below_cells hO D 0 w hb⟩
theorem _root_.Go.World.rangeAt.lt_of {w : World} {b o : Nat} {cs : List Value} (h : w.rangeAt b o cs) (h0 : 0 < cs.length) : b < w.heap.size := by
  obtain ⟨v, hv⟩ : ∃ v, cs[0]? = some v := ⟨cs[0], List.getElem?_eq_getElem h0⟩
  have := h 0 v hv
  exact block_lt_of_cell this
theorem cm0_len : cm0.length = 36 := by simp [cm0, cm, bv]
theorem cm0_one : ∀ v ∈ cm0, v.oneCell' = true := cm_one _ _ _ _ _ rfl

set_option maxRecDepth 100000 in
set_option maxHeartbeats 2000000 in
theorem parseCommit_any (A : Option Addr) (L C : Nat) (l : List Int) (w : World) (h : RdB w A L C l) :
    Calls Try.prog 19 #[.slice A L C] w (PcRet l L w) := by
  have hz : ∀ w : World, (zeroValue 40).run Try.prog w = .ok (.agg cm0.toArray) w := zeroCm
  have hZl : cm0.toArray.size = 36 := by rw [List.size_toArray, cm0_len]
  have HZ0 := Lib.hid (show cm0.toArray.toList = cm0 by simp)
  generalize hZC : cm0.toArray = ZC at *
  have HZC := Lib.hid hZC
  have HZl := Lib.hid hZl
  have HRd := Lib.hid h
  have HB0 := Lib.hid (Below.refl w.heap.size w)
  clear hZl h hZC
  go_enter Try.func19, Try.ntmps19
  go_upto_region 1 with (fail)
  have hro := row_new w ZC 40
  rw [HZl.out] at hro
  have HO1 := Lib.hid hro
  have hX1 : (w.alloc (.cells ZC 40)).heap.size = w.heap.size + 1 := by show (w.heap.push _).size = _; simp
  have HB1 := Lib.hid (HB0.out.alloc (Nat.le_refl _) (.cells ZC 40))
  have HRd1 := Lib.hid (HRd.out.below HB1.out)
  have HLt : Hid (∀ x, A = some x → 0 < L → x.block < w.heap.size) := Lib.hid (fun x hx h0 => (HRd.out.cell x hx).1 h0)
  clear hro HB0 HRd
  generalize w.alloc (.cells ZC 40) = w1 at *
  go_upto_region 2 with (fail)
  have HB2 := Lib.hid (HB1.out.alloc (show w.heap.size ≤ w1.heap.size by omega) (.cells #[.slice A L C, .int .i64 0, .int .i64 0] 110))
  have HO2 := Lib.hid (World.rowIs.alloc HO1.out (.cells #[.slice A L C, .int .i64 0, .int .i64 0] 110))
  have hr2 := row_new w1 #[.slice A L C, .int .i64 0, .int .i64 0] 110
  have HR2 : Hid (Rdr (w1.alloc (.cells #[.slice A L C, .int .i64 0, .int .i64 0] 110)) w1.heap.size 3 110 A L C l 0 0 (fun _ => undef)) := Lib.hid ⟨hr2.congr (fun j hj => by
      match j, hj with
      | 0, _ => rfl
      | 1, _ => rfl
      | 2, _ => rfl), by decide, HRd1.out.below ((Below.refl w1.heap.size w1).alloc (Nat.le_refl _) _), fun x hx h0 => by have := HLt.out x hx h0; omega, Nat.zero_le _⟩
  clear hr2 HO1 HB1 HRd1
  obtain ⟨R, hR⟩ : ∃ R, R = w.heap.size + 1 := ⟨_, rfl⟩
  obtain ⟨O, hO⟩ : ∃ O, O = w.heap.size := ⟨_, rfl⟩
  rw [hX1, ← hR] at HR2
  rw [← hR]
  rw [← hO] at HO2 HLt ⊢
  have hRO : O < R := by omega
  clear hX1
  generalize w1.alloc (.cells #[.slice A L C, .int .i64 0, .int .i64 0] 110) = w2 at *
  have HOw := Lib.hid hO
  clear hR hO
  have HCm := Lib.hid (commit_r R A L C l 0 0 (fun _ => undef) w2 HR2.out)
  have hRs := HR2.out.row.lt
  clear HR2
  go_wp2_with fail
  refine HCm.out.mono ?_
  rintro e w3 ⟨h32, hR3, hg3, Ai, Ci, rfl, ho3⟩
  have HB3 : Hid (Below w.heap.size w w3) := Lib.hid (HB2.out.grown hg3 (by have := HOw.out; omega) (fun k hk => by have := Option.some.inj hk; have := HOw.out; omega))
  have HO3 := Lib.hid (World.rowIs.of_block HO2.out (hg3.block O HO2.out.lt (fun e => by have := Option.some.inj e; omega)))
  have hw2 : w2.heap.size ≤ w3.heap.size := hg3.size
  obtain ⟨q, hq⟩ : ∃ q, q = cQ 0 l 0 L := ⟨_, rfl⟩
  obtain ⟨F, hF⟩ : ∃ F, F = cF7 0 l 0 L := ⟨_, rfl⟩
  rw [← hF] at hR3
  have HQ := Lib.hid hq
  rw [← hq] at h32 ho3 ⊢
  have hcl : (cm (cT 0 l 0 L) (.slice Ai q.2.2.length Ci) (cAu 0 l 0 L) (tv (cB 0 l 0 L)) (cMs 0 l 0 L)).length = 36 := cm_len _ _ _ _ _ (by
    unfold cT
    refine idv_len _ ?_
    unfold tkL
    split
    · rw [List.length_take]; omega
    · simp)
  have hco := cm_one (cT 0 l 0 L) (.slice Ai q.2.2.length Ci) (cAu 0 l 0 L) (tv (cB 0 l 0 L)) (cMs 0 l 0 L) rfl
  generalize hCM : cm (cT 0 l 0 L) (.slice Ai q.2.2.length Ci) (cAu 0 l 0 L) (tv (cB 0 l 0 L)) (cMs 0 l 0 L) = CM at *
  have HCM := Lib.hid hCM
  have H32 := Lib.hid h32
  have hxr := row_new w3 ZC 40
  rw [HZl.out] at hxr
  have hb4 := HB3.out.alloc (show w.heap.size ≤ w3.heap.size by have := HOw.out; omega) (.cells ZC 40)
  have hb34 := (Below.refl w3.heap.size w3).alloc (Nat.le_refl _) (.cells ZC 40)
  have HFx := Lib.hid (Fin.mk' hcl hco hxr hb4 (show w.heap.size ≤ w3.heap.size by have := HOw.out; omega))
  have HXr : Hid (((w3.alloc (.cells ZC 40)).setCells w3.heap.size 0 CM).rangeAt w3.heap.size 0 CM) := Lib.hid (World.rangeAt_setCells_same _ _ _ _ (by have := HFx.out.there; rwa [List.size_toArray] at this))
  have HO4 := Lib.hid (row_apart (b := O) (E := w3.heap.size) (by have := HO3.out.lt; omega) CM 0 _ (HO3.out.alloc (.cells ZC 40)))
  have HR4 := Lib.hid (Rdr.laid (X := w3.heap.size) (by omega) CM 0 _ (fun x hx h0 => by have := HLt.out x hx h0; have := HO3.out.lt; omega) (hR3.below hb34))
  have HOx := Lib.hid (own_grown (own_keep ho3 hb34) (grown_cells _ w3.heap.size CM 0) (fun e => by have := (ho3.lt _ e).2; omega))
  have HSz : Hid ((Try.prog.info? 40).map (·.size) = some CM.length) := Lib.hid (by rw [hcl]; kernel_rfl)
  have HCl := Lib.hid hcl
  have HCo := Lib.hid hco
  have hOX : O < w3.heap.size := HO3.out.lt
  clear h32 hR3 hg3 hq hcl hco hCM ho3 hxr hb4 hb34 HB2 HO2 HO3 HB3 HCm
  go_upto_region 3 with (refine wpList_store_mid rfl _ _ _ rfl w3.heap.size 0 CM.toArray rfl rfl HFx.out.there HFx.out.size HFx.out.one ?_)
  change Code.wp _ _ _ _ ((w3.alloc (.cells ZC 40)).setCells w3.heap.size 0 CM)
  have HBx := Lib.hid HFx.out.bel
  have hXs := HO4.out.lt
  have hXl : w3.heap.size < ((w3.alloc (.cells ZC 40)).setCells w3.heap.size 0 CM).heap.size := HXr.out.lt_of (by rw [HCl.out]; decide)
  clear HFx
  generalize (w3.alloc (.cells ZC 40)).setCells w3.heap.size 0 CM = w4 at *
  have ho2 : O ≤ w3.heap.size := Nat.le_of_lt hOX
  have hR3 : R < w3.heap.size := by omega
  generalize w3.heap.size = X at *
  have HOk := Lib.hid (ok_any R 3 110 A L C l _ F _ w4 HR4.out)
  by_cases h0 : F = 0
  · have hd : (F == 0) = true := by simp [h0]
    have HFo := Lib.hid (Fin.mk' HCl.out HCo.out HO4.out HBx.out (show w.heap.size ≤ O by have := HOw.out; omega))
    have HOz := Lib.hid (own_grown HOx.out (grown_cells w4 O CM 0) (fun e => by have := (HOx.out.lt O e).1; omega))
    have H0 := Lib.hid (hF.symm.trans h0)
    clear hF h0
    go_wp2_with fail
    refine HOk.out.mono ?_
    rintro e w5 ⟨rfl, rfl⟩
    clear HOk
    go_wp2_with (first
      | (refine wpList_load_mid rfl _ _ rfl X 0 rfl CM _ HXr.out Try.underlying40 rfl HSz.out ?_)
      | (refine wpList_store_mid rfl _ _ _ rfl O 0 CM.toArray rfl rfl HFo.out.there HFo.out.size HFo.out.one ?_))
    refine bodyPost_ret (results_cell2 rfl _ _ O _ _ _ _ rfl HFo.out.stored Try.underlying40 rfl HFo.out.size (.int .i64 0) rfl) rfl ?_
    refine ⟨HFo.out.bel, .inr ⟨H0.out, by rw [← HQ.out]; exact H32.out, Ai, Ci, by rw [← HQ.out, HCM.out], ?_⟩⟩
    rw [← HQ.out]
    exact own_base HOz.out (by have := HOw.out; omega)
  · have hd : (F == 0) = false := by simp [h0]
    have HFz := Lib.hid (Fin.mk' cm0_len cm0_one (World.rowIs.drew HO4.out) HBx.out.drew (show w.heap.size ≤ O by have := HOw.out; omega))
    have HcF : Hid (w4.drew.cell? ⟨R, 2, none⟩ = some (.int .i64 F)) := Lib.hid HR4.out.c2
    have HcF2 : Hid ((w4.drew.setCells O 0 cm0.toArray.toList).cell? ⟨R, 2, none⟩ = some (.int .i64 F)) := Lib.hid (Rdr.laid (X := O) (by omega) cm0 0 _ (fun x hx h0 => by have := HLt.out x hx h0; omega) (HR4.out.drewN 1)).c2
    have H0 : Hid (cF7 0 l 0 L ≠ 0) := Lib.hid (fun e => h0 (hF.trans e))
    have HF := Lib.hid hF
    clear hF h0
    go_wp2_with fail
    refine HOk.out.mono ?_
    rintro e w5 ⟨rfl, rfl⟩
    clear HOk
    go_wp2_with fail
    refine wp_region_noPanic ?_
    refine wp_region_held_drew (S := (fun wS => wS.cell? ⟨R, 2, none⟩ = some (.int .i64 F))) (by kernel_rfl) ?_ (fun hHeld => ?_)
    · ((try dsimp only); exact HcF.out)
    refine wpAnyH_take (i := 0) (oi := { dst := some 17, op := Op.build 40 #[], type := 40, pos := "commit.go:58", after := #[], guard := none }) (v := ?_) rfl (by kernel_rfl) (by kernel_rfl) (by kernel_rfl) (fun _ _ _ h => h) (Or.inl ⟨by rfl, ?_⟩) (by assumption) ?_
    rotate_left 1
    · ((intro w hSw; (try dsimp only at hSw); go_simp) <;> with_reducible rfl)
    (try simp only [Act.put, List.setIfInBounds_toArray, List.set_cons_zero, List.set_cons_succ])
    refine wpAnyH_take (i := 1) (oi := { dst := some 18, op := Op.move (Operand.tmp 4), type := 108, pos := "commit.go:58", after := #[{ on := 6, ground := Ground.gcOnly Departure.lateStores }], guard := none }) (v := ?_) rfl (by kernel_rfl) (by kernel_rfl) (by kernel_rfl) (fun _ _ _ h => h) (Or.inl ⟨by rfl, ?_⟩) (by assumption) ?_
    rotate_left 1
    · ((intro w hSw; (try dsimp only at hSw); go_simp) <;> with_reducible rfl)
    (try simp only [Act.put, List.setIfInBounds_toArray, List.set_cons_zero, List.set_cons_succ])
    refine wpAnyH_take (i := 2) (oi := { dst := some 19, op := Op.nilCheck (Operand.tmp 18), type := 0, pos := "commit.go:58", after := #[{ on := 1, ground := Ground.data }, { on := 6, ground := Ground.gcOnly Departure.lateStores }], guard := none }) (v := ?_) rfl (by kernel_rfl) (by kernel_rfl) (by kernel_rfl) (fun _ _ _ h => h) (Or.inl ⟨by rfl, ?_⟩) (by assumption) ?_
    rotate_left 1
    · ((intro w hSw; (try dsimp only at hSw); go_simp) <;> with_reducible rfl)
    (try simp only [Act.put, List.setIfInBounds_toArray, List.set_cons_zero, List.set_cons_succ])
    refine wpAnyH_take (i := 3) (oi := { dst := some 20, op := Op.fieldAddr 110 (Operand.tmp 19) 0, type := 0, pos := "commit.go:58", after := #[{ on := 2, ground := Ground.data }, { on := 6, ground := Ground.gcOnly Departure.lateStores }], guard := none }) (v := ?_) rfl (by kernel_rfl) (by kernel_rfl) (by kernel_rfl) (fun _ _ _ h => h) (Or.inl ⟨by rfl, ?_⟩) (by assumption) ?_
    rotate_left 1
    · ((intro w hSw; (try dsimp only at hSw); go_simp) <;> with_reducible rfl)
    (try simp only [Act.put, List.setIfInBounds_toArray, List.set_cons_zero, List.set_cons_succ])
    refine wpAnyH_take (i := 4) (oi := { dst := some 21, op := Op.fieldAddr 94 (Operand.tmp 20) 2, type := 0, pos := "commit.go:58", after := #[{ on := 3, ground := Ground.data }, { on := 6, ground := Ground.gcOnly Departure.lateStores }], guard := none }) (v := ?_) rfl (by kernel_rfl) (by kernel_rfl) (by kernel_rfl) (fun _ _ _ h => h) (Or.inl ⟨by rfl, ?_⟩) (by assumption) ?_
    rotate_left 1
    · ((intro w hSw; (try dsimp only at hSw); go_simp) <;> with_reducible rfl)
    (try simp only [Act.put, List.setIfInBounds_toArray, List.set_cons_zero, List.set_cons_succ])
    refine wpAnyH_take (i := 5) (oi := { dst := some 22, op := Op.load 25 (Operand.tmp 21), type := 25, pos := "commit.go:58", after := #[{ on := 4, ground := Ground.data }, { on := 6, ground := Ground.gcOnly Departure.lateStores }], guard := none }) (v := ?_) rfl (by kernel_rfl) (by kernel_rfl) (by kernel_rfl) (fun _ _ _ h => h) (Or.inl ⟨by rfl, ?_⟩) (by assumption) ?_
    rotate_left 1
    · ((intro w hSw; (try dsimp only at hSw); go_simp) <;> with_reducible rfl)
    (try simp only [Act.put, List.setIfInBounds_toArray, List.set_cons_zero, List.set_cons_succ])
    refine wpAnyH_ready (rs := [6]) (by kernel_rfl) (by simp) ?_
    refine AllReadyH.cons (o := { dst := none, op := Op.store 40 (Operand.tmp 2) (Operand.tmp 17), type := 0, pos := "commit.go:58", after := #[{ on := 0, ground := Ground.data }, { on := 0, ground := Ground.phase }, { on := 1, ground := Ground.textOnly Departure.lateStores }, { on := 2, ground := Ground.textOnly Departure.lateStores }, { on := 3, ground := Ground.textOnly Departure.lateStores }, { on := 4, ground := Ground.textOnly Departure.lateStores }, { on := 5, ground := Ground.textOnly Departure.lateStores }], guard := none }) rfl (fun K hK => ?_) ?_
    · refine step_store_mid rfl _ _ _ rfl O 0 cm0.toArray rfl (show _ = _ from congrArg Value.agg HZC.out.symm) HFz.out.there HFz.out.size HFz.out.one ?_
      (try go_wp2_with fail)
      refine hK.out _ _ ?_ (fun hNew => ?_)
      · ((try dsimp only); exact HcF2.out)
      clear hK K hHeld
      have hHeld := hNew
      clear hNew
      (try simp only [Act.put, List.setIfInBounds_toArray, List.set_cons_zero, List.set_cons_succ])
      refine wpAnyH_take (i := 7) (oi := { dst := some 3, op := Op.assign (Operand.tmp 22), type := 25, pos := "commit.go:58", after := #[{ on := 5, ground := Ground.data }, { on := 6, ground := Ground.chain }, { on := 0, ground := Ground.phase }, { on := 1, ground := Ground.phase }, { on := 2, ground := Ground.phase }, { on := 3, ground := Ground.phase }, { on := 4, ground := Ground.phase }, { on := 5, ground := Ground.phase }, { on := 6, ground := Ground.phase }], guard := none }) (v := ?_) rfl (by kernel_rfl) (by kernel_rfl) (by kernel_rfl) (fun _ _ _ h => h) (Or.inl ⟨by rfl, ?_⟩) (by assumption) ?_
      rotate_left 1
      · ((intro w hSw; (try dsimp only at hSw); go_simp) <;> with_reducible rfl)
      (try simp only [Act.put, List.setIfInBounds_toArray, List.set_cons_zero, List.set_cons_succ])
      refine wpAnyH_done (by kernel_rfl) ?_ _
      refine NoPanic.normal ?_
      clear hHeld
      go_wp2_with fail
      refine bodyPost_ret (results_cell2 rfl _ _ O _ _ _ _ rfl HFz.out.stored Try.underlying40 rfl HFz.out.size (.int .i64 F) rfl) rfl ?_
      exact ⟨HFz.out.bel, .inl ⟨H0.out, by rw [HF.out]⟩⟩
    exact AllReadyH.nil
end Go.Proofs.Ytmcmapgllaopmaa.Cd
end

section
/- check and EncodeObj at any object. -/
namespace Go.Proofs.Ytmcmapgllaopmaa.Cd
open Go.RowKit
set_option linter.unusedVariables false

/-- why an object may not be, and its letter -/
def ckE (k : Int) (l : List Int) (L : Nat) : Int := if k = 1 then (if 65536 < L then 5 else 0) else if k = 2 then (pT l L (L + 1) 0 []).1 else if k = 3 then cF7 0 l 0 L else 3
def ckL (k : Int) (l : List Int) (L : Nat) : Int := if k = 1 then (if 65536 < L then 0 else 98) else if k = 2 then 116 else if k = 3 then 99 else 0

theorem ret2 {a b c d : Value} (h : a = c) (h' : b = d) : Ending.returned (.tuple #[a, b]) = .returned (.tuple #[c, d]) := by rw [h, h']

set_option maxRecDepth 100000 in
set_option maxHeartbeats 1000000 in
theorem ck_any (k : Int) (A : Option Addr) (L C : Nat) (l : List Int) (w : World) (h : RdB w A L C l) :
    Calls Try.prog 57 #[.agg #[.int .i64 k, .slice A L C]] w fun e w' => e = .returned (.tuple #[.int .u8 (ckL k l L), .int .i64 (ckE k l L)]) ∧ Below w.heap.size w w' := by
  have hB0 := (Below.refl w.heap.size w).alloc (Nat.le_refl _) (.cells #[.int .i64 k, .slice A L C] 50)
  have HRd := Lib.hid (h.below hB0)
  have HB0 := Lib.hid hB0
  have hs := al_lt w (.cells #[.int .i64 k, .slice A L C] 50)
  have hc0 := al_cell w #[.int .i64 k, .slice A L C] 50 0 _ rfl
  have hc1 := al_cell w #[.int .i64 k, .slice A L C] 50 1 _ rfl
  have hcap := h.cap
  have hmax := h.max
  have hbig := h.big
  clear h hB0
  by_cases h1 : k = 1
  · subst h1
    by_cases h2 : 65536 < L
    · have HE : Hid (ckE 1 l L = 5 ∧ ckL 1 l L = 0) := Lib.hid ⟨by unfold ckE; rw [if_pos rfl, if_pos h2], by unfold ckL; rw [if_pos rfl, if_pos h2]⟩
      have hd : decide ((65536 : Int) < (L : Int)) = true := by simp; omega
      go_enter Try.func57, Try.ntmps57
      go_wp2_with fail
      go_ret2
      rw [HE.out.1, HE.out.2]
      exact ⟨rfl, HB0.out⟩
    · have HE : Hid (ckE 1 l L = 0 ∧ ckL 1 l L = 98) := Lib.hid ⟨by unfold ckE; rw [if_pos rfl, if_neg h2], by unfold ckL; rw [if_pos rfl, if_neg h2]⟩
      have hd : decide ((65536 : Int) < (L : Int)) = false := by simp; omega
      go_enter Try.func57, Try.ntmps57
      go_wp2_with fail
      go_ret2
      rw [HE.out.1, HE.out.2]
      exact ⟨rfl, HB0.out⟩
  · by_cases h2 : k = 2
    · subst h2
      have HE : Hid (ckE 2 l L = (pT l L (L + 1) 0 []).1 ∧ ckL 2 l L = 116) := Lib.hid ⟨rfl, rfl⟩
      have HP := Lib.hid (parseTree_any A L C l _ HRd.out)
      go_enter Try.func57, Try.ntmps57
      go_wp2_with fail
      refine HP.out.mono ?_
      rintro e w1 ⟨hb, hr⟩
      have HB1 := Lib.hid (HB0.out.trans (hb.mono (Nat.le_of_lt hs)))
      rcases hr with ⟨-, rfl⟩ | ⟨hp, -, Ae, Ce, rfl, -⟩
      · clear hb HP
        go_wp2_with fail
        go_ret2
        rw [HE.out.1, HE.out.2]
        exact ⟨rfl, HB1.out⟩
      · have HP0 := Lib.hid hp
        clear hb HP hp
        go_wp2_with fail
        go_ret2
        rw [HE.out.1, HE.out.2, HP0.out]
        exact ⟨rfl, HB1.out⟩
    · by_cases h3 : k = 3
      · subst h3
        have HE : Hid (ckE 3 l L = cF7 0 l 0 L ∧ ckL 3 l L = 99) := Lib.hid ⟨rfl, rfl⟩
        have HP := Lib.hid (parseCommit_any A L C l _ HRd.out)
        have hz : ∀ w : World, (zeroValue 40).run Try.prog w = .ok (.agg cm0.toArray) w := zeroCm
        have HZl : Hid (cm0.toArray.size = 36) := Lib.hid (by rw [List.size_toArray, cm0_len])
        generalize hZC : cm0.toArray = ZC at *
        have HZC := Lib.hid hZC
        clear hZC
        go_enter Try.func57, Try.ntmps57
        go_wp2_with fail
        refine HP.out.mono ?_
        rintro e w1 ⟨hb, hr⟩
        have HB1 := Lib.hid (HB0.out.trans (hb.mono (Nat.le_of_lt hs)))
        have hs1 : w.heap.size ≤ w1.heap.size := HB1.out.size
        have hxr := row_new w1 ZC 40
        rw [HZl.out] at hxr
        have hb4 := HB1.out.alloc hs1 (.cells ZC 40)
        rcases hr with ⟨-, rfl⟩ | ⟨hp, -, Ai, Ci, rfl, -⟩
        · have HFx := Lib.hid (Fin.mk' cm0_len cm0_one hxr hb4 hs1)
          clear hb HP hxr hb4
          go_wp2_with (refine wpList_store_mid rfl _ _ _ rfl w1.heap.size 0 cm0.toArray rfl rfl HFx.out.there HFx.out.size HFx.out.one ?_)
          go_ret2
          rw [HE.out.1, HE.out.2]
          exact ⟨rfl, HFx.out.bel⟩
        · have hcl : (cm (cT 0 l 0 L) (.slice Ai (cQ 0 l 0 L).2.2.length Ci) (cAu 0 l 0 L) (tv (cB 0 l 0 L)) (cMs 0 l 0 L)).length = 36 := cm_len _ _ _ _ _ (by
            unfold cT
            refine idv_len _ ?_
            unfold tkL
            split
            · rw [List.length_take]; omega
            · simp)
          have hco := cm_one (cT 0 l 0 L) (.slice Ai (cQ 0 l 0 L).2.2.length Ci) (cAu 0 l 0 L) (tv (cB 0 l 0 L)) (cMs 0 l 0 L) rfl
          generalize hCM : cm (cT 0 l 0 L) (.slice Ai (cQ 0 l 0 L).2.2.length Ci) (cAu 0 l 0 L) (tv (cB 0 l 0 L)) (cMs 0 l 0 L) = CM at *
          have HFx := Lib.hid (Fin.mk' hcl hco hxr hb4 hs1)
          have HP0 := Lib.hid hp
          clear hb HP hxr hb4 hCM hp hcl hco
          go_wp2_with (refine wpList_store_mid rfl _ _ _ rfl w1.heap.size 0 CM.toArray rfl rfl HFx.out.there HFx.out.size HFx.out.one ?_)
          go_ret2
          rw [HE.out.1, HE.out.2, HP0.out]
          exact ⟨rfl, HFx.out.bel⟩
      · have HE : Hid (ckE k l L = 3 ∧ ckL k l L = 0) := Lib.hid ⟨by unfold ckE; rw [if_neg h1, if_neg h2, if_neg h3], by unfold ckL; rw [if_neg h1, if_neg h2, if_neg h3]⟩
        have d1 : (k == 1) = false := by simp [h1]
        have d2 : (k == 2) = false := by simp [h2]
        have d3 : (k == 3) = false := by simp [h3]
        clear h1 h2 h3
        go_enter Try.func57, Try.ntmps57
        go_wp2_with fail
        go_ret2
        rw [HE.out.1, HE.out.2]
        exact ⟨rfl, HB0.out⟩

/-- what EncodeObj hands back -/
def EoRet (k : Int) (l : List Int) (L : Nat) (w : World) (e : Ending) (w' : World) : Prop :=
  Below w.heap.size w w' ∧
  ((ckE k l L ≠ 0 ∧ e = .returned (.tuple #[.slice none 0 0, .int .i64 (ckE k l L)])) ∨
   (ckE k l L = 0 ∧ ∃ A' C', e = .returned (.tuple #[.slice A' (5 + L) C', .int .i64 0]) ∧ w'.ownsRow w.heap.size 5 1 (.slice A' (5 + L) C') (5 + L) (bv (ckL k l L :: be 4 (L : Int) ++ l))))

theorem ckL_byte (k : Int) (l : List Int) (L : Nat) : 0 ≤ ckL k l L ∧ ckL k l L ≤ 255 := by
  unfold ckL
  split
  · split <;> omega
  · split
    · omega
    · split <;> omega

set_option maxRecDepth 100000 in
set_option maxHeartbeats 1000000 in
theorem encodeObj_any (k : Int) (A : Option Addr) (L C : Nat) (l : List Int) (w : World) (h : RdB w A L C l) (hL : L ≤ 140737488000000) :
    Calls Try.prog 22 #[.agg #[.int .i64 k, .slice A L C]] w (EoRet k l L w) := by
  have hB0 := (Below.refl w.heap.size w).alloc (Nat.le_refl _) (.cells #[.int .i64 k, .slice A L C] 50)
  have HRd := Lib.hid (h.below hB0)
  have HCk := Lib.hid (ck_any k A L C l _ (h.below hB0))
  have HB0 := Lib.hid hB0
  have hs := al_lt w (.cells #[.int .i64 k, .slice A L C] 50)
  have hc1 := al_cell w #[.int .i64 k, .slice A L C] 50 1 _ rfl
  have hcap := h.cap
  have hmax := h.max
  have hby := ckL_byte k l L
  have hb0 := hby.1
  have hb1 := hby.2
  clear h hB0 hby
  obtain ⟨E, hE⟩ : ∃ E, E = ckE k l L := ⟨_, rfl⟩
  obtain ⟨T, hT⟩ : ∃ T, T = ckL k l L := ⟨_, rfl⟩
  rw [← hT] at hb0 hb1
  rw [← hE, ← hT] at HCk
  have HE := Lib.hid hE
  have HT := Lib.hid hT
  clear hE hT
  have h0c := al_cell w #[.int .i64 k, .slice A L C] 50 0 _ rfl
  go_enter Try.func22, Try.ntmps22
  go_wp2_with fail
  refine HCk.out.mono ?_
  rintro e w1 ⟨rfl, hb⟩
  have HB1 := Lib.hid (HB0.out.trans (hb.mono (Nat.le_of_lt hs)))
  have HRd1 := Lib.hid (HRd.out.below hb)
  have hc1' : w1.cell? ⟨w.heap.size, 1, none⟩ = some (.slice A L C) := (hb.cell (p := ⟨w.heap.size, 1, none⟩) hs).trans hc1
  have hs1 : w.heap.size < w1.heap.size := Nat.lt_of_lt_of_le hs hb.size
  clear hb HCk HRd hc1 h0c HB0 hs
  by_cases h0 : E = 0
  · have hd : (E != 0) = false := by simp [h0]
    have hca : ∀ o, (w1.alloc o).cell? ⟨w.heap.size, 1, none⟩ = some (.slice A L C) := al_keep hc1'
    have H0 := Lib.hid (HE.out.symm.trans h0)
    clear h0
    go_wp2_with fail
    refine (number_any w1.heap.size _ 1 (bv [T]) L 4 _ (al_le w1 _) (own_lit w1 [T] (by unfold maxLen; simp)) (by omega) (by omega) (by omega) (by omega)).mono ?_
    rintro e w2 ⟨v2, rfl, ho, hb2⟩
    have hb3 := ((Below.refl w1.heap.size w1).alloc (Nat.le_refl _) (.cells (bv [T]).toArray 5)).trans hb2
    have HB2 := Lib.hid (HB1.out.trans (hb3.mono (Nat.le_of_lt hs1)))
    have HRd2 := Lib.hid (HRd1.out.below hb3)
    have hc3 : w2.cell? ⟨w.heap.size, 1, none⟩ = some (.slice A L C) := (hb3.cell (p := ⟨w.heap.size, 1, none⟩) hs1).trans hc1'
    have HO : Hid (w2.ownsRow w1.heap.size 5 1 v2 5 (bv (T :: be 4 (L : Int)))) := Lib.hid (by
      rw [show bv (T :: be 4 (L : Int)) = bv [T] ++ bv (be 4 (L : Int)) by simp [bv]]; exact ho)
    have hs2 : w1.heap.size ≤ w2.heap.size := hb3.size
    obtain ⟨A2, C2, rfl⟩ := own_slice' HO.out
    clear hb2 hb3 ho hca hc1' HRd1 HB1
    go_wp2_with (refine wpList_append_rd w2 rfl _ _ rfl w1.heap.size (.slice A2 5 C2) 5 (T :: be 4 (L : Int)) rfl HO.out A L C l rfl HRd2.out (by omega) hs2 ?_)
    intro A' C' w3 ho hb
    have HO3 := Lib.hid ho
    have HB3 := Lib.hid (HB2.out.trans (hb.mono (Nat.le_of_lt hs1)))
    clear ho hb
    go_wp2_with fail
    go_ret2
    refine ⟨HB3.out, .inr ⟨H0.out, A', C', rfl, ?_⟩⟩
    rw [← HT.out]
    exact own_base HO3.out (Nat.le_of_lt hs1)
  · have hd : (E != 0) = true := by simp [h0]
    have H0 : Hid (ckE k l L ≠ 0) := Lib.hid (fun e => h0 (HE.out.trans e))
    clear h0
    go_wp2_with fail
    go_ret2
    exact ⟨HB1.out, .inl ⟨H0.out, by rw [← HE.out]; rfl⟩⟩
end Go.Proofs.Ytmcmapgllaopmaa.Cd
end

section
/- The document's place in bytes: numbers. -/
namespace Go.Proofs.Ytmcmapgllaopmaa.Cd
open Go.RowKit
set_option linter.unusedVariables false

/-- the place's cells -/
def cuF (A : Option Addr) (L C p : Nat) (cut : Bool) : Nat → Value
  | 0 => .slice A L C
  | 1 => .int .i64 (p : Int)
  | 2 => .bool cut
  | _ => undef
structure Cu (w : World) (R : Nat) (A : Option Addr) (L C : Nat) (l : List Int) (p : Nat) (cut : Bool) : Prop where
  row : w.rowIs R 99 3 (cuF A L C p cut)
  rd : RdB w A L C l
  apart : ∀ x, A = some x → 0 < L → x.block ≠ R
  le : p ≤ L

theorem Cu.c0 {w : World} {R : Nat} {A : Option Addr} {L C : Nat} {l : List Int} {p : Nat} {cut : Bool} (h : Cu w R A L C l p cut) : w.cell? ⟨R, 0, none⟩ = some (.slice A L C) := h.row.cell (by omega)
theorem Cu.c1 {w : World} {R : Nat} {A : Option Addr} {L C : Nat} {l : List Int} {p : Nat} {cut : Bool} (h : Cu w R A L C l p cut) : w.cell? ⟨R, 1, none⟩ = some (.int .i64 (p : Int)) := h.row.cell (by omega)
theorem Cu.c2 {w : World} {R : Nat} {A : Option Addr} {L C : Nat} {l : List Int} {p : Nat} {cut : Bool} (h : Cu w R A L C l p cut) : w.cell? ⟨R, 2, none⟩ = some (.bool cut) := h.row.cell (by omega)
theorem Cu.setP {w : World} {R : Nat} {A : Option Addr} {L C : Nat} {l : List Int} {p : Nat} {cut : Bool} (h : Cu w R A L C l p cut) (q : Nat) (hq : q ≤ L) : Cu (w.setCell ⟨R, 1, none⟩ (.int .i64 (q : Int))) R A L C l q cut :=
  ⟨(h.row.set 1 _).congr (fun j _ => by
    match j with
    | 0 => rfl
    | 1 => rfl
    | 2 => rfl
    | j + 3 => rfl), h.rd.grown (grown_set w R 1 _) h.apart, h.apart, hq⟩
theorem Cu.setC {w : World} {R : Nat} {A : Option Addr} {L C : Nat} {l : List Int} {p : Nat} {cut : Bool} (h : Cu w R A L C l p cut) (c : Bool) : Cu (w.setCell ⟨R, 2, none⟩ (.bool c)) R A L C l p c :=
  ⟨(h.row.set 2 _).congr (fun j _ => by
    match j with
    | 0 => rfl
    | 1 => rfl
    | 2 => rfl
    | j + 3 => rfl), h.rd.grown (grown_set w R 2 _) h.apart, h.apart, h.le⟩
theorem Cu.drewN {w : World} {R : Nat} {A : Option Addr} {L C : Nat} {l : List Int} {p : Nat} {cut : Bool} (h : Cu w R A L C l p cut) (n : Nat) : Cu (w.drewN n) R A L C l p cut :=
  ⟨h.row, ⟨h.rd.len, h.rd.cap, h.rd.max, h.rd.big, h.rd.none, h.rd.byte, h.rd.cell⟩, h.apart, h.le⟩
theorem Cu.below {w w' : World} {R : Nat} {A : Option Addr} {L C : Nat} {l : List Int} {p : Nat} {cut : Bool} (h : Cu w R A L C l p cut) (hb : Below w.heap.size w w') : Cu w' R A L C l p cut :=
  ⟨h.row.of_block (hb.block R h.row.lt), h.rd.below hb, h.apart, h.le⟩

/-- what is behind a piece of n bytes -/
def cuC (cut : Bool) (p n L : Nat) : Bool := cut || decide (L - p < n)
def cuP (cut : Bool) (p n L : Nat) : Nat := if cuC cut p n L = true then p else p + n
def cuB (cut : Bool) (l : List Int) (p n L : Nat) : List Int := if cuC cut p n L = true then [] else (l.drop p).take n
theorem cu_yes {cut : Bool} {p n L : Nat} (h : cuC cut p n L = true) (l : List Int) : cuP cut p n L = p ∧ cuB cut l p n L = [] := ⟨by unfold cuP; rw [if_pos h], by unfold cuB; rw [if_pos h]⟩
theorem cu_no {cut : Bool} {p n L : Nat} (h : cuC cut p n L = false) (l : List Int) : cuP cut p n L = p + n ∧ cuB cut l p n L = (l.drop p).take n := ⟨by unfold cuP; rw [if_neg (by rw [h]; decide)], by unfold cuB; rw [if_neg (by rw [h]; decide)]⟩

set_option maxHeartbeats 1000000 in
theorem get_any (A : Option Addr) (L C : Nat) (l : List Int) (p n : Nat) (w : World) (h : RdB w A L C l) (hn : p + n ≤ L) :
    Calls Try.prog 66 #[.slice A L C, .int .i64 p, .int .i64 n] w fun e w' => e = .returned (.int .i64 (tv ((l.drop p).take n))) ∧ w' = w := by
  have HRd := Lib.hid h
  have hbig := h.big
  have hcap := h.cap
  have hmax := h.max
  have HL := Lib.hid h.len
  clear h
  go_enter Try.func66, Try.ntmps66
  go_wp2
  go_loop [7, 8] (fun s7 s8 => ∃ k : Nat, s7 = .int .i64 (tv (((l.drop p).take n).take k)) ∧ s8 = .int .i64 k ∧ k ≤ n) (fun _ s8 => n - (intOf s8).toNat)
  case atStart => exact ⟨0, rfl, rfl, Nat.zero_le _⟩
  case round =>
    obtain ⟨k, rfl, rfl, hk⟩ := hrel
    by_cases hlt : k < n
    · obtain ⟨g, o, rfl, hgl, hcc⟩ := HRd.out.at (by omega)
      obtain ⟨q, hq⟩ : ∃ q, q = p + k := ⟨_, rfl⟩
      have hc : w.cell? ⟨g, o + q, none⟩ = some (.int .u8 (l.getD q 0)) := hcc q (by omega)
      have hb := HRd.out.byte q (by omega)
      have hb0 := hb.1
      have hb1 := hb.2
      have hll := HL.out
      have hst := tv_step ((l.drop p).take n) k (by rw [List.length_take, List.length_drop]; omega)
      have hgd : ((l.drop p).take n).getD k 0 = l.getD q 0 := by rw [hq]; simp [List.getD, hlt]
      rw [hgd] at hst
      have HSt := Lib.hid hst
      have hqe : (p : Int) + (k : Int) = (q : Int) := by omega
      have hkl : decide ((k : Int) < (n : Int)) = true := by simp; omega
      have z0 : (0 : Int) ≤ (q : Int) := by omega
      have z1 : (q : Int) < (L : Int) := by omega
      have z2 : IntKind.i64.wrap (q : Int) = (q : Int) := IntWalk.i64_in _ (by omega)
      clear hcc hb hst hgd hq hll
      generalize tv (((l.drop p).take n).take k) = Y at *
      generalize l.getD q 0 = c at *
      go_wp2_with fail
      go_round
      case rel => exact ⟨k + 1, by rw [HSt.out], by go_num, by omega⟩
      case measure => simp [intOf]; omega
    · have hX : tv (((l.drop p).take n).take k) = tv ((l.drop p).take n) := by rw [List.take_of_length_le (by rw [List.length_take]; omega)]
      have HX := Lib.hid hX
      have hd : decide ((k : Int) < (n : Int)) = false := by simp; omega
      clear hX
      generalize tv (((l.drop p).take n).take k) = X at *
      go_wp2_with fail
      go_ret
      exact ⟨ret_int HX.out, rfl⟩

/-- the number told, and the place behind -/
def CnRet (R : Nat) (A : Option Addr) (L C : Nat) (l : List Int) (p : Nat) (cut : Bool) (n : Nat) (w : World) (e : Ending) (w' : World) : Prop :=
  e = .returned (.int .i64 (tv (cuB cut l p n L))) ∧ Cu w' R A L C l (cuP cut p n L) (cuC cut p n L) ∧ w.grownBy w' (some R)
theorem grown_drewN (w : World) (R n : Nat) : w.grownBy (w.drewN n) (some R) := ⟨rfl, rfl, rfl, Nat.le_refl _, fun _ _ _ => rfl⟩
theorem grown_setN (w : World) (R n i : Nat) (v : Value) : w.grownBy ((w.drewN n).setCell ⟨R, i, none⟩ v) (some R) := grown_trans (grown_drewN w R n) (grown_set _ R i v)

set_option maxHeartbeats 1000000 in
theorem cnum_r (R : Nat) (A : Option Addr) (L C : Nat) (l : List Int) (p : Nat) (cut : Bool) (n : Nat) (w : World) (h : Cu w R A L C l p cut) (hn : n ≤ 100000) :
    Calls Try.prog 47 #[.pointer (some ⟨R, 0, none⟩), .int .i64 n] w (CnRet R A L C l p cut n w) := by
  have H := Lib.hid h
  have hle := h.le
  have hbig := h.rd.big
  have hcap := h.rd.cap
  have hmax := h.rd.max
  have hc0 := h.c0
  have hc1 := h.c1
  have hc2 := h.c2
  have hf2 : w.frozen? ⟨R, 2, none⟩ = false := h.row.frozen 2
  have hf1 : w.frozen? ⟨R, 1, none⟩ = false := h.row.frozen 1
  clear h
  cases cut with
  | true =>
    have HC : Hid (cuC true p n L = true) := Lib.hid rfl
    have HS := Lib.hid (fun k => (H.out.drewN k).setC true)
    go_enter Try.func47, Try.ntmps47
    go_wp2
    go_quiet (fail)
    go_wp2
    go_ret
    refine ⟨ret_int ?_, ?_, grown_setN w R _ 2 _⟩
    · rw [(cu_yes HC.out l).2]; rfl
    · rw [(cu_yes HC.out l).1, HC.out]; exact HS.out _
  | false =>
    by_cases hlt : L - p < n
    · have HC : Hid (cuC false p n L = true) := Lib.hid (by unfold cuC; simp [hlt])
      have hd : decide ((L : Int) - (p : Int) < (n : Int)) = true := by simp; omega
      have HS := Lib.hid (fun k => (H.out.drewN k).setC true)
      go_enter Try.func47, Try.ntmps47
      go_wp2
      go_quiet (fail)
      go_wp2
      go_ret
      refine ⟨ret_int ?_, ?_, grown_setN w R _ 2 _⟩
      · rw [(cu_yes HC.out l).2]; rfl
      · rw [(cu_yes HC.out l).1, HC.out]; exact HS.out _
    · have HC : Hid (cuC false p n L = false) := Lib.hid (by unfold cuC; simp [hlt])
      have hd : decide ((L : Int) - (p : Int) < (n : Int)) = false := by simp; omega
      obtain ⟨q, hq⟩ : ∃ q, q = p + n := ⟨_, rfl⟩
      have hqe : (p : Int) + (n : Int) = (q : Int) := by omega
      have HQ := Lib.hid hq
      generalize hV : tv ((l.drop p).take n) = V at *
      have HV := Lib.hid hV
      clear hV hq
      go_enter Try.func47, Try.ntmps47
      go_wp2
      go_quiet (fail)
      go_wp2_with fail
      have HS0 := Lib.hid (H.out.drewN nq)
      have HG0 := Lib.hid (grown_drewN w R nq)
      clear H hc0 hc1 hc2 hf1 hf2
      generalize w.drewN nq = w1 at *
      have HS := Lib.hid (fun k => (HS0.out.drewN k).setP q (by have := HQ.out; omega))
      have HG := Lib.hid (fun k => get_any A L C l p n (w1.drewN k) (HS0.out.drewN k).rd (by omega))
      rw [HV.out] at HG
      have hc0 := HS0.out.c0
      have hc1 := HS0.out.c1
      have hf1 : w1.frozen? ⟨R, 1, none⟩ = false := HS0.out.row.frozen 1
      go_quiet ((go_at_call 66; with_reducible exact Calls.quiet_of_same (HG.out _)))
      go_wp2_with fail
      go_ret
      refine ⟨ret_int ?_, ?_, grown_trans HG0.out (grown_setN _ R _ 1 _)⟩
      · rw [(cu_no HC.out l).2, HV.out]
      · rw [(cu_no HC.out l).1, HC.out, ← HQ.out]; exact HS.out _
end Go.Proofs.Ytmcmapgllaopmaa.Cd
end
