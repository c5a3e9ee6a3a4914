/- commitReader.commit. -/
import Derived.Test.YtmcmapgllaopmaaCdParents
namespace Go.Proofs.Ytmcmapgllaopmaa.Cd
open Go.RowKit
set_option linter.unusedVariables false

def cm (tree : List Int) (ps : Value) (au : ByteArray) (tm : Int) (ms : ByteArray) : List Value := bv tree ++ [ps, .string au, .int .i64 tm, .string ms]
/-- the commit's cells, by their index -/
def cmF (tr : List Int) (ps : Value) (au : ByteArray) (tm : Int) (ms : ByteArray) : Nat → Value := fun j => if j = 32 then ps else if j = 33 then .string au else if j = 34 then .int .i64 tm else if j = 35 then .string ms else .int .u8 (tr.getD j 0)
theorem cmF_start (ZC : Array Value) (h34 : ZC.getD 34 undef = .int .i64 0) (h35 : ZC.getD 35 undef = .string ByteArray.empty) (tr : List Int) (hl : tr.length = 32) (ps : Value) (au : ByteArray) (j : Nat) (hj : j < 36) :
    (if j = 33 then Value.string au else if j = 32 then ps else layF (fun i => ZC.getD i undef) 0 (bv tr) j) = cmF tr ps au 0 ByteArray.empty j := by
  unfold cmF
  by_cases e2 : j = 32
  · subst e2; simp
  · by_cases e3 : j = 33
    · subst e3; simp
    · rw [if_neg e3, if_neg e2, if_neg e2, if_neg e3, layF, bv_len]
      by_cases e4 : j = 34
      · subst e4; rw [if_neg (by omega)]; simpa using h34
      · by_cases e5 : j = 35
        · subst e5; rw [if_neg (by omega)]; simpa using h35
        · rw [if_pos (by omega), if_neg e4, if_neg e5, Nat.sub_zero]
          simp [bv, List.getD, show j < tr.length by omega]
theorem cmF_time (tr : List Int) (ps : Value) (au : ByteArray) (tm tm' : Int) (ms : ByteArray) (j : Nat) : (if j = 34 then Value.int .i64 tm' else cmF tr ps au tm ms j) = cmF tr ps au tm' ms j := by
  unfold cmF
  by_cases e : j = 34
  · subst e; simp
  · simp [e]
theorem cmF_msg (tr : List Int) (ps : Value) (au : ByteArray) (tm : Int) (ms ms' : ByteArray) (j : Nat) : (if j = 35 then Value.string ms' else cmF tr ps au tm ms j) = cmF tr ps au tm ms' j := by
  unfold cmF
  by_cases e : j = 35
  · subst e; simp
  · simp [e]
theorem cm_len (tr : List Int) (ps : Value) (au : ByteArray) (tm : Int) (ms : ByteArray) (hl : tr.length = 32) : (cm tr ps au tm ms).length = 36 := by simp [cm, bv_len, hl]
theorem cm_get (tr : List Int) (ps : Value) (au : ByteArray) (tm : Int) (ms : ByteArray) (hl : tr.length = 32) (j : Nat) (hj : j < 36) : (cm tr ps au tm ms)[j]? = some (cmF tr ps au tm ms j) := by
  unfold cm cmF
  by_cases h : j < 32
  · rw [List.getElem?_append_left (by rw [bv_len]; omega), if_neg (by omega), if_neg (by omega), if_neg (by omega), if_neg (by omega)]
    simp [bv, List.getD, show j < tr.length by omega]
  · rw [List.getElem?_append_right (by rw [bv_len]; omega), bv_len, hl]
    rcases (show j = 32 ∨ j = 33 ∨ j = 34 ∨ j = 35 by omega) with rfl | rfl | rfl | rfl <;> rfl
theorem cm_one (tr : List Int) (ps : Value) (au : ByteArray) (tm : Int) (ms : ByteArray) (hp : ps.oneCell' = true) : ∀ v ∈ cm tr ps au tm ms, v.oneCell' = true := by
  intro v hv
  unfold cm at hv
  rcases List.mem_append.1 hv with h | h
  · exact bv_one _ v h
  · simp only [List.mem_cons, List.not_mem_nil, or_false] at h
    rcases h with rfl | rfl | rfl | rfl
    · exact hp
    · rfl
    · rfl
    · rfl

/-- a time out of bytes -/
def tv (l : List Int) : Int := l.foldl (fun x c => bits .or .i64 (wrap64 (x * 256)) c) 0
theorem tv_step (l : List Int) (k : Nat) (h : k < l.length) : tv (l.take (k + 1)) = bits .or .i64 (wrap64 (tv (l.take k) * 256)) (l.getD k 0) := by
  unfold tv
  rw [List.take_succ_eq_append_getElem h, List.foldl_append]
  simp only [List.foldl_cons, List.foldl_nil, List.getD, List.getElem?_eq_getElem h, Option.getD_some]

/-- what the bytes of a commit say, one behind the other -/
def cT (f : Int) (l : List Int) (a L : Nat) : List Int := idv (tkL f l a L 32)
def cF2 (f : Int) (l : List Int) (a L : Nat) : Int := if cT f l a L = List.replicate 32 0 then fl (tkF f a L 32) 1 else tkF f a L 32
def cQ (f : Int) (l : List Int) (a L : Nat) : Int × Nat × List (List Int) := pa (cF2 f l a L) l (tkA f a L 32) L
def cAu (f : Int) (l : List Int) (a L : Nat) : ByteArray := txS (cQ f l a L).1 l (cQ f l a L).2.1 L 2 1000
def cA4 (f : Int) (l : List Int) (a L : Nat) : Nat := txA (cQ f l a L).1 l (cQ f l a L).2.1 L 2 1000
def cF4 (f : Int) (l : List Int) (a L : Nat) : Int := txF (cQ f l a L).1 l (cQ f l a L).2.1 L 2 1000
def cB (f : Int) (l : List Int) (a L : Nat) : List Int := tkL (cF4 f l a L) l (cA4 f l a L) L 8
def cA5 (f : Int) (l : List Int) (a L : Nat) : Nat := tkA (cF4 f l a L) (cA4 f l a L) L 8
def cF5 (f : Int) (l : List Int) (a L : Nat) : Int := tkF (cF4 f l a L) (cA4 f l a L) L 8
def cMs (f : Int) (l : List Int) (a L : Nat) : ByteArray := txS (cF5 f l a L) l (cA5 f l a L) L 2 1000
def cA6 (f : Int) (l : List Int) (a L : Nat) : Nat := txA (cF5 f l a L) l (cA5 f l a L) L 2 1000
def cF6 (f : Int) (l : List Int) (a L : Nat) : Int := txF (cF5 f l a L) l (cA5 f l a L) L 2 1000
def cF7 (f : Int) (l : List Int) (a L : Nat) : Int := enF (cF6 f l a L) (cA6 f l a L) L

/-- the commit told, and the reader behind -/
def CmRet (R : Nat) (A : Option Addr) (L C : Nat) (l : List Int) (at' : Nat) (f : Int) (E : Nat → Value) (w : World) (e : Ending) (w' : World) : Prop :=
  (∀ x ∈ (cQ f l at' L).2.2, x.length = 32) ∧ Rdr w' R 3 110 A L C l (cA6 f l at' L) (cF7 f l at' L) E ∧ w.grownBy w' (some R) ∧
  ∃ Ai Ci, e = .returned (.agg (cm (cT f l at' L) (.slice Ai (cQ f l at' L).2.2.length Ci) (cAu f l at' L) (tv (cB f l at' L)) (cMs f l at' L)).toArray) ∧ w'.ownsRow w.heap.size 37 32 (.slice Ai (cQ f l at' L).2.2.length Ci) (cQ f l at' L).2.2.length (idsV (cQ f l at' L).2.2)

set_option maxRecDepth 100000 in
theorem zeroCm (w : World) : (zeroValue 40).run Try.prog w = .ok (.agg (cm (List.replicate 32 0) (.slice none 0 0) ByteArray.empty 0 ByteArray.empty).toArray) w := by rfl

set_option maxRecDepth 100000 in
set_option maxHeartbeats 4000000 in
theorem commit_r (R : Nat) (A : Option Addr) (L C : Nat) (l : List Int) (at' : Nat) (f0 : Int) (E : Nat → Value) (w : World) (h : Rdr w R 3 110 A L C l at' f0 E) :
    Calls Try.prog 54 #[.pointer (some ⟨R, 0, none⟩)] w (CmRet R A L C l at' f0 E w) := by
  have hz := zeroCm
  have hZl : (cm (List.replicate 32 0) (.slice none 0 0) ByteArray.empty 0 ByteArray.empty).toArray.size = 36 := by simp [cm, bv]
  have HZ34 : Hid ((cm (List.replicate 32 0) (.slice none 0 0) ByteArray.empty 0 ByteArray.empty).toArray.getD 34 undef = .int .i64 0) := Lib.hid rfl
  have HZ35 : Hid ((cm (List.replicate 32 0) (.slice none 0 0) ByteArray.empty 0 ByteArray.empty).toArray.getD 35 undef = .string ByteArray.empty) := Lib.hid rfl
  generalize (cm (List.replicate 32 0) (.slice none 0 0) ByteArray.empty 0 ByteArray.empty).toArray = ZC at *
  have HZl := Lib.hid hZl
  have HR0 := Lib.hid h
  clear hZl h
  go_enter Try.func54, Try.ntmps54
  go_upto_region 2 with (fail)
  have hX1 : (w.alloc (.cells ZC 40)).heap.size = w.heap.size + 1 := by show (w.heap.push _).size = _; simp
  have hb1 := (Below.refl w.heap.size w).alloc (Nat.le_refl _) (.cells ZC 40)
  have hb2 := hb1.alloc (Nat.le_of_lt (al_lt w _)) (.cells ZC 40)
  have hro := row_new w ZC 40
  have hrx := row_new (w.alloc (.cells ZC 40)) ZC 40
  rw [HZl.out] at hro hrx
  have HO := Lib.hid (World.rowIs.alloc hro (.cells ZC 40))
  have HX := Lib.hid hrx
  have HR := Lib.hid (HR0.out.below hb2)
  have HG : Hid (w.grownBy ((w.alloc (.cells ZC 40)).alloc (.cells ZC 40)) (some R)) := Lib.hid ⟨hb2.os, hb2.tape, hb2.output, hb2.size, fun i hi _ => hb2.block i hi⟩
  have hRl := HR0.out.row.lt
  have HAB : Hid (∀ x, A = some x → 0 < L → x.block < w.heap.size) := Lib.hid (fun x hx h0 => (HR0.out.rd.cell x hx).1 h0)
  clear hb1 hb2 hro hrx HR0
  rw [hX1] at HX
  (try rw [hX1])
  generalize (w.alloc (.cells ZC 40)).alloc (.cells ZC 40) = w2 at *
  clear hX1
  obtain ⟨X, hX⟩ : ∃ X, X = w.heap.size + 1 := ⟨_, rfl⟩
  rw [← hX] at HX ⊢
  obtain ⟨O, hO⟩ : ∃ O, O = w.heap.size := ⟨_, rfl⟩
  rw [← hO] at HO HAB hRl hX ⊢
  have HOw := Lib.hid hO
  have HXO := Lib.hid hX
  have hRX : R < X := by omega
  have hOX : O < X := by omega
  clear hX hO
  have HId := Lib.hid (id_r R 3 110 A L C l at' f0 E w2 HR.out)
  obtain ⟨tr, htr⟩ : ∃ tr, tr = idv (tkL f0 l at' L 32) := ⟨_, rfl⟩
  rw [← htr] at HId
  have htl : tr.length = 32 := by
    rw [htr]
    refine idv_len _ ?_
    unfold tkL
    split
    · rw [List.length_take]; omega
    · simp
  have HTr := Lib.hid htr
  have hbl : (bv tr).length = 32 := by rw [bv_len, htl]
  have hq : ∀ W, (Op.equalIn 10000 37 (.agg (bv tr).toArray) (.agg #[.int .u8 0, .int .u8 0, .int .u8 0, .int .u8 0, .int .u8 0, .int .u8 0, .int .u8 0, .int .u8 0, .int .u8 0, .int .u8 0, .int .u8 0, .int .u8 0, .int .u8 0, .int .u8 0, .int .u8 0, .int .u8 0, .int .u8 0, .int .u8 0, .int .u8 0, .int .u8 0, .int .u8 0, .int .u8 0, .int .u8 0, .int .u8 0, .int .u8 0, .int .u8 0, .int .u8 0, .int .u8 0, .int .u8 0, .int .u8 0, .int .u8 0, .int .u8 0])).run Try.prog W = .ok (decide (tr = List.replicate 32 0)) W := fun W => ids_none tr htl W
  have HSz2 : Hid ((Try.prog.info? 37).map (·.size) = some (bv tr).toArray.size) := Lib.hid (by rw [List.size_toArray, hbl]; kernel_rfl)
  have HSz1 : Hid ((Try.prog.info? 37).map (·.size) = some (bv tr).length) := Lib.hid (by rw [hbl]; kernel_rfl)
  have HOne := Lib.hid (all_oneCell_toArray (bv_one tr))
  have HBl := Lib.hid hbl
  clear htr hbl
  go_wp2_with fail
  refine HId.out.mono ?_
  rintro e w3 ⟨rfl, hR3, hg3⟩
  have HX3 := Lib.hid (World.rowIs.of_block HX.out (hg3.block X HX.out.lt (fun e => by have := Option.some.inj e; omega)))
  have HO3 := Lib.hid (World.rowIs.of_block HO.out (hg3.block O HO.out.lt (fun e => by have := Option.some.inj e; omega)))
  have HTh : Hid (w3.there X 0 (bv tr).toArray.size) := Lib.hid (fun j hj => by
    rw [List.size_toArray, HBl.out] at hj
    rw [Nat.zero_add]
    exact ⟨by rw [HX3.out.cell (show j < 36 by omega)]; rfl, HX3.out.frozen _⟩)
  have HX4 := Lib.hid (row_lay HX3.out 0 (bv tr))
  have HO4 := Lib.hid (row_apart (b := O) (E := X) (by omega) (bv tr) 0 w3 HO3.out)
  have HR4 := Lib.hid (Rdr.laid (X := X) (by omega) (bv tr) 0 _ (fun x hx h0 => by have := HAB.out x hx h0; omega) hR3)
  have HG4 : Hid (w.grownBy (w3.setCells X 0 (bv tr)) (some R)) := Lib.hid (grown_laid (by have := HOw.out; omega) (bv tr) 0 _ (grown_trans HG.out hg3))
  have HRg : Hid ((w3.setCells X 0 (bv tr)).rangeAt X 0 (bv tr)) := Lib.hid (fun j v hj => by
    have hl := (List.getElem?_eq_some_iff.1 hj).1
    have hl2 := HBl.out
    rw [Nat.zero_add, HX4.out.cell (by omega), layF, if_pos (by omega)]
    simp [hj, List.getD])
  clear HX HO HR HG HId hR3 hg3 HX3 HO3
  generalize hDI : bv tr = DI at *
  have HDI := Lib.hid hDI
  clear hDI
  go_upto_region 3 with (refine wpList_store_mid rfl _ _ _ rfl X 0 DI.toArray rfl rfl HTh.out HSz2.out HOne.out ?_)
  change Code.wp _ _ _ _ (w3.setCells X 0 DI)
  generalize w3.setCells X 0 DI = w4 at *
  clear HTh HSz2 HOne
  by_cases hz0 : tr = List.replicate 32 0
  · rw [decide_eq_true hz0] at hq
    have H2 : Hid (fl (tkF f0 at' L 32) 1 = if tr = List.replicate 32 0 then fl (tkF f0 at' L 32) 1 else tkF f0 at' L 32) := Lib.hid (by rw [if_pos hz0])
    have HFm := Lib.hid (fail_any R 3 110 A L C l _ _ 1 E w4 HR4.out)
    clear hz0
    go_wp2_with (refine wpList_load_mid rfl _ _ rfl X 0 rfl DI _ HRg.out Try.underlying37 rfl HSz1.out ?_)
    refine HFm.out.mono ?_
    rintro e w5 ⟨rfl, hR5, hg5⟩
    have HX5 := Lib.hid (World.rowIs.of_block HX4.out (hg5.block X HX4.out.lt (fun e => by have := Option.some.inj e; omega)))
    have HO5 := Lib.hid (World.rowIs.of_block HO4.out (hg5.block O HO4.out.lt (fun e => by have := Option.some.inj e; omega)))
    obtain ⟨F2, hF2⟩ : ∃ F2, F2 = fl (tkF f0 at' L 32) 1 := ⟨_, rfl⟩
    obtain ⟨A1, hA1⟩ : ∃ A1, A1 = tkA f0 at' L 32 := ⟨_, rfl⟩
    rw [← hF2, ← hA1] at hR5
    have HE2 := Lib.hid (H2.out.symm.trans hF2.symm)
    have HA1 := Lib.hid hA1
    have HR5 := Lib.hid hR5
    have HG5 := Lib.hid (grown_trans HG4.out hg5)
    clear hR5 hg5 HFm HX4 HO4 HR4 HG4 hF2 hA1 HRg hq
    have HPs := Lib.hid (parents_any R A L C l A1 F2 E w5 HR5.out)
    have hs5 := HX5.out.lt
    go_wp2_with fail
    refine HPs.out.mono ?_
    rintro e w6 ⟨h32, hR6, hg6, Ai, Ci, rfl, ho6⟩
    obtain ⟨q, hqq⟩ : ∃ q, q = pa F2 l A1 L := ⟨_, rfl⟩
    rw [← hqq] at h32 hR6 ho6 ⊢
    have HQ := Lib.hid hqq
    have H32 := Lib.hid h32
    have HX6 := Lib.hid (World.rowIs.of_block HX5.out (hg6.block X HX5.out.lt (fun e => by have := Option.some.inj e; omega)))
    have HO6 := Lib.hid (World.rowIs.of_block HO5.out (hg6.block O HO5.out.lt (fun e => by have := Option.some.inj e; omega)))
    have hc : w6.cell? ⟨X, 32, none⟩ = some _ := HX6.out.cell (i := 32) (by omega)
    have hf : w6.frozen? ⟨X, 32, none⟩ = false := HX6.out.frozen _
    have HX7 := Lib.hid (HX6.out.set 32 (.slice Ai q.2.2.length Ci))
    have HO7 := Lib.hid (HO6.out.setOther (a := ⟨X, 32, none⟩) (fun e => by have : X = O := e.symm ▸ rfl; omega) (.slice Ai q.2.2.length Ci))
    have HR7 := Lib.hid (Rdr.setX hR6 X 32 (.slice Ai q.2.2.length Ci) (by omega) (fun x hx h0 => by have := HAB.out x hx h0; omega))
    have HOw7 := Lib.hid (own_grown ho6 (grown_set w6 X 32 (.slice Ai q.2.2.length Ci)) (fun e => by have := (ho6.lt X e).1; omega))
    have HG7 : Hid (w.grownBy (w6.setCell ⟨X, 32, none⟩ (.slice Ai q.2.2.length Ci)) (some R)) := Lib.hid (by
      have h1 := grown_trans HG5.out hg6
      have h2 := grown_set w6 X 32 (.slice Ai q.2.2.length Ci)
      exact ⟨h2.os.trans h1.os, h2.tape.trans h1.tape, h2.output.trans h1.output, Nat.le_trans h1.size h2.size, fun i hi hne => (h2.block i (Nat.lt_of_lt_of_le hi h1.size) (fun e => by have := Option.some.inj e; have := HOw.out; omega)).trans (h1.block i hi hne)⟩)
    clear hqq h32 HPs hR6 hg6 ho6 HX6 HO6 HX5 HO5 HR5 HG5
    go_upto_region 6 with (fail)
    generalize w6.setCell ⟨X, 32, none⟩ (.slice Ai q.2.2.length Ci) = w7 at *
    have HTx := Lib.hid (text_r R 3 110 A L C l q.2.1 q.1 E 2 1000 w7 HR7.out (by omega))
    rw [show ((2 : Nat) : Int) = 2 from rfl, show ((1000 : Nat) : Int) = 1000 from rfl] at HTx
    go_wp2_with fail
    refine HTx.out.mono ?_
    rintro e w8 ⟨rfl, hR8, hg8⟩
    obtain ⟨au, hau⟩ : ∃ au, au = txS q.1 l q.2.1 L 2 1000 := ⟨_, rfl⟩
    rw [← hau]
    have HAu := Lib.hid hau
    have HX8 := Lib.hid (World.rowIs.of_block HX7.out (hg8.block X HX7.out.lt (fun e => by have := Option.some.inj e; omega)))
    have HO8 := Lib.hid (World.rowIs.of_block HO7.out (hg8.block O HO7.out.lt (fun e => by have := Option.some.inj e; omega)))
    have HOw8 := Lib.hid (own_grown HOw7.out hg8 (fun e => by have := (HOw7.out.lt R e).1; omega))
    have hc : w8.cell? ⟨X, 33, none⟩ = some _ := HX8.out.cell (i := 33) (by omega)
    have hf : w8.frozen? ⟨X, 33, none⟩ = false := HX8.out.frozen _
    have HX9 := Lib.hid (HX8.out.set 33 (.string au))
    have HO9 := Lib.hid (HO8.out.setOther (a := ⟨X, 33, none⟩) (fun e => by have : X = O := e.symm ▸ rfl; omega) (.string au))
    have HR9 := Lib.hid (Rdr.setX hR8 X 33 (.string au) (by omega) (fun x hx h0 => by have := HAB.out x hx h0; omega))
    have HOw9 := Lib.hid (own_grown HOw8.out (grown_set w8 X 33 (.string au)) (fun e => by have := (HOw8.out.lt X e).1; omega))
    have HG9 : Hid (w.grownBy (w8.setCell ⟨X, 33, none⟩ (.string au)) (some R)) := Lib.hid (by
      have h1 := grown_trans HG7.out hg8
      have h2 := grown_set w8 X 33 (.string au)
      exact ⟨h2.os.trans h1.os, h2.tape.trans h1.tape, h2.output.trans h1.output, Nat.le_trans h1.size h2.size, fun i hi hne => (h2.block i (Nat.lt_of_lt_of_le hi h1.size) (fun e => by have := Option.some.inj e; have := HOw.out; omega)).trans (h1.block i hi hne)⟩)
    clear hau HTx hR8 hg8 HX7 HO7 HOw7 HR7 HG7 HX8 HO8 HOw8
    go_upto_region 7 with (fail)
    generalize w8.setCell ⟨X, 33, none⟩ (.string au) = w9 at *
    obtain ⟨A4, hA4⟩ : ∃ A4, A4 = txA q.1 l q.2.1 L 2 1000 := ⟨_, rfl⟩
    obtain ⟨F4, hF4⟩ : ∃ F4, F4 = txF q.1 l q.2.1 L 2 1000 := ⟨_, rfl⟩
    rw [← hA4, ← hF4] at HR9
    have HA4 := Lib.hid hA4
    have HF4 := Lib.hid hF4
    clear hA4 hF4
    have HTk := Lib.hid (take_any R 3 110 A L C l A4 F4 E 8 w9 HR9.out (by omega))
    rw [show ((8 : Nat) : Int) = 8 from rfl] at HTk
    go_wp2_with fail
    refine HTk.out.mono ?_
    rintro e wt ⟨At, Ct, rfl, hrd, hne, hRt, hgt⟩
    obtain ⟨T, hT⟩ : ∃ T, T = tkL F4 l A4 L 8 := ⟨_, rfl⟩
    obtain ⟨A5, hA5⟩ : ∃ A5, A5 = tkA F4 A4 L 8 := ⟨_, rfl⟩
    obtain ⟨F5, hF5⟩ : ∃ F5, F5 = tkF F4 A4 L 8 := ⟨_, rfl⟩
    rw [← hT] at hrd hne ⊢
    rw [← hA5, ← hF5] at hRt
    have HT := Lib.hid hT
    have HA5 := Lib.hid hA5
    have HF5 := Lib.hid hF5
    have HRd := Lib.hid hrd
    have HRt := Lib.hid hRt
    have HNX := Lib.hid (hne X (fun x hx h0 => by have := HAB.out x hx h0; omega))
    have HXt := Lib.hid (World.rowIs.of_block HX9.out (hgt.block X HX9.out.lt (fun e => by have := Option.some.inj e; omega)))
    have HOt := Lib.hid (World.rowIs.of_block HO9.out (hgt.block O HO9.out.lt (fun e => by have := Option.some.inj e; omega)))
    have HOwt := Lib.hid (own_grown HOw9.out hgt (fun e => by have := (HOw9.out.lt R e).1; omega))
    have HGt := Lib.hid (grown_trans HG9.out hgt)
    have HXc : Hid (wt.rowIs X 40 36 (cmF tr (.slice Ai q.2.2.length Ci) au 0 ByteArray.empty)) := Lib.hid (HXt.out.congr (fun j hj => by rw [← HDI.out]; exact cmF_start ZC HZ34.out HZ35.out tr htl _ au j hj))
    have hcap := hrd.cap
    have hmax := hrd.max
    clear hT hA5 hF5 hrd hne hRt hgt HX9 HO9 HOw9 HG9 HR9 HXt HTk hc hf
    go_wp2_with fail
    go_loopw [32] (fun s wr => ∃ k : Nat, s = .int .i64 k ∧ k ≤ T.length ∧ Hid (wr.rowIs X 40 36 (cmF tr (.slice Ai q.2.2.length Ci) au (tv (T.take k)) ByteArray.empty)) ∧ Hid (wr.rowIs O 40 36 (fun i => ZC.getD i undef)) ∧ Hid (Rdr wr R 3 110 A L C l A5 F5 E) ∧ Hid (wr.ownsRow w5.heap.size 37 32 (.slice Ai q.2.2.length Ci) q.2.2.length (idsV q.2.2)) ∧ Hid (RdB wr At T.length Ct T) ∧ Hid (w.grownBy wr (some R))) (fun s _ => T.length - (intOf s).toNat)
    case atStart => exact ⟨0, rfl, Nat.zero_le _, HXc, HOt, HRt, HOwt, HRd, HGt⟩
    case round =>
      clear HXc HOt HRt HOwt HRd HGt
      obtain ⟨k, rfl, hk, HXk, HOk, HRk, HOwk, HRd, HGk⟩ := hrel
      by_cases hlt : k < T.length
      · obtain ⟨g, o, rfl, hgl, hcc⟩ := HRd.out.at (by omega)
        have hc1 : wr.cell? ⟨g, o + k, none⟩ = some (.int .u8 (T.getD k 0)) := hcc k hlt
        have hc2 : wr.cell? ⟨X, 34, none⟩ = some (.int .i64 (tv (T.take k))) := HXk.out.cell (i := 34) (by omega)
        have hf2 : wr.frozen? ⟨X, 34, none⟩ = false := HXk.out.frozen _
        have hb := HRd.out.byte k hlt
        have hb0 := hb.1
        have hb1 := hb.2
        have hst := tv_step T k hlt
        have HX2 := Lib.hid ((HXk.out.set 34 (.int .i64 (tv (T.take (k + 1))))).congr (fun j _ => cmF_time tr _ au _ _ ByteArray.empty j))
        have HO2 := Lib.hid (HOk.out.setOther (a := ⟨X, 34, none⟩) (fun e => by have : X = O := e.symm ▸ rfl; omega) (.int .i64 (tv (T.take (k + 1)))))
        have HR2 := Lib.hid (Rdr.setX HRk.out X 34 (.int .i64 (tv (T.take (k + 1)))) (by omega) (fun x hx h0 => by have := HAB.out x hx h0; omega))
        have HOw2 := Lib.hid (own_grown HOwk.out (grown_set wr X 34 (.int .i64 (tv (T.take (k + 1))))) (fun e => by have := (HOwk.out.lt X e).1; omega))
        have HRd2 := Lib.hid (HRd.out.grown (grown_set wr X 34 (.int .i64 (tv (T.take (k + 1))))) HNX.out)
        have HG2 : Hid (w.grownBy (wr.setCell ⟨X, 34, none⟩ (.int .i64 (tv (T.take (k + 1))))) (some R)) := Lib.hid (by
          have h1 := HGk.out
          have h2 := grown_set wr X 34 (.int .i64 (tv (T.take (k + 1))))
          exact ⟨h2.os.trans h1.os, h2.tape.trans h1.tape, h2.output.trans h1.output, Nat.le_trans h1.size h2.size, fun i hi hne => (h2.block i (Nat.lt_of_lt_of_le hi h1.size) (fun e => by have := Option.some.inj e; have := HOw.out; omega)).trans (h1.block i hi hne)⟩)
        rw [hst] at HX2 HO2 HR2 HOw2 HRd2 HG2
        have HSt := Lib.hid hst
        have hk0 : (0 : Int) ≤ (k : Int) := by omega
        have hkl : (k : Int) < (T.length : Int) := by omega
        clear hst hcc hb HXk HOk HRk HOwk HRd HGk
        generalize hY : tv (T.take k) = Y at *
        generalize T.getD k 0 = c at *
        clear hY
        go_wp2_with fail
        go_roundw
        case rel => exact ⟨k + 1, by go_num, by omega, by rw [HSt.out]; exact HX2, HO2, HR2, HOw2, HRd2, HG2⟩
        case measure => simp [intOf]; omega
      · have hkT : k = T.length := by omega
        have hd : decide ((k : Int) < (T.length : Int)) = false := by simp; omega
        have HXe : Hid (wr.rowIs X 40 36 (cmF tr (.slice Ai q.2.2.length Ci) au (tv T) ByteArray.empty)) := Lib.hid (by
          have h := HXk.out
          rw [hkT, List.take_length] at h
          exact h)
        clear HXk hkT
        have HMx := Lib.hid (text_r R 3 110 A L C l A5 F5 E 2 1000 wr HRk.out (by omega))
        rw [show ((2 : Nat) : Int) = 2 from rfl, show ((1000 : Nat) : Int) = 1000 from rfl] at HMx
        go_wp2_with fail
        refine HMx.out.mono ?_
        rintro e w11 ⟨rfl, hR11, hg11⟩
        obtain ⟨ms, hms⟩ : ∃ ms, ms = txS F5 l A5 L 2 1000 := ⟨_, rfl⟩
        obtain ⟨A6, hA6⟩ : ∃ A6, A6 = txA F5 l A5 L 2 1000 := ⟨_, rfl⟩
        obtain ⟨F6, hF6⟩ : ∃ F6, F6 = txF F5 l A5 L 2 1000 := ⟨_, rfl⟩
        rw [← hms]
        rw [← hA6, ← hF6] at hR11
        have HMs := Lib.hid hms
        have HA6 := Lib.hid hA6
        have HF6 := Lib.hid hF6
        have HX11 := Lib.hid (World.rowIs.of_block HXe.out (hg11.block X HXe.out.lt (fun e => by have := Option.some.inj e; omega)))
        have HO11 := Lib.hid (World.rowIs.of_block HOk.out (hg11.block O HOk.out.lt (fun e => by have := Option.some.inj e; omega)))
        have HOw11 := Lib.hid (own_grown HOwk.out hg11 (fun e => by have := (HOwk.out.lt R e).1; omega))
        have hc : w11.cell? ⟨X, 35, none⟩ = some _ := HX11.out.cell (i := 35) (by omega)
        have hf : w11.frozen? ⟨X, 35, none⟩ = false := HX11.out.frozen _
        have HX12 := Lib.hid ((HX11.out.set 35 (.string ms)).congr (fun j _ => cmF_msg tr _ au _ _ ms j))
        have HO12 := Lib.hid (HO11.out.setOther (a := ⟨X, 35, none⟩) (fun e => by have : X = O := e.symm ▸ rfl; omega) (.string ms))
        have HR12 := Lib.hid (Rdr.setX hR11 X 35 (.string ms) (by omega) (fun x hx h0 => by have := HAB.out x hx h0; omega))
        have HOw12 := Lib.hid (own_grown HOw11.out (grown_set w11 X 35 (.string ms)) (fun e => by have := (HOw11.out.lt X e).1; omega))
        have HG12 : Hid (w.grownBy (w11.setCell ⟨X, 35, none⟩ (.string ms)) (some R)) := Lib.hid (by
          have h1 := grown_trans HGk.out hg11
          have h2 := grown_set w11 X 35 (.string ms)
          exact ⟨h2.os.trans h1.os, h2.tape.trans h1.tape, h2.output.trans h1.output, Nat.le_trans h1.size h2.size, fun i hi hne => (h2.block i (Nat.lt_of_lt_of_le hi h1.size) (fun e => by have := Option.some.inj e; have := HOw.out; omega)).trans (h1.block i hi hne)⟩)
        clear hms hA6 hF6 hR11 hg11 HX11 HO11 HOw11 HXe HOk HRk HOwk HRd HGk HMx
        go_upto_region 13 with (fail)
        generalize w11.setCell ⟨X, 35, none⟩ (.string ms) = w12 at *
        have HEn := Lib.hid (end_any R 3 110 A L C l A6 F6 E w12 HR12.out)
        clear hc hf
        go_wp2_with fail
        refine HEn.out.mono ?_
        rintro e w13 ⟨rfl, hR13, hg13⟩
        have HX13 := HX12.out.of_block (hg13.block X HX12.out.lt (fun e => by have := Option.some.inj e; omega))
        have HO13 := HO12.out.of_block (hg13.block O HO12.out.lt (fun e => by have := Option.some.inj e; omega))
        have HOw13 := own_grown HOw12.out hg13 (fun e => by have := (HOw12.out.lt R e).1; omega)
        have hg14 := grown_trans HG12.out hg13
        have hcl : (cm tr (.slice Ai q.2.2.length Ci) au (tv T) ms).length = 36 := cm_len tr _ au _ ms htl
        have hc1 := cm_one tr (.slice Ai q.2.2.length Ci) au (tv T) ms rfl
        have HLd : Hid (w13.rangeAt X 0 (cm tr (.slice Ai q.2.2.length Ci) au (tv T) ms)) := Lib.hid (fun j v hj => by
          have hl := (List.getElem?_eq_some_iff.1 hj).1
          rw [hcl] at hl
          rw [Nat.zero_add, HX13.cell hl, ← hj, cm_get tr _ au _ ms htl j hl])
        have HLt : Hid (w13.there O 0 (cm tr (.slice Ai q.2.2.length Ci) au (tv T) ms).toArray.size) := Lib.hid (fun j hj => by
          rw [List.size_toArray, hcl] at hj
          rw [Nat.zero_add]
          exact ⟨by rw [HO13.cell hj]; rfl, HO13.frozen _⟩)
        have HLs : Hid ((Try.prog.info? 40).map (·.size) = some (cm tr (.slice Ai q.2.2.length Ci) au (tv T) ms).length) := Lib.hid (by rw [hcl]; kernel_rfl)
        have HLs2 : Hid ((Try.prog.info? 40).map (·.size) = some (cm tr (.slice Ai q.2.2.length Ci) au (tv T) ms).toArray.size) := Lib.hid (by rw [List.size_toArray]; exact HLs.out)
        have HLo := Lib.hid (all_oneCell_toArray hc1)
        have HSt := Lib.hid (row_stored HO13 (cm tr (.slice Ai q.2.2.length Ci) au (tv T) ms) hcl)
        have HRz := Lib.hid (Rdr.laid (X := O) (by have := HOw.out; omega) (cm tr (.slice Ai q.2.2.length Ci) au (tv T) ms) 0 w13 (fun x hx h0 => by have := HAB.out x hx h0; omega) hR13)
        have HGz := Lib.hid (grown_laid (a := w) (E := O) (by have := HOw.out; omega) (cm tr (.slice Ai q.2.2.length Ci) au (tv T) ms) 0 w13 hg14)
        have HOz := Lib.hid (own_grown HOw13 (grown_cells w13 O (cm tr (.slice Ai q.2.2.length Ci) au (tv T) ms) 0) (fun e => by have := (HOw13.lt O e).1; omega))
        clear hR13 hg13 hg14 HX13 HO13 HOw13 hcl hc1 HX12 HO12 HR12 HOw12 HG12 HEn
        generalize hCM : cm tr (.slice Ai q.2.2.length Ci) au (tv T) ms = CM at *
        have HCM := Lib.hid hCM
        clear hCM
        go_wp2_with (first
          | (refine wpList_load_mid rfl _ _ rfl X 0 rfl CM _ HLd.out Try.underlying40 rfl HLs.out ?_)
          | (refine wpList_store_mid rfl _ _ _ rfl O 0 CM.toArray rfl rfl HLt.out HLs2.out HLo.out ?_))
        refine bodyPost_ret (results_cell_row rfl _ _ O _ _ _ _ rfl HSt.out Try.underlying40 rfl HLs2.out) rfl ?_
        have e2 : cF2 f0 l at' L = F2 := by unfold cF2 cT; rw [← HTr.out]; exact HE2.out
        have eQ : cQ f0 l at' L = q := by unfold cQ; rw [e2, ← HA1.out]; exact HQ.out.symm
        have eAu : cAu f0 l at' L = au := by unfold cAu; rw [eQ]; exact HAu.out.symm
        have e4 : cA4 f0 l at' L = A4 := by unfold cA4; rw [eQ]; exact HA4.out.symm
        have eF4 : cF4 f0 l at' L = F4 := by unfold cF4; rw [eQ]; exact HF4.out.symm
        have eB : cB f0 l at' L = T := by unfold cB; rw [eF4, e4]; exact HT.out.symm
        have e5 : cA5 f0 l at' L = A5 := by unfold cA5; rw [eF4, e4]; exact HA5.out.symm
        have eF5 : cF5 f0 l at' L = F5 := by unfold cF5; rw [eF4, e4]; exact HF5.out.symm
        have eMs : cMs f0 l at' L = ms := by unfold cMs; rw [eF5, e5]; exact HMs.out.symm
        have e6 : cA6 f0 l at' L = A6 := by unfold cA6; rw [eF5, e5]; exact HA6.out.symm
        have eF6 : cF6 f0 l at' L = F6 := by unfold cF6; rw [eF5, e5]; exact HF6.out.symm
        have eF7 : cF7 f0 l at' L = enF F6 A6 L := by unfold cF7; rw [eF6, e6]
        unfold CmRet
        rw [eQ, eAu, eB, eMs, e6, eF7, show cT f0 l at' L = tr from HTr.out.symm]
        exact ⟨H32.out, HRz.out, HGz.out, Ai, Ci, by rw [HCM.out], own_base HOz.out (by have := HOw.out; omega)⟩
  · rw [decide_eq_false hz0] at hq
    have H2 : Hid (tkF f0 at' L 32 = if tr = List.replicate 32 0 then fl (tkF f0 at' L 32) 1 else tkF f0 at' L 32) := Lib.hid (by rw [if_neg hz0])
    clear hz0
    obtain ⟨F2, hF2⟩ : ∃ F2, F2 = tkF f0 at' L 32 := ⟨_, rfl⟩
    obtain ⟨A1, hA1⟩ : ∃ A1, A1 = tkA f0 at' L 32 := ⟨_, rfl⟩
    have hR5 := HR4.out
    rw [← hF2, ← hA1] at hR5
    have HE2 := Lib.hid (H2.out.symm.trans hF2.symm)
    have HA1 := Lib.hid hA1
    have HR5 := Lib.hid hR5
    have HF2 := Lib.hid hF2
    have HX5 := HX4
    have HO5 := HO4
    have HG5 := HG4
    clear hR5 hF2 hA1 HX4 HO4 HR4 HG4
    go_wp2_with (refine wpList_load_mid rfl _ _ rfl X 0 rfl DI _ HRg.out Try.underlying37 rfl HSz1.out ?_)
    clear HRg hq
    have HPs := Lib.hid (parents_any R A L C l A1 F2 E w4 HR5.out)
    have hs5 := HX5.out.lt
    refine HPs.out.mono ?_
    rintro e w6 ⟨h32, hR6, hg6, Ai, Ci, rfl, ho6⟩
    obtain ⟨q, hqq⟩ : ∃ q, q = pa F2 l A1 L := ⟨_, rfl⟩
    rw [← hqq] at h32 hR6 ho6 ⊢
    have HQ := Lib.hid hqq
    have H32 := Lib.hid h32
    have HX6 := Lib.hid (World.rowIs.of_block HX5.out (hg6.block X HX5.out.lt (fun e => by have := Option.some.inj e; omega)))
    have HO6 := Lib.hid (World.rowIs.of_block HO5.out (hg6.block O HO5.out.lt (fun e => by have := Option.some.inj e; omega)))
    have hc : w6.cell? ⟨X, 32, none⟩ = some _ := HX6.out.cell (i := 32) (by omega)
    have hf : w6.frozen? ⟨X, 32, none⟩ = false := HX6.out.frozen _
    have HX7 := Lib.hid (HX6.out.set 32 (.slice Ai q.2.2.length Ci))
    have HO7 := Lib.hid (HO6.out.setOther (a := ⟨X, 32, none⟩) (fun e => by have : X = O := e.symm ▸ rfl; omega) (.slice Ai q.2.2.length Ci))
    have HR7 := Lib.hid (Rdr.setX hR6 X 32 (.slice Ai q.2.2.length Ci) (by omega) (fun x hx h0 => by have := HAB.out x hx h0; omega))
    have HOw7 := Lib.hid (own_grown ho6 (grown_set w6 X 32 (.slice Ai q.2.2.length Ci)) (fun e => by have := (ho6.lt X e).1; omega))
    have HG7 : Hid (w.grownBy (w6.setCell ⟨X, 32, none⟩ (.slice Ai q.2.2.length Ci)) (some R)) := Lib.hid (by
      have h1 := grown_trans HG5.out hg6
      have h2 := grown_set w6 X 32 (.slice Ai q.2.2.length Ci)
      exact ⟨h2.os.trans h1.os, h2.tape.trans h1.tape, h2.output.trans h1.output, Nat.le_trans h1.size h2.size, fun i hi hne => (h2.block i (Nat.lt_of_lt_of_le hi h1.size) (fun e => by have := Option.some.inj e; have := HOw.out; omega)).trans (h1.block i hi hne)⟩)
    clear hqq h32 HPs hR6 hg6 ho6 HX6 HO6 HX5 HO5 HR5 HG5
    go_upto_region 6 with (fail)
    generalize w6.setCell ⟨X, 32, none⟩ (.slice Ai q.2.2.length Ci) = w7 at *
    have HTx := Lib.hid (text_r R 3 110 A L C l q.2.1 q.1 E 2 1000 w7 HR7.out (by omega))
    rw [show ((2 : Nat) : Int) = 2 from rfl, show ((1000 : Nat) : Int) = 1000 from rfl] at HTx
    go_wp2_with fail
    refine HTx.out.mono ?_
    rintro e w8 ⟨rfl, hR8, hg8⟩
    obtain ⟨au, hau⟩ : ∃ au, au = txS q.1 l q.2.1 L 2 1000 := ⟨_, rfl⟩
    rw [← hau]
    have HAu := Lib.hid hau
    have HX8 := Lib.hid (World.rowIs.of_block HX7.out (hg8.block X HX7.out.lt (fun e => by have := Option.some.inj e; omega)))
    have HO8 := Lib.hid (World.rowIs.of_block HO7.out (hg8.block O HO7.out.lt (fun e => by have := Option.some.inj e; omega)))
    have HOw8 := Lib.hid (own_grown HOw7.out hg8 (fun e => by have := (HOw7.out.lt R e).1; omega))
    have hc : w8.cell? ⟨X, 33, none⟩ = some _ := HX8.out.cell (i := 33) (by omega)
    have hf : w8.frozen? ⟨X, 33, none⟩ = false := HX8.out.frozen _
    have HX9 := Lib.hid (HX8.out.set 33 (.string au))
    have HO9 := Lib.hid (HO8.out.setOther (a := ⟨X, 33, none⟩) (fun e => by have : X = O := e.symm ▸ rfl; omega) (.string au))
    have HR9 := Lib.hid (Rdr.setX hR8 X 33 (.string au) (by omega) (fun x hx h0 => by have := HAB.out x hx h0; omega))
    have HOw9 := Lib.hid (own_grown HOw8.out (grown_set w8 X 33 (.string au)) (fun e => by have := (HOw8.out.lt X e).1; omega))
    have HG9 : Hid (w.grownBy (w8.setCell ⟨X, 33, none⟩ (.string au)) (some R)) := Lib.hid (by
      have h1 := grown_trans HG7.out hg8
      have h2 := grown_set w8 X 33 (.string au)
      exact ⟨h2.os.trans h1.os, h2.tape.trans h1.tape, h2.output.trans h1.output, Nat.le_trans h1.size h2.size, fun i hi hne => (h2.block i (Nat.lt_of_lt_of_le hi h1.size) (fun e => by have := Option.some.inj e; have := HOw.out; omega)).trans (h1.block i hi hne)⟩)
    clear hau HTx hR8 hg8 HX7 HO7 HOw7 HR7 HG7 HX8 HO8 HOw8
    go_upto_region 7 with (fail)
    generalize w8.setCell ⟨X, 33, none⟩ (.string au) = w9 at *
    obtain ⟨A4, hA4⟩ : ∃ A4, A4 = txA q.1 l q.2.1 L 2 1000 := ⟨_, rfl⟩
    obtain ⟨F4, hF4⟩ : ∃ F4, F4 = txF q.1 l q.2.1 L 2 1000 := ⟨_, rfl⟩
    rw [← hA4, ← hF4] at HR9
    have HA4 := Lib.hid hA4
    have HF4 := Lib.hid hF4
    clear hA4 hF4
    have HTk := Lib.hid (take_any R 3 110 A L C l A4 F4 E 8 w9 HR9.out (by omega))
    rw [show ((8 : Nat) : Int) = 8 from rfl] at HTk
    go_wp2_with fail
    refine HTk.out.mono ?_
    rintro e wt ⟨At, Ct, rfl, hrd, hne, hRt, hgt⟩
    obtain ⟨T, hT⟩ : ∃ T, T = tkL F4 l A4 L 8 := ⟨_, rfl⟩
    obtain ⟨A5, hA5⟩ : ∃ A5, A5 = tkA F4 A4 L 8 := ⟨_, rfl⟩
    obtain ⟨F5, hF5⟩ : ∃ F5, F5 = tkF F4 A4 L 8 := ⟨_, rfl⟩
    rw [← hT] at hrd hne ⊢
    rw [← hA5, ← hF5] at hRt
    have HT := Lib.hid hT
    have HA5 := Lib.hid hA5
    have HF5 := Lib.hid hF5
    have HRd := Lib.hid hrd
    have HRt := Lib.hid hRt
    have HNX := Lib.hid (hne X (fun x hx h0 => by have := HAB.out x hx h0; omega))
    have HXt := Lib.hid (World.rowIs.of_block HX9.out (hgt.block X HX9.out.lt (fun e => by have := Option.some.inj e; omega)))
    have HOt := Lib.hid (World.rowIs.of_block HO9.out (hgt.block O HO9.out.lt (fun e => by have := Option.some.inj e; omega)))
    have HOwt := Lib.hid (own_grown HOw9.out hgt (fun e => by have := (HOw9.out.lt R e).1; omega))
    have HGt := Lib.hid (grown_trans HG9.out hgt)
    have HXc : Hid (wt.rowIs X 40 36 (cmF tr (.slice Ai q.2.2.length Ci) au 0 ByteArray.empty)) := Lib.hid (HXt.out.congr (fun j hj => by rw [← HDI.out]; exact cmF_start ZC HZ34.out HZ35.out tr htl _ au j hj))
    have hcap := hrd.cap
    have hmax := hrd.max
    clear hT hA5 hF5 hrd hne hRt hgt HX9 HO9 HOw9 HG9 HR9 HXt HTk hc hf
    go_wp2_with fail
    go_loopw [32] (fun s wr => ∃ k : Nat, s = .int .i64 k ∧ k ≤ T.length ∧ Hid (wr.rowIs X 40 36 (cmF tr (.slice Ai q.2.2.length Ci) au (tv (T.take k)) ByteArray.empty)) ∧ Hid (wr.rowIs O 40 36 (fun i => ZC.getD i undef)) ∧ Hid (Rdr wr R 3 110 A L C l A5 F5 E) ∧ Hid (wr.ownsRow w4.heap.size 37 32 (.slice Ai q.2.2.length Ci) q.2.2.length (idsV q.2.2)) ∧ Hid (RdB wr At T.length Ct T) ∧ Hid (w.grownBy wr (some R))) (fun s _ => T.length - (intOf s).toNat)
    case atStart => exact ⟨0, rfl, Nat.zero_le _, HXc, HOt, HRt, HOwt, HRd, HGt⟩
    case round =>
      clear HXc HOt HRt HOwt HRd HGt
      obtain ⟨k, rfl, hk, HXk, HOk, HRk, HOwk, HRd, HGk⟩ := hrel
      by_cases hlt : k < T.length
      · obtain ⟨g, o, rfl, hgl, hcc⟩ := HRd.out.at (by omega)
        have hc1 : wr.cell? ⟨g, o + k, none⟩ = some (.int .u8 (T.getD k 0)) := hcc k hlt
        have hc2 : wr.cell? ⟨X, 34, none⟩ = some (.int .i64 (tv (T.take k))) := HXk.out.cell (i := 34) (by omega)
        have hf2 : wr.frozen? ⟨X, 34, none⟩ = false := HXk.out.frozen _
        have hb := HRd.out.byte k hlt
        have hb0 := hb.1
        have hb1 := hb.2
        have hst := tv_step T k hlt
        have HX2 := Lib.hid ((HXk.out.set 34 (.int .i64 (tv (T.take (k + 1))))).congr (fun j _ => cmF_time tr _ au _ _ ByteArray.empty j))
        have HO2 := Lib.hid (HOk.out.setOther (a := ⟨X, 34, none⟩) (fun e => by have : X = O := e.symm ▸ rfl; omega) (.int .i64 (tv (T.take (k + 1)))))
        have HR2 := Lib.hid (Rdr.setX HRk.out X 34 (.int .i64 (tv (T.take (k + 1)))) (by omega) (fun x hx h0 => by have := HAB.out x hx h0; omega))
        have HOw2 := Lib.hid (own_grown HOwk.out (grown_set wr X 34 (.int .i64 (tv (T.take (k + 1))))) (fun e => by have := (HOwk.out.lt X e).1; omega))
        have HRd2 := Lib.hid (HRd.out.grown (grown_set wr X 34 (.int .i64 (tv (T.take (k + 1))))) HNX.out)
        have HG2 : Hid (w.grownBy (wr.setCell ⟨X, 34, none⟩ (.int .i64 (tv (T.take (k + 1))))) (some R)) := Lib.hid (by
          have h1 := HGk.out
          have h2 := grown_set wr X 34 (.int .i64 (tv (T.take (k + 1))))
          exact ⟨h2.os.trans h1.os, h2.tape.trans h1.tape, h2.output.trans h1.output, Nat.le_trans h1.size h2.size, fun i hi hne => (h2.block i (Nat.lt_of_lt_of_le hi h1.size) (fun e => by have := Option.some.inj e; have := HOw.out; omega)).trans (h1.block i hi hne)⟩)
        rw [hst] at HX2 HO2 HR2 HOw2 HRd2 HG2
        have HSt := Lib.hid hst
        have hk0 : (0 : Int) ≤ (k : Int) := by omega
        have hkl : (k : Int) < (T.length : Int) := by omega
        clear hst hcc hb HXk HOk HRk HOwk HRd HGk
        generalize hY : tv (T.take k) = Y at *
        generalize T.getD k 0 = c at *
        clear hY
        go_wp2_with fail
        go_roundw
        case rel => exact ⟨k + 1, by go_num, by omega, by rw [HSt.out]; exact HX2, HO2, HR2, HOw2, HRd2, HG2⟩
        case measure => simp [intOf]; omega
      · have hkT : k = T.length := by omega
        have hd : decide ((k : Int) < (T.length : Int)) = false := by simp; omega
        have HXe : Hid (wr.rowIs X 40 36 (cmF tr (.slice Ai q.2.2.length Ci) au (tv T) ByteArray.empty)) := Lib.hid (by
          have h := HXk.out
          rw [hkT, List.take_length] at h
          exact h)
        clear HXk hkT
        have HMx := Lib.hid (text_r R 3 110 A L C l A5 F5 E 2 1000 wr HRk.out (by omega))
        rw [show ((2 : Nat) : Int) = 2 from rfl, show ((1000 : Nat) : Int) = 1000 from rfl] at HMx
        go_wp2_with fail
        refine HMx.out.mono ?_
        rintro e w11 ⟨rfl, hR11, hg11⟩
        obtain ⟨ms, hms⟩ : ∃ ms, ms = txS F5 l A5 L 2 1000 := ⟨_, rfl⟩
        obtain ⟨A6, hA6⟩ : ∃ A6, A6 = txA F5 l A5 L 2 1000 := ⟨_, rfl⟩
        obtain ⟨F6, hF6⟩ : ∃ F6, F6 = txF F5 l A5 L 2 1000 := ⟨_, rfl⟩
        rw [← hms]
        rw [← hA6, ← hF6] at hR11
        have HMs := Lib.hid hms
        have HA6 := Lib.hid hA6
        have HF6 := Lib.hid hF6
        have HX11 := Lib.hid (World.rowIs.of_block HXe.out (hg11.block X HXe.out.lt (fun e => by have := Option.some.inj e; omega)))
        have HO11 := Lib.hid (World.rowIs.of_block HOk.out (hg11.block O HOk.out.lt (fun e => by have := Option.some.inj e; omega)))
        have HOw11 := Lib.hid (own_grown HOwk.out hg11 (fun e => by have := (HOwk.out.lt R e).1; omega))
        have hc : w11.cell? ⟨X, 35, none⟩ = some _ := HX11.out.cell (i := 35) (by omega)
        have hf : w11.frozen? ⟨X, 35, none⟩ = false := HX11.out.frozen _
        have HX12 := Lib.hid ((HX11.out.set 35 (.string ms)).congr (fun j _ => cmF_msg tr _ au _ _ ms j))
        have HO12 := Lib.hid (HO11.out.setOther (a := ⟨X, 35, none⟩) (fun e => by have : X = O := e.symm ▸ rfl; omega) (.string ms))
        have HR12 := Lib.hid (Rdr.setX hR11 X 35 (.string ms) (by omega) (fun x hx h0 => by have := HAB.out x hx h0; omega))
        have HOw12 := Lib.hid (own_grown HOw11.out (grown_set w11 X 35 (.string ms)) (fun e => by have := (HOw11.out.lt X e).1; omega))
        have HG12 : Hid (w.grownBy (w11.setCell ⟨X, 35, none⟩ (.string ms)) (some R)) := Lib.hid (by
          have h1 := grown_trans HGk.out hg11
          have h2 := grown_set w11 X 35 (.string ms)
          exact ⟨h2.os.trans h1.os, h2.tape.trans h1.tape, h2.output.trans h1.output, Nat.le_trans h1.size h2.size, fun i hi hne => (h2.block i (Nat.lt_of_lt_of_le hi h1.size) (fun e => by have := Option.some.inj e; have := HOw.out; omega)).trans (h1.block i hi hne)⟩)
        clear hms hA6 hF6 hR11 hg11 HX11 HO11 HOw11 HXe HOk HRk HOwk HRd HGk HMx
        go_upto_region 13 with (fail)
        generalize w11.setCell ⟨X, 35, none⟩ (.string ms) = w12 at *
        have HEn := Lib.hid (end_any R 3 110 A L C l A6 F6 E w12 HR12.out)
        clear hc hf
        go_wp2_with fail
        refine HEn.out.mono ?_
        rintro e w13 ⟨rfl, hR13, hg13⟩
        have HX13 := HX12.out.of_block (hg13.block X HX12.out.lt (fun e => by have := Option.some.inj e; omega))
        have HO13 := HO12.out.of_block (hg13.block O HO12.out.lt (fun e => by have := Option.some.inj e; omega))
        have HOw13 := own_grown HOw12.out hg13 (fun e => by have := (HOw12.out.lt R e).1; omega)
        have hg14 := grown_trans HG12.out hg13
        have hcl : (cm tr (.slice Ai q.2.2.length Ci) au (tv T) ms).length = 36 := cm_len tr _ au _ ms htl
        have hc1 := cm_one tr (.slice Ai q.2.2.length Ci) au (tv T) ms rfl
        have HLd : Hid (w13.rangeAt X 0 (cm tr (.slice Ai q.2.2.length Ci) au (tv T) ms)) := Lib.hid (fun j v hj => by
          have hl := (List.getElem?_eq_some_iff.1 hj).1
          rw [hcl] at hl
          rw [Nat.zero_add, HX13.cell hl, ← hj, cm_get tr _ au _ ms htl j hl])
        have HLt : Hid (w13.there O 0 (cm tr (.slice Ai q.2.2.length Ci) au (tv T) ms).toArray.size) := Lib.hid (fun j hj => by
          rw [List.size_toArray, hcl] at hj
          rw [Nat.zero_add]
          exact ⟨by rw [HO13.cell hj]; rfl, HO13.frozen _⟩)
        have HLs : Hid ((Try.prog.info? 40).map (·.size) = some (cm tr (.slice Ai q.2.2.length Ci) au (tv T) ms).length) := Lib.hid (by rw [hcl]; kernel_rfl)
        have HLs2 : Hid ((Try.prog.info? 40).map (·.size) = some (cm tr (.slice Ai q.2.2.length Ci) au (tv T) ms).toArray.size) := Lib.hid (by rw [List.size_toArray]; exact HLs.out)
        have HLo := Lib.hid (all_oneCell_toArray hc1)
        have HSt := Lib.hid (row_stored HO13 (cm tr (.slice Ai q.2.2.length Ci) au (tv T) ms) hcl)
        have HRz := Lib.hid (Rdr.laid (X := O) (by have := HOw.out; omega) (cm tr (.slice Ai q.2.2.length Ci) au (tv T) ms) 0 w13 (fun x hx h0 => by have := HAB.out x hx h0; omega) hR13)
        have HGz := Lib.hid (grown_laid (a := w) (E := O) (by have := HOw.out; omega) (cm tr (.slice Ai q.2.2.length Ci) au (tv T) ms) 0 w13 hg14)
        have HOz := Lib.hid (own_grown HOw13 (grown_cells w13 O (cm tr (.slice Ai q.2.2.length Ci) au (tv T) ms) 0) (fun e => by have := (HOw13.lt O e).1; omega))
        clear hR13 hg13 hg14 HX13 HO13 HOw13 hcl hc1 HX12 HO12 HR12 HOw12 HG12 HEn
        generalize hCM : cm tr (.slice Ai q.2.2.length Ci) au (tv T) ms = CM at *
        have HCM := Lib.hid hCM
        clear hCM
        go_wp2_with (first
          | (refine wpList_load_mid rfl _ _ rfl X 0 rfl CM _ HLd.out Try.underlying40 rfl HLs.out ?_)
          | (refine wpList_store_mid rfl _ _ _ rfl O 0 CM.toArray rfl rfl HLt.out HLs2.out HLo.out ?_))
        refine bodyPost_ret (results_cell_row rfl _ _ O _ _ _ _ rfl HSt.out Try.underlying40 rfl HLs2.out) rfl ?_
        have e2 : cF2 f0 l at' L = F2 := by unfold cF2 cT; rw [← HTr.out]; exact HE2.out
        have eQ : cQ f0 l at' L = q := by unfold cQ; rw [e2, ← HA1.out]; exact HQ.out.symm
        have eAu : cAu f0 l at' L = au := by unfold cAu; rw [eQ]; exact HAu.out.symm
        have e4 : cA4 f0 l at' L = A4 := by unfold cA4; rw [eQ]; exact HA4.out.symm
        have eF4 : cF4 f0 l at' L = F4 := by unfold cF4; rw [eQ]; exact HF4.out.symm
        have eB : cB f0 l at' L = T := by unfold cB; rw [eF4, e4]; exact HT.out.symm
        have e5 : cA5 f0 l at' L = A5 := by unfold cA5; rw [eF4, e4]; exact HA5.out.symm
        have eF5 : cF5 f0 l at' L = F5 := by unfold cF5; rw [eF4, e4]; exact HF5.out.symm
        have eMs : cMs f0 l at' L = ms := by unfold cMs; rw [eF5, e5]; exact HMs.out.symm
        have e6 : cA6 f0 l at' L = A6 := by unfold cA6; rw [eF5, e5]; exact HA6.out.symm
        have eF6 : cF6 f0 l at' L = F6 := by unfold cF6; rw [eF5, e5]; exact HF6.out.symm
        have eF7 : cF7 f0 l at' L = enF F6 A6 L := by unfold cF7; rw [eF6, e6]
        unfold CmRet
        rw [eQ, eAu, eB, eMs, e6, eF7, show cT f0 l at' L = tr from HTr.out.symm]
        exact ⟨H32.out, HRz.out, HGz.out, Ai, Ci, by rw [HCM.out], own_base HOz.out (by have := HOw.out; omega)⟩
end Go.Proofs.Ytmcmapgllaopmaa.Cd
