/- The reader: Ids. -/
import Derived.Test.YtmcmapgllaopmaaCdNumber
import Derived.Deep.RegionHeld3
import Derived.Deep.MidRow
namespace Go.Proofs.Ytmcmapgllaopmaa.Cd
open Go.RowKit
set_option linter.unusedVariables false

theorem step_copy_mid {w : World} {ops : Array Oper} {o : Oper} {a : Act} {K : Act → World → Prop} {Q : Exit → Act → World → Prop} {E : Prop} (hgd : o.guard = none) (d s : Operand)
    (ho : o.op = .call { callee := .builtin .copy, args := #[d, s], argTypes := #[23, 23] })
    (dp sp : Option Addr) (dLen dCap sLen sCap : Nat) (hd : a.eval d = .slice dp dLen dCap) (hs : a.eval s = .slice sp sLen sCap)
    (g off : Nat) (cs : List Value) (hn : cs.length = Nat.min sLen dLen)
    (hpos : 0 < cs.length → dp = some ⟨g, off, none⟩ ∧ ∃ ad, sp = some ad ∧ ∀ j v, cs[j]? = some v → w.cell? (ad.add j) = some v)
    (hc : ∀ j, j < cs.length → (w.cell? ⟨g, off + j, none⟩).isSome = true) (hf : ∀ j, j < cs.length → w.frozen? ⟨g, off + j, none⟩ = false) (h1 : ∀ v ∈ cs, v.oneCell' = true)
    (h : K (a.put o.dst (goInt cs.length)) (w.setCells g off cs)) : if Region.wanted o (yielded ops a.tmps) = true then Oper.wp Try.prog o a w K Q else E := by
  have hw : Region.wanted o (yielded ops a.tmps) = true := by simp [Region.wanted, hgd]
  rw [if_pos hw]
  exact wp_copy_mid d s ho dp sp dLen dCap sLen sCap hd hs g off cs hn hpos hc hf h1 h


/-- an Id out of bytes; noughts where there are none -/
def idv (T : List Int) : List Int := T ++ List.replicate (32 - T.length) 0
theorem idv_len (T : List Int) (h : T.length ≤ 32) : (idv T).length = 32 := by simp [idv]; omega
theorem lay_idv (T : List Int) (h : T.length ≤ 32) (j : Nat) (hj : j < 32) : layF (fun _ => .int .u8 0) 0 (bv T) j = .int .u8 ((idv T).getD j 0) := by
  rw [layF, bv_len]
  by_cases h1 : j < T.length
  · rw [if_pos (by omega), Nat.sub_zero]
    simp [bv, idv, List.getD, h1, List.getElem?_append_left]
  · rw [if_neg (by omega)]
    simp [idv, List.getD, List.getElem?_append_right (show T.length ≤ j by omega), show j - T.length < 32 - T.length by omega]
/-- what a copy of bytes that are read into a new Id asks -/
theorem copy_of {w : World} {I n C : Nat} {t : TypeId} {A : Option Addr} {T : List Int} {F : Nat → Value} (hr : w.rowIs I t 32 F) (h : RdB w A n C T) (hn : T.length ≤ 32) :
    (0 < (bv T).length → (some ⟨I, 0, none⟩ : Option Addr) = some ⟨I, 0, none⟩ ∧ ∃ ad, A = some ad ∧ ∀ j v, (bv T)[j]? = some v → w.cell? (ad.add j) = some v) ∧
    (∀ j, j < (bv T).length → (w.cell? ⟨I, 0 + j, none⟩).isSome = true) ∧ (∀ j, j < (bv T).length → w.frozen? ⟨I, 0 + j, none⟩ = false) := by
  have hl := h.len
  refine ⟨fun h0 => ⟨rfl, ?_⟩, fun j hj => ?_, fun j _ => hr.frozen _⟩
  · rw [bv_len] at h0
    cases hA : A with
    | none => have := h.none hA; have := h.cap; omega
    | some x =>
      obtain ⟨-, h2⟩ := h.cell x hA
      refine ⟨x, rfl, fun j v hj => ?_⟩
      have hjl := (List.getElem?_eq_some_iff.1 hj).1
      rw [bv_len] at hjl
      rw [h2 j (by omega), ← hj]
      simp [bv, hjl]
  · rw [bv_len] at hj
    rw [hr.cell (show 0 + j < 32 by omega)]; rfl
structure CpI (w : World) (I : Nat) (A : Option Addr) (T : List Int) : Prop where
  pos : 0 < (bv T).length → (some ⟨I, 0, none⟩ : Option Addr) = some ⟨I, 0, none⟩ ∧ ∃ ad, A = some ad ∧ ∀ j v, (bv T)[j]? = some v → w.cell? (ad.add j) = some v
  here : ∀ j, j < (bv T).length → (w.cell? ⟨I, 0 + j, none⟩).isSome = true
  free : ∀ j, j < (bv T).length → w.frozen? ⟨I, 0 + j, none⟩ = false
theorem grown_laid {a : World} {H E : Nat} (hE : a.heap.size ≤ E) : ∀ (vs : List Value) (o : Nat) (w : World), a.grownBy w (some H) → a.grownBy (w.setCells E o vs) (some H)
  | [], _, _, h => h
  | v :: vs, o, w, h => grown_laid hE vs (o + 1) _ ⟨h.os, h.tape, h.output, by simpa [World.setCell] using h.size, fun i hi hne => (Below.heap_setCell w ⟨E, o, none⟩ v i (by show i ≠ E; omega)).trans (h.block i hi hne)⟩
/-- cells are laid elsewhere than in the reader's block and in what it goes through -/
theorem Rdr.laid {R N : Nat} {t : TypeId} {A : Option Addr} {L C : Nat} {l : List Int} {at' : Nat} {f : Int} {E : Nat → Value} {X : Nat} (hX : X ≠ R) : ∀ (vs : List Value) (o : Nat) (w : World), (∀ x, A = some x → 0 < L → x.block ≠ X) → Rdr w R N t A L C l at' f E → Rdr (w.setCells X o vs) R N t A L C l at' f E
  | [], _, _, _, h => h
  | v :: vs, o, w, ha, h => Rdr.laid hX vs (o + 1) _ ha ⟨h.row.setOther (a := ⟨X, o, none⟩) (fun e => hX e.symm) v, h.hN, h.rd.grown (grown_set w X o v) ha, h.apart, h.le⟩
set_option maxRecDepth 100000 in
theorem zero32 (w : World) : (zeroValue 37).run Try.prog w = .ok (.agg (bv (List.replicate 32 0)).toArray) w := by rfl

set_option maxRecDepth 100000 in
set_option maxHeartbeats 2000000 in
theorem id_r (R N : Nat) (t : TypeId) (A : Option Addr) (L C : Nat) (l : List Int) (at' : Nat) (f : Int) (E : Nat → Value) (w : World) (h : Rdr w R N t A L C l at' f E) :
    Calls Try.prog 84 #[.pointer (some ⟨R, 0, none⟩)] w (NumRet R N t A L C l at' f E 32 (.agg (bv (idv (tkL f l at' L 32))).toArray) w) := by
  have hRl := h.row.lt
  have H := Lib.hid h
  have hlen : (tkL f l at' L 32).length ≤ 32 := by
    unfold tkL
    split
    · rw [List.length_take]; omega
    · simp
  have HAp : Hid ((∀ x, A = some x → 0 < L → x.block ≠ w.heap.size) ∧ (∀ x, A = some x → 0 < L → x.block ≠ w.heap.size + 1)) := Lib.hid ⟨fun x hx h0 => by have := (h.rd.cell x hx).1 h0; omega, fun x hx h0 => by have := (h.rd.cell x hx).1 h0; omega⟩
  clear h
  have hz1 := zero32
  generalize hZ1 : (bv (List.replicate 32 0)).toArray = Z1 at *
  have HZ1 := Lib.hid hZ1
  clear hZ1
  go_enter Try.func84, Try.ntmps84
  go_upto_region 1 with (fail)
  have HO1 : Hid ((w.alloc (.cells Z1 37)).rowIs w.heap.size 37 32 (fun _ => .int .u8 0)) := Lib.hid (by rw [← HZ1.out]; exact row_zeros w 32 _)
  have hs1 := al_lt w (.cells Z1 37)
  have HB1 := Lib.hid ((Below.refl w.heap.size w).alloc (Nat.le_refl _) (.cells Z1 37))
  generalize hw1 : w.alloc (.cells Z1 37) = w1 at *
  have hIs : w1.heap.size = w.heap.size + 1 := by rw [← hw1]; show (w.heap.push _).size = _; simp
  clear hw1
  rw [← hIs] at HAp
  clear hIs
  generalize hO : w.heap.size = O at *
  have HOw := Lib.hid hO
  clear hO
  go_upto_region 2 with (fail)
  have HO2 := Lib.hid (World.rowIs.alloc HO1.out (.cells Z1 37))
  have HB2 := Lib.hid (HB1.out.alloc (Nat.le_of_lt hs1) (.cells Z1 37))
  have HI2 : Hid ((w1.alloc (.cells Z1 37)).rowIs w1.heap.size 37 32 (fun _ => .int .u8 0)) := Lib.hid (by rw [← HZ1.out]; exact row_zeros w1 32 _)
  have hs2 := al_lt w1 (.cells Z1 37)
  clear HO1 HB1
  generalize w1.alloc (.cells Z1 37) = w2 at *
  generalize w1.heap.size = I at *
  have HR2 : Hid (Rdr w2 R N t A L C l at' f E) := Lib.hid (H.out.below (by rw [HOw.out]; exact HB2.out))
  have HT := Lib.hid (take_any R N t A L C l at' f E 32 w2.drew (HR2.out.drewN 1) (by omega))
  have HO3 := Lib.hid (World.rowIs.drew HO2.out)
  have HI3 := Lib.hid (World.rowIs.drew HI2.out)
  have HB3 : Hid (Below O w w2.drew) := Lib.hid HB2.out.drew
  generalize hTT : tkL f l at' L 32 = T at *
  clear HO2 HI2 HB2 HR2 H
  go_region_held3 (fun _ => True) (trivial) (first
    | (go_at_call 83
       refine HT.out.mono ?_
       rintro e w3 ⟨A', C', rfl, hrd, hne, hR, hg⟩
       rw [hTT] at hrd hne ⊢
       have HRd := Lib.hid hrd
       have HR := Lib.hid hR
       have HG := Lib.hid hg
       have HO4 := Lib.hid (World.rowIs.of_block HO3.out (hg.block O HO3.out.lt (fun e => by have := Option.some.inj e; omega)))
       have HI4 := Lib.hid (World.rowIs.of_block HI3.out (hg.block I HI3.out.lt (fun e => by have := Option.some.inj e; omega)))
       have HMn : Hid ((bv T).length = Nat.min T.length 32) := Lib.hid (by rw [bv_len]; exact (Nat.min_eq_left hlen).symm)
       have HCp : Hid (CpI w3 I A' T) := Lib.hid ⟨(copy_of HI4.out HRd.out hlen).1, (copy_of HI4.out HRd.out hlen).2.1, (copy_of HI4.out HRd.out hlen).2.2⟩
       clear hrd hne hR hg)
    | (refine step_copy_mid rfl (.tmp 4) (.tmp 6) rfl (some ⟨I, 0, none⟩) A' 32 32 T.length C' rfl rfl I 0 (bv T) HMn.out HCp.out.pos HCp.out.here HCp.out.free (bv_one T) ?_))
  have hdl := idv_len T hlen
  have hbl : (bv (idv T)).length = 32 := by rw [bv_len, hdl]
  have HRg : Hid ((w3.setCells I 0 (bv T)).rangeAt I 0 (bv (idv T))) := Lib.hid (fun j v hj => by
    have hl := (List.getElem?_eq_some_iff.1 hj).1
    rw [hbl] at hl
    rw [Nat.zero_add, (row_lay HI4.out 0 (bv T)).cell hl, lay_idv T hlen j hl, ← hj]
    simp [bv, hdl, hl])
  have HSz : Hid ((Try.prog.info? 37).map (·.size) = some (bv (idv T)).length) := Lib.hid (by rw [hbl]; kernel_rfl)
  have HSz2 : Hid ((Try.prog.info? 37).map (·.size) = some (bv (idv T)).toArray.size) := Lib.hid (by rw [List.size_toArray]; exact HSz.out)
  have HOne := Lib.hid (all_oneCell_toArray (bv_one (idv T)))
  have HO5 : Hid ((w3.setCells I 0 (bv T)).rowIs O 37 32 (fun _ => .int .u8 0)) := Lib.hid (row_apart (by omega) (bv T) 0 w3 HO4.out)
  have HTh : Hid ((w3.setCells I 0 (bv T)).there O 0 (bv (idv T)).toArray.size) := Lib.hid (fun j hj => by
    rw [List.size_toArray, hbl] at hj
    rw [Nat.zero_add]
    exact ⟨by rw [HO5.out.cell hj]; rfl, HO5.out.frozen _⟩)
  have HSt := Lib.hid (row_stored HO5.out (bv (idv T)) hbl)
  have hg3 := HG.out
  have HGx : Hid (w.grownBy ((w3.setCells I 0 (bv T)).setCells O 0 (bv (idv T))) (some R)) := Lib.hid (by
    have hb3 : Below O w w2.drew := HB3.out
    have hz : O ≤ w2.drew.heap.size := by have := HO3.out.lt; omega
    have h0 : w.grownBy w2.drew (some R) := ⟨hb3.os, hb3.tape, hb3.output, by rw [HOw.out]; exact hz, fun i hi _ => hb3.block i (by rw [← HOw.out]; exact hi)⟩
    have h1 := grown_trans h0 hg3
    exact grown_laid (by have := HOw.out; omega) (bv (idv T)) 0 _ (grown_laid (by have := HOw.out; omega) (bv T) 0 w3 h1))
  have HRx : Hid (Rdr ((w3.setCells I 0 (bv T)).setCells O 0 (bv (idv T))) R N t A L C l (tkA f at' L 32) (tkF f at' L 32) E) := Lib.hid (Rdr.laid (by omega) (bv (idv T)) 0 _ HAp.out.1 (Rdr.laid (by omega) (bv T) 0 w3 HAp.out.2 HR.out))
  clear hg3 hbl hdl HMn HCp HI4 HO4 HO5 HR HG HB3 HRd HO3 HI3
  generalize bv T = TL at *
  generalize bv (idv T) = DL at *
  go_wp2_with (first
    | (refine wpList_load_mid rfl _ _ rfl I 0 rfl DL _ HRg.out Try.underlying37 rfl HSz.out ?_)
    | (refine wpList_store_mid rfl _ _ _ rfl O 0 DL.toArray rfl rfl HTh.out HSz2.out HOne.out ?_))
  refine bodyPost_ret (results_cell_row rfl _ _ O _ _ _ _ rfl HSt.out Try.underlying37 rfl HSz2.out) rfl ?_
  exact ⟨rfl, HRx.out, HGx.out⟩
end Go.Proofs.Ytmcmapgllaopmaa.Cd
