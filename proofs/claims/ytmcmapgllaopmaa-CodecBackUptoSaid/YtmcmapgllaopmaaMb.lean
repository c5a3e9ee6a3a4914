/- Texts of one's own, merged: CdId, CdCheck, CdTr, CdEntry, CdParse, CdTxt. -/
import Derived.Test.YtmcmapgllaopmaaMa

section
namespace Go.Proofs.Ytmcmapgllaopmaa.Cd
open Go.RowKit
set_option linter.unusedVariables false
theorem step_copy_mid {w : World} {ops : Array Oper} {o : Oper} {a : Act} {K : Act → World → Prop} {Q : Exit → Act → World → Prop} {E : Prop} (hgd : o.guard = none) (d s : Operand)
    (ho : o.op = .call { callee := .builtin .copy, args := #[d, s], argTypes := #[23, 23] })
    (dp sp : Option Addr) (dLen dCap sLen sCap : Nat) (hd : a.eval d = .slice dp dLen dCap) (hs : a.eval s = .slice sp sLen sCap)
    (g off : Nat) (cs : List Value) (hn : cs.length = Nat.min sLen dLen)
    (hpos : 0 < cs.length → dp = some ⟨g, off, none⟩ ∧ ∃ ad, sp = some ad ∧ ∀ j v, cs[j]? = some v → w.cell? (ad.add j) = some v)
    (hc : ∀ j, j < cs.length → (w.cell? ⟨g, off + j, none⟩).isSome = true) (hf : ∀ j, j < cs.length → w.frozen? ⟨g, off + j, none⟩ = false) (h1 : ∀ v ∈ cs, v.oneCell' = true)
    (h : K (a.put o.dst (goInt cs.length)) (w.setCells g off cs)) : if Region.wanted o (yielded ops a.tmps) = true then Oper.wp Try.prog o a w K Q else E := by
  have hw : Region.wanted o (yielded ops a.tmps) = true := by simp [Region.wanted, hgd]
  rw [if_pos hw]
  exact wp_copy_mid d s ho dp sp dLen dCap sLen sCap hd hs g off cs hn hpos hc hf h1 h
/-- an Id out of bytes; noughts where there are none -/
def idv (T : List Int) : List Int := T ++ List.replicate (32 - T.length) 0
theorem idv_len (T : List Int) (h : T.length ≤ 32) : (idv T).length = 32 := by simp [idv]; omega
theorem lay_idv (T : List Int) (h : T.length ≤ 32) (j : Nat) (hj : j < 32) : layF (fun _ => .int .u8 0) 0 (bv T) j = .int .u8 ((idv T).getD j 0) := by
  rw [layF, bv_len]
  by_cases h1 : j < T.length
  · rw [if_pos (by omega), Nat.sub_zero]
    simp [bv, idv, List.getD, h1, List.getElem?_append_left]
  · rw [if_neg (by omega)]
    simp [idv, List.getD, List.getElem?_append_right (show T.length ≤ j by omega), show j - T.length < 32 - T.length by omega]
/-- what a copy of bytes that are read into a new Id asks -/
theorem copy_of {w : World} {I n C : Nat} {t : TypeId} {A : Option Addr} {T : List Int} {F : Nat → Value} (hr : w.rowIs I t 32 F) (h : RdB w A n C T) (hn : T.length ≤ 32) :
    (0 < (bv T).length → (some ⟨I, 0, none⟩ : Option Addr) = some ⟨I, 0, none⟩ ∧ ∃ ad, A = some ad ∧ ∀ j v, (bv T)[j]? = some v → w.cell? (ad.add j) = some v) ∧
    (∀ j, j < (bv T).length → (w.cell? ⟨I, 0 + j, none⟩).isSome = true) ∧ (∀ j, j < (bv T).length → w.frozen? ⟨I, 0 + j, none⟩ = false) := by
  have hl := h.len
  refine ⟨fun h0 => ⟨rfl, ?_⟩, fun j hj => ?_, fun j _ => hr.frozen _⟩
  · rw [bv_len] at h0
    cases hA : A with
    | none => have := h.none hA; have := h.cap; omega
    | some x =>
      obtain ⟨-, h2⟩ := h.cell x hA
      refine ⟨x, rfl, fun j v hj => ?_⟩
      have hjl := (List.getElem?_eq_some_iff.1 hj).1
      rw [bv_len] at hjl
      rw [h2 j (by omega), ← hj]
      simp [bv, hjl]
  · rw [bv_len] at hj
    rw [hr.cell (show 0 + j < 32 by omega)]; rfl
structure CpI (w : World) (I : Nat) (A : Option Addr) (T : List Int) : Prop where
  pos : 0 < (bv T).length → (some ⟨I, 0, none⟩ : Option Addr) = some ⟨I, 0, none⟩ ∧ ∃ ad, A = some ad ∧ ∀ j v, (bv T)[j]? = some v → w.cell? (ad.add j) = some v
  here : ∀ j, j < (bv T).length → (w.cell? ⟨I, 0 + j, none⟩).isSome = true
  free : ∀ j, j < (bv T).length → w.frozen? ⟨I, 0 + j, none⟩ = false
theorem grown_laid {a : World} {H E : Nat} (hE : a.heap.size ≤ E) : ∀ (vs : List Value) (o : Nat) (w : World), a.grownBy w (some H) → a.grownBy (w.setCells E o vs) (some H)
  | [], _, _, h => h
  | v :: vs, o, w, h => grown_laid hE vs (o + 1) _ ⟨h.os, h.tape, h.output, by simpa [World.setCell] using h.size, fun i hi hne => (Below.heap_setCell w ⟨E, o, none⟩ v i (by show i ≠ E; omega)).trans (h.block i hi hne)⟩
/-- cells are laid elsewhere than in the reader's block and in what it goes through -/
theorem Rdr.laid {R N : Nat} {t : TypeId} {A : Option Addr} {L C : Nat} {l : List Int} {at' : Nat} {f : Int} {E : Nat → Value} {X : Nat} (hX : X ≠ R) : ∀ (vs : List Value) (o : Nat) (w : World), (∀ x, A = some x → 0 < L → x.block ≠ X) → Rdr w R N t A L C l at' f E → Rdr (w.setCells X o vs) R N t A L C l at' f E
  | [], _, _, _, h => h
  | v :: vs, o, w, ha, h => Rdr.laid hX vs (o + 1) _ ha ⟨h.row.setOther (a := ⟨X, o, none⟩) (fun e => hX e.symm) v, h.hN, h.rd.grown (grown_set w X o v) ha, h.apart, h.le⟩
set_option maxRecDepth 100000 in
theorem zero32 (w : World) : (zeroValue 37).run Try.prog w = .ok (.agg (bv (List.replicate 32 0)).toArray) w := by rfl
set_option maxRecDepth 100000 in
set_option maxHeartbeats 2000000 in
theorem id_r (R N : Nat) (t : TypeId) (A : Option Addr) (L C : Nat) (l : List Int) (at' : Nat) (f : Int) (E : Nat → Value) (w : World) (h : Rdr w R N t A L C l at' f E) :
    Calls Try.prog 84 #[.pointer (some ⟨R, 0, none⟩)] w (NumRet R N t A L C l at' f E 32 (.agg (bv (idv (tkL f l at' L 32))).toArray) w) := by
  have hRl := h.row.lt
  have H := Lib.hid h
  have hlen : (tkL f l at' L 32).length ≤ 32 := by
    unfold tkL
    split
    · rw [List.length_take]; omega
    · simp
  have HAp : Hid ((∀ x, A = some x → 0 < L → x.block ≠ w.heap.size) ∧ (∀ x, A = some x → 0 < L → x.block ≠ w.heap.size + 1)) := Lib.hid ⟨fun x hx h0 => by have := (h.rd.cell x hx).1 h0; omega, fun x hx h0 => by have := (h.rd.cell x hx).1 h0; omega⟩
  clear h
  have hz1 := zero32
  generalize hZ1 : (bv (List.replicate 32 0)).toArray = Z1 at *
  have HZ1 := Lib.hid hZ1
  clear hZ1
  go_enter Try.func84, Try.ntmps84
  go_upto_region 1 with (fail)
  have HO1 : Hid ((w.alloc (.cells Z1 37)).rowIs w.heap.size 37 32 (fun _ => .int .u8 0)) := Lib.hid (by rw [← HZ1.out]; exact row_zeros w 32 _)
  have hs1 := al_lt w (.cells Z1 37)
  have HB1 := Lib.hid ((Below.refl w.heap.size w).alloc (Nat.le_refl _) (.cells Z1 37))
  generalize hw1 : w.alloc (.cells Z1 37) = w1 at *
  have hIs : w1.heap.size = w.heap.size + 1 := by rw [← hw1]; show (w.heap.push _).size = _; simp
  clear hw1
  rw [← hIs] at HAp
  clear hIs
  generalize hO : w.heap.size = O at *
  have HOw := Lib.hid hO
  clear hO
  go_upto_region 2 with (fail)
  have HO2 := Lib.hid (World.rowIs.alloc HO1.out (.cells Z1 37))
  have HB2 := Lib.hid (HB1.out.alloc (Nat.le_of_lt hs1) (.cells Z1 37))
  have HI2 : Hid ((w1.alloc (.cells Z1 37)).rowIs w1.heap.size 37 32 (fun _ => .int .u8 0)) := Lib.hid (by rw [← HZ1.out]; exact row_zeros w1 32 _)
  have hs2 := al_lt w1 (.cells Z1 37)
  clear HO1 HB1
  generalize w1.alloc (.cells Z1 37) = w2 at *
  generalize w1.heap.size = I at *
  have HR2 : Hid (Rdr w2 R N t A L C l at' f E) := Lib.hid (H.out.below (by rw [HOw.out]; exact HB2.out))
  have HT := Lib.hid (take_any R N t A L C l at' f E 32 w2.drew (HR2.out.drewN 1) (by omega))
  have HO3 := Lib.hid (World.rowIs.drew HO2.out)
  have HI3 := Lib.hid (World.rowIs.drew HI2.out)
  have HB3 : Hid (Below O w w2.drew) := Lib.hid HB2.out.drew
  generalize hTT : tkL f l at' L 32 = T at *
  clear HO2 HI2 HB2 HR2 H
  go_region_held3 (fun _ => True) (trivial) (first
    | (go_at_call 83
       refine HT.out.mono ?_
       rintro e w3 ⟨A', C', rfl, hrd, hne, hR, hg⟩
       rw [hTT] at hrd hne ⊢
       have HRd := Lib.hid hrd
       have HR := Lib.hid hR
       have HG := Lib.hid hg
       have HO4 := Lib.hid (World.rowIs.of_block HO3.out (hg.block O HO3.out.lt (fun e => by have := Option.some.inj e; omega)))
       have HI4 := Lib.hid (World.rowIs.of_block HI3.out (hg.block I HI3.out.lt (fun e => by have := Option.some.inj e; omega)))
       have HMn : Hid ((bv T).length = Nat.min T.length 32) := Lib.hid (by rw [bv_len]; exact (Nat.min_eq_left hlen).symm)
       have HCp : Hid (CpI w3 I A' T) := Lib.hid ⟨(copy_of HI4.out HRd.out hlen).1, (copy_of HI4.out HRd.out hlen).2.1, (copy_of HI4.out HRd.out hlen).2.2⟩
       clear hrd hne hR hg)
    | (refine step_copy_mid rfl (.tmp 4) (.tmp 6) rfl (some ⟨I, 0, none⟩) A' 32 32 T.length C' rfl rfl I 0 (bv T) HMn.out HCp.out.pos HCp.out.here HCp.out.free (bv_one T) ?_))
  have hdl := idv_len T hlen
  have hbl : (bv (idv T)).length = 32 := by rw [bv_len, hdl]
  have HRg : Hid ((w3.setCells I 0 (bv T)).rangeAt I 0 (bv (idv T))) := Lib.hid (fun j v hj => by
    have hl := (List.getElem?_eq_some_iff.1 hj).1
    rw [hbl] at hl
    rw [Nat.zero_add, (row_lay HI4.out 0 (bv T)).cell hl, lay_idv T hlen j hl, ← hj]
    simp [bv, hdl, hl])
  have HSz : Hid ((Try.prog.info? 37).map (·.size) = some (bv (idv T)).length) := Lib.hid (by rw [hbl]; kernel_rfl)
  have HSz2 : Hid ((Try.prog.info? 37).map (·.size) = some (bv (idv T)).toArray.size) := Lib.hid (by rw [List.size_toArray]; exact HSz.out)
  have HOne := Lib.hid (all_oneCell_toArray (bv_one (idv T)))
  have HO5 : Hid ((w3.setCells I 0 (bv T)).rowIs O 37 32 (fun _ => .int .u8 0)) := Lib.hid (row_apart (by omega) (bv T) 0 w3 HO4.out)
  have HTh : Hid ((w3.setCells I 0 (bv T)).there O 0 (bv (idv T)).toArray.size) := Lib.hid (fun j hj => by
    rw [List.size_toArray, hbl] at hj
    rw [Nat.zero_add]
    exact ⟨by rw [HO5.out.cell hj]; rfl, HO5.out.frozen _⟩)
  have HSt := Lib.hid (row_stored HO5.out (bv (idv T)) hbl)
  have hg3 := HG.out
  have HGx : Hid (w.grownBy ((w3.setCells I 0 (bv T)).setCells O 0 (bv (idv T))) (some R)) := Lib.hid (by
    have hb3 : Below O w w2.drew := HB3.out
    have hz : O ≤ w2.drew.heap.size := by have := HO3.out.lt; omega
    have h0 : w.grownBy w2.drew (some R) := ⟨hb3.os, hb3.tape, hb3.output, by rw [HOw.out]; exact hz, fun i hi _ => hb3.block i (by rw [← HOw.out]; exact hi)⟩
    have h1 := grown_trans h0 hg3
    exact grown_laid (by have := HOw.out; omega) (bv (idv T)) 0 _ (grown_laid (by have := HOw.out; omega) (bv T) 0 w3 h1))
  have HRx : Hid (Rdr ((w3.setCells I 0 (bv T)).setCells O 0 (bv (idv T))) R N t A L C l (tkA f at' L 32) (tkF f at' L 32) E) := Lib.hid (Rdr.laid (by omega) (bv (idv T)) 0 _ HAp.out.1 (Rdr.laid (by omega) (bv T) 0 w3 HAp.out.2 HR.out))
  clear hg3 hbl hdl HMn HCp HI4 HO4 HO5 HR HG HB3 HRd HO3 HI3
  generalize bv T = TL at *
  generalize bv (idv T) = DL at *
  go_wp2_with (first
    | (refine wpList_load_mid rfl _ _ rfl I 0 rfl DL _ HRg.out Try.underlying37 rfl HSz.out ?_)
    | (refine wpList_store_mid rfl _ _ _ rfl O 0 DL.toArray rfl rfl HTh.out HSz2.out HOne.out ?_))
  refine bodyPost_ret (results_cell_row rfl _ _ O _ _ _ _ rfl HSt.out Try.underlying37 rfl HSz2.out) rfl ?_
  exact ⟨rfl, HRx.out, HGx.out⟩
end Go.Proofs.Ytmcmapgllaopmaa.Cd
end

section
namespace Go.Proofs.Ytmcmapgllaopmaa.Cd
open Go.RowKit
set_option linter.unusedVariables false
/-- is a text at or ahead of another one? -/
def leS (a b : ByteArray) : Bool := Op.bytesLess a.toList b.toList || a.toList == b.toList
/-- why an entry may not stand behind one ahead -/
def ce (k : Int) (nm : ByteArray) (ids : List Int) (prev : Option ByteArray) : Int :=
  if k < 1 ∨ 4 < k then 3 else if ¬ NmOk nm then 7 else if ids = List.replicate 32 0 then 1 else match prev with
    | some q => if leS nm q = true then 18 else 0
    | none => 0
/-- what lies ahead: its last name -/
structure Ahd (w : World) (A : Option Addr) (n C : Nat) (prev : Option ByteArray) : Prop where
  cap : n ≤ C
  max : C ≤ 9223372036854775807
  big : n ≤ 1000000
  none : n = 0 → prev = none
  last : 0 < n → ∃ g o q, A = some ⟨g, o, Option.none⟩ ∧ prev = some q ∧ w.cell? ⟨g, o + (n - 1) * 34, Option.none⟩ = some (.string q) ∧ g < w.heap.size
set_option maxRecDepth 100000 in
set_option maxHeartbeats 2000000 in
theorem check_any (s : ByteArray) (k : Int) (ids : List Int) (hids : ids.length = 32) (hs : s.size ≤ 140737488355327) (A : Option Addr) (n C : Nat) (prev : Option ByteArray) (w : World) (h : Ahd w A n C prev) :
    Calls Try.prog 40 #[.agg (ent s k ids).toArray, .slice A n C] w fun e w' => e = .returned (.int .i64 (ce k s ids prev)) ∧ Below w.heap.size w w' := by
  have hcl := ent_cells s k ids
  have h0 := al_cell w (ent s k ids).toArray 87 0 (.string s) rfl
  have h1 := al_cell w (ent s k ids).toArray 87 1 (.int .i64 k) rfl
  have HR := Lib.hid (ent_range2 s k ids w 87)
  have HL := Lib.hid (show (Try.prog.info? 37).map (·.size) = some (bv ids).length by rw [bv, List.length_map, hids]; kernel_rfl)
  have HN := Lib.hid (fun W => name_any s W (Nat.le_trans hs (by decide)))
  generalize hE : ent s k ids = E at *
  have HE := Lib.hid hE
  clear hE
  have HA := Lib.hid ((Below.refl w.heap.size w).alloc (Nat.le_refl _) (.cells E.toArray 87))
  by_cases hk : k < 1 ∨ 4 < k
  · have e1 : ce k s ids prev = 3 := by unfold ce; rw [if_pos hk]
    rw [e1]
    clear e1
    rcases hk with hk | hk
    · go_enter Try.func40, Try.ntmps40
      go_wp2_with fail
      go_ret
      exact ⟨rfl, HA.out⟩
    · have hk2 : ¬ k < 1 := by omega
      go_enter Try.func40, Try.ntmps40
      go_wp2_with fail
      go_ret
      exact ⟨rfl, HA.out⟩
  · have hk1 : 1 ≤ k := by omega
    have hk4 : k ≤ 4 := by omega
    by_cases hnm : NmOk s
    · have hn1 : decide (NmOk s) = true := decide_eq_true hnm
      rw [hn1] at HN
      have hq : ∀ W, (Op.equalIn 10000 37 (.agg (bv ids).toArray) (.agg #[.int .u8 0, .int .u8 0, .int .u8 0, .int .u8 0, .int .u8 0, .int .u8 0, .int .u8 0, .int .u8 0, .int .u8 0, .int .u8 0, .int .u8 0, .int .u8 0, .int .u8 0, .int .u8 0, .int .u8 0, .int .u8 0, .int .u8 0, .int .u8 0, .int .u8 0, .int .u8 0, .int .u8 0, .int .u8 0, .int .u8 0, .int .u8 0, .int .u8 0, .int .u8 0, .int .u8 0, .int .u8 0, .int .u8 0, .int .u8 0, .int .u8 0, .int .u8 0])).run Try.prog W = .ok (decide (ids = List.replicate 32 0)) W := fun W => ids_none ids hids W
      by_cases hz : ids = List.replicate 32 0
      · have e1 : ce k s ids prev = 1 := by unfold ce; rw [if_neg hk, if_neg (fun h => h hnm), if_pos hz]
        rw [e1]
        have hz2 : decide (ids = List.replicate 32 0) = true := decide_eq_true hz
        rw [hz2] at hq
        clear e1 hk hz hz2 hn1
        generalize bv ids = DI at *
        go_enter Try.func40, Try.ntmps40
        go_wp2_with fail
        refine (HN.out _).mono ?_
        rintro e w1 ⟨rfl, rfl⟩
        go_wp2_with (refine wpList_load_mid rfl _ _ rfl w.heap.size 2 rfl DI _ HR.out Try.underlying37 rfl HL.out ?_)
        go_ret
        exact ⟨rfl, HA.out⟩
      · have hz2 : decide (ids = List.replicate 32 0) = false := decide_eq_false hz
        rw [hz2] at hq
        by_cases hn0 : n = 0
        · have e1 : ce k s ids prev = 0 := by unfold ce; rw [if_neg hk, if_neg (fun h => h hnm), if_neg hz, h.none hn0]
          rw [e1]
          subst hn0
          clear e1 hk hz hz2 hn1
          generalize bv ids = DI at *
          go_enter Try.func40, Try.ntmps40
          go_wp2_with fail
          refine (HN.out _).mono ?_
          rintro e w1 ⟨rfl, rfl⟩
          go_wp2_with (refine wpList_load_mid rfl _ _ rfl w.heap.size 2 rfl DI _ HR.out Try.underlying37 rfl HL.out ?_)
          go_quiet (fail)
          go_wp2
          go_ret
          exact ⟨rfl, below_drewN HA.out _⟩
        · obtain ⟨g, o, q, rfl, hp, hc, hg⟩ := h.last (by omega)
          obtain ⟨p, hpn⟩ : ∃ p, p + 1 = n := ⟨n - 1, by omega⟩
          have hcap := h.cap
          have hmax := h.max
          have hbig := h.big
          have e1 : ce k s ids prev = if leS s q = true then 18 else 0 := by unfold ce; rw [if_neg hk, if_neg (fun h => h hnm), if_neg hz, hp]
          rw [e1]
          have hc2 : (w.alloc (.cells E.toArray 87)).cell? ⟨g, o + p * 34, none⟩ = some (.string q) := by
            have h5 := al_keep hc (.cells E.toArray 87)
            rw [show n - 1 = p by omega] at h5
            exact h5
          have i1 : (n : Int) - 1 = (p : Int) := by omega
          have wp : IntKind.i64.wrap (p : Int) = (p : Int) := IntWalk.i64_in _ (by omega)
          have p0 : (0 : Int) ≤ (p : Int) := by omega
          have p1 : (p : Int) < (n : Int) := by omega
          have hnp : 0 < n := by omega
          have hd : decide (0 < n) = true := decide_eq_true hnp
          have hle : (Op.bytesLess s.toList q.toList || s.toList == q.toList) = leS s q := rfl
          clear e1 hk hz hz2 hn1 hpn hp hc hn0 h
          generalize bv ids = DI at *
          cases hB : leS s q
          · rw [hB] at hle
            clear hB
            go_enter Try.func40, Try.ntmps40
            go_wp2_with fail
            refine (HN.out _).mono ?_
            rintro e w1 ⟨rfl, rfl⟩
            go_wp2_with (refine wpList_load_mid rfl _ _ rfl w.heap.size 2 rfl DI _ HR.out Try.underlying37 rfl HL.out ?_)
            go_quiet (fail)
            go_wp2
            go_ret
            exact ⟨rfl, below_drewN HA.out _⟩
          · rw [hB] at hle
            clear hB
            go_enter Try.func40, Try.ntmps40
            go_wp2_with fail
            refine (HN.out _).mono ?_
            rintro e w1 ⟨rfl, rfl⟩
            go_wp2_with (refine wpList_load_mid rfl _ _ rfl w.heap.size 2 rfl DI _ HR.out Try.underlying37 rfl HL.out ?_)
            go_quiet (fail)
            go_wp2
            go_ret
            exact ⟨rfl, below_drewN HA.out _⟩
    · have e1 : ce k s ids prev = 7 := by unfold ce; rw [if_neg hk, if_pos hnm]
      have hn1 : decide (NmOk s) = false := decide_eq_false hnm
      rw [hn1] at HN
      rw [e1]
      clear e1 hk
      go_enter Try.func40, Try.ntmps40
      go_wp2_with fail
      refine (HN.out _).mono ?_
      rintro e w1 ⟨rfl, rfl⟩
      go_wp2_with fail
      go_ret
      exact ⟨rfl, HA.out⟩
end Go.Proofs.Ytmcmapgllaopmaa.Cd
end

section
namespace Go.Proofs.Ytmcmapgllaopmaa.Cd
open Go.RowKit
set_option linter.unusedVariables false
def entsV (es : List Fr.Ent) : List Value := es.flatMap Fr.Ent.cells
theorem ent_len (x : Fr.Ent) (h : x.id.length = 32) : x.cells.length = 34 := by simp [Fr.Ent.cells, h]
/-- a tree's reader: the bytes, the entries that it has -/
structure Tr (w : World) (R : Nat) (A : Option Addr) (L C : Nat) (l : List Int) (at' : Nat) (f : Int) (B : Nat) (Ae : Option Addr) (ne Ce : Nat) (es : List Fr.Ent) : Prop where
  rdr : Rdr w R 4 96 A L C l at' f (fun _ => .slice Ae ne Ce)
  own : w.ownsRow B 87 34 (.slice Ae ne Ce) ne (entsV es)
  hB : R < B
  hBs : B ≤ w.heap.size
  ids : ∀ x ∈ es, x.id.length = 32
  hAB : ∀ x, A = some x → 0 < L → x.block < B
  hne : es.length = ne
/-- what one entry's bytes say -/
structure Rd1 where
  pos : Nat
  f : Int
  k : Int
  nm : ByteArray
  id : List Int
def rdM (l : List Int) (at' L : Nat) : Nat := (nv (tkL (tkF 0 at' L 1) l (tkA 0 at' L 1) L 1)).toNat
def rd1 (l : List Int) (at' L : Nat) : Rd1 :=
  ⟨tkA (tkF (tkF (tkF 0 at' L 1) (tkA 0 at' L 1) L 1) (tkA (tkF 0 at' L 1) (tkA 0 at' L 1) L 1) L (rdM l at' L)) (tkA (tkF (tkF 0 at' L 1) (tkA 0 at' L 1) L 1) (tkA (tkF 0 at' L 1) (tkA 0 at' L 1) L 1) L (rdM l at' L)) L 32,
   tkF (tkF (tkF (tkF 0 at' L 1) (tkA 0 at' L 1) L 1) (tkA (tkF 0 at' L 1) (tkA 0 at' L 1) L 1) L (rdM l at' L)) (tkA (tkF (tkF 0 at' L 1) (tkA 0 at' L 1) L 1) (tkA (tkF 0 at' L 1) (tkA 0 at' L 1) L 1) L (rdM l at' L)) L 32,
   nv (tkL 0 l at' L 1),
   sb (tkL (tkF (tkF 0 at' L 1) (tkA 0 at' L 1) L 1) l (tkA (tkF 0 at' L 1) (tkA 0 at' L 1) L 1) L (rdM l at' L)),
   idv (tkL (tkF (tkF (tkF 0 at' L 1) (tkA 0 at' L 1) L 1) (tkA (tkF 0 at' L 1) (tkA 0 at' L 1) L 1) L (rdM l at' L)) l (tkA (tkF (tkF 0 at' L 1) (tkA 0 at' L 1) L 1) (tkA (tkF 0 at' L 1) (tkA 0 at' L 1) L 1) L (rdM l at' L)) L 32)⟩
/-- what failed behind one more entry -/
def rdF (l : List Int) (at' L cnt : Nat) (prev : Option ByteArray) : Int :=
  fl (if cnt = 512 then fl (rd1 l at' L).f 4 else (rd1 l at' L).f) (ce (rd1 l at' L).k (rd1 l at' L).nm (rd1 l at' L).id prev)
/-- the last name -/
def lastN (es : List Fr.Ent) : Option ByteArray := es.getLast?.map Fr.Ent.name
set_option maxRecDepth 100000 in
theorem zeroE (w : World) : (zeroValue 87).run Try.prog w = .ok (.agg (ent ByteArray.empty 0 (List.replicate 32 0)).toArray) w := by rfl
theorem tkL_one (f : Int) (l : List Int) (at' L : Nat) (hl : l.length = L) (hb : ∀ i, i < L → 0 ≤ l.getD i 0 ∧ l.getD i 0 ≤ 255) : 0 ≤ nv (tkL f l at' L 1) ∧ nv (tkL f l at' L 1) ≤ 255 := by
  unfold tkL
  split
  · have h2 := nv_bound 1 ((l.drop at').take 1) (by rw [List.length_take]; omega) (fun i hi => by
      rw [List.length_take, List.length_drop] at hi
      rw [take_getD _ _ _ (by omega)]
      have := hb (at' + i) (by omega)
      simpa [List.getD] using this)
    have : (256 : Int) ^ 1 = 256 := by decide
    omega
  · exact ⟨by decide, by decide⟩
/-- the entry's own block while it is read -/
structure Xr (w W : World) (R X : Nat) (F : Nat → Value) : Prop where
  row : W.rowIs X 87 34 F
  hRX : R < X
  hX : w.heap.size ≤ X
  gr : w.grownBy W (some R)
theorem Xr.grown {w W W' : World} {R X : Nat} {F : Nat → Value} (h : Xr w W R X F) (hg : W.grownBy W' (some R)) : Xr w W' R X F :=
  ⟨h.row.of_block (hg.block X h.row.lt (fun e => by have := Option.some.inj e; have := h.hRX; omega)), h.hRX, h.hX, grown_trans h.gr hg⟩
theorem Xr.set {w W : World} {R X : Nat} {F : Nat → Value} (h : Xr w W R X F) (i : Nat) (v : Value) : Xr w (W.setCell ⟨X, i, none⟩ v) R X (fun j => if j = i then v else F j) :=
  ⟨h.row.set i v, h.hRX, h.hX, ⟨h.gr.os, h.gr.tape, h.gr.output, by simpa [World.setCell] using h.gr.size, fun k hk hne => (Below.heap_setCell W ⟨X, i, none⟩ v k (by have := h.hX; show k ≠ X; omega)).trans (h.gr.block k hk hne)⟩⟩
theorem Xr.drewN {w W : World} {R X : Nat} {F : Nat → Value} (h : Xr w W R X F) (n : Nat) : Xr w (W.drewN n) R X F :=
  ⟨h.row, h.hRX, h.hX, ⟨h.gr.os, h.gr.tape, h.gr.output, h.gr.size, h.gr.block⟩⟩
/-- the tree's reader stays where elsewhere is written -/
theorem Rdr.setX {w : World} {R N : Nat} {t : TypeId} {A : Option Addr} {L C : Nat} {l : List Int} {at' : Nat} {f : Int} {E : Nat → Value} (h : Rdr w R N t A L C l at' f E) (X i : Nat) (v : Value) (hX : X ≠ R) (ha : ∀ x, A = some x → 0 < L → x.block ≠ X) : Rdr (w.setCell ⟨X, i, none⟩ v) R N t A L C l at' f E :=
  ⟨h.row.setOther (a := ⟨X, i, none⟩) (fun e => hX e.symm) v, h.hN, h.rd.grown (grown_set w X i v) ha, h.apart, h.le⟩
theorem own_grown {w w' : World} {B e sz n : Nat} {v : Value} {xs : List Value} {k : Nat} (h : w.ownsRow B e sz v n xs) (hg : w.grownBy w' (some k)) (hk : v.ownBlock ≠ some k) : w'.ownsRow B e sz v n xs := by
  refine h.kept hg ?_
  cases hv : v.ownBlock with
  | none => exact .inl rfl
  | some j => exact .inr fun e => hk (by rw [hv]; exact e)
theorem grown_cells_of {a : World} {X : Nat} : ∀ (vs : List Value) (o : Nat) (w : World), a.grownBy w (some X) → a.grownBy (w.setCells X o vs) (some X)
  | [], _, _, h => h
  | v :: vs, o, w, h => grown_cells_of vs (o + 1) _ (grown_trans h (grown_set w X o v))
theorem grown_cells (w : World) (X : Nat) (vs : List Value) (o : Nat) : w.grownBy (w.setCells X o vs) (some X) := grown_cells_of vs o w (World.grownBy.refl w (some X))
theorem info87 : (Try.prog.info? 87).map (fun i => (i.zero, i.size, i.bytes)) = some (some (.agg (ent ByteArray.empty 0 (List.replicate 32 0)).toArray), 34, 56) := by kernel_rfl
theorem ent_one (x : Fr.Ent) : ∀ u ∈ x.cells, u.oneCell' = true := by
  intro u hu
  rcases List.mem_cons.1 hu with rfl | hu
  · rfl
  · rcases List.mem_cons.1 hu with rfl | hu
    · rfl
    · obtain ⟨z, -, rfl⟩ := List.mem_map.1 hu
      rfl
/-- one entry more behind a row of one's own -/
theorem step_append_ent (w : World) {ops : Array Oper} {o : Oper} {a : Act} {K : Act → World → Prop} {Q : Exit → Act → World → Prop} {E : Prop} (hgd : o.guard = none) (s x : Operand)
    (ho : o.op = .call { callee := .builtin .append, args := #[s, x], argTypes := #[22, 22] })
    (B : Nat) (v : Value) (n : Nat) (d : List Fr.Ent) (hs : a.eval s = v) (hown : w.ownsRow B 87 34 v n (entsV d))
    (g : Nat) (y : Fr.Ent) (hx : a.eval x = .slice (some ⟨g, 0, none⟩) 1 1) (hy : ∀ j u, y.cells[j]? = some u → w.cell? ((⟨g, 0, none⟩ : Addr).add j) = some u) (hyl : y.cells.length = 34)
    (hn : n ≤ 1000000) (hbase : B ≤ w.heap.size)
    (h : ∀ A' C' w', w'.ownsRow B 87 34 (.slice A' (n + 1) C') (n + 1) (entsV (d ++ [y])) → w.grownBy w' v.ownBlock → K (a.put o.dst (.slice A' (n + 1) C')) w') :
    if Region.wanted o (yielded ops a.tmps) = true then Oper.wp Try.prog o a w K Q else E := by
  have hw : Region.wanted o (yielded ops a.tmps) = true := by simp [Region.wanted, hgd]
  rw [if_pos hw]
  obtain ⟨i0, hi, hz0, hz1, hz2⟩ := info_parts info87
  obtain ⟨v', w', hr, h2, h3, h4⟩ := run_append_own (P := Try.prog) w B 22 o.type 87 i0 (.agg (ent ByteArray.empty 0 (List.replicate 32 0)).toArray) 34 56 Try.underlying22 hi hz0 hz1 hz2 (by simp [Value.cells, ent, bv]) (by decide) v n (entsV d) hown ⟨g, 0, none⟩ 1 1 y.cells (by rw [hyl]) hy (ent_one y) (by unfold maxLen; omega) (by omega) hbase
  obtain ⟨A', C', rfl⟩ := own_slice' h2
  unfold Oper.wp execOp
  simp only [ho, resolve, invoke, builtin, Sem.run_bind, Sem.run_pure, Result.andThen_ok, List.map_toArray, List.map_cons, List.map_nil, hs, hx, hr]
  exact h A' C' w' (by rw [show entsV (d ++ [y]) = entsV d ++ y.cells from by simp [entsV]]; exact h2) h3
theorem new_ent (w : World) (x : Fr.Ent) (t : TypeId) : ∀ j u, x.cells[j]? = some u → (w.alloc (.cells x.cells.toArray t)).cell? ((⟨w.heap.size, 0, none⟩ : Addr).add j) = some u := by
  intro j u hj
  rw [show Addr.add ⟨w.heap.size, 0, none⟩ j = (⟨w.heap.size, j, none⟩ : Addr) from by unfold Addr.add; split <;> simp_all, World.cell?_alloc_new]
  simpa using hj
theorem range_grown {w w' : World} {R X o : Nat} {cs : List Value} (h : w.rangeAt X o cs) (hg : w.grownBy w' (some R)) (hX : X < w.heap.size) (hne : X ≠ R) : w'.rangeAt X o cs := fun j v hj => by
  rw [cell_grown hg (p := ⟨X, o + j, none⟩) hX hne]
  exact h j v hj
/-- behind whatever turned nothing below B -/
theorem Rdr.belowB {w w' : World} {R N : Nat} {t : TypeId} {A : Option Addr} {L C : Nat} {l : List Int} {at' : Nat} {f : Int} {E : Nat → Value} {B : Nat} (h : Rdr w R N t A L C l at' f E) (hb : Below B w w') (hR : R < B) (hA : ∀ x, A = some x → 0 < L → x.block < B) : Rdr w' R N t A L C l at' f E :=
  ⟨h.row.of_block (hb.block R hR), h.hN, ⟨h.rd.len, h.rd.cap, h.rd.max, h.rd.big, h.rd.none, h.rd.byte, fun x hx => by
    obtain ⟨h1, h2⟩ := h.rd.cell x hx
    refine ⟨fun h0 => Nat.lt_of_lt_of_le (h1 h0) hb.size, fun i hi => ?_⟩
    have e : (x.add i).block = x.block := add_block x i
    rw [hb.cell (p := x.add i) (by rw [e]; exact hA x hx (by omega))]
    exact h2 i hi⟩, h.apart, h.le⟩
/-- the entries' cell is laid anew -/
theorem Rdr.setE {w : World} {R : Nat} {t : TypeId} {A : Option Addr} {L C : Nat} {l : List Int} {at' : Nat} {f : Int} {E : Nat → Value} (h : Rdr w R 4 t A L C l at' f E) (v : Value) : Rdr (w.setCell ⟨R, 3, none⟩ v) R 4 t A L C l at' f (fun _ => v) :=
  ⟨(h.row.set 3 v).congr (fun j hj => by
    match j, hj with
    | 0, _ => rfl
    | 1, _ => rfl
    | 2, _ => rfl
    | 3, _ => rfl), h.hN, h.rd.grown (grown_set w R 3 v) h.apart, h.apart, h.le⟩
/-- the last entry's name, in its cell -/
theorem ahd_of {w : World} {B : Nat} {Ae : Option Addr} {ne Ce : Nat} {es : List Fr.Ent} (h : w.ownsRow B 87 34 (.slice Ae ne Ce) ne (entsV es)) (hid : ∀ x ∈ es, x.id.length = 32) (hn : ne ≤ 1000000) (he : es.length = ne) : Ahd w Ae ne Ce (lastN es) := by
  rcases h.2 with ⟨hv, hz⟩ | ⟨g, cap, cur, hv, hb, hg, hnc, hcm, hcs, htake⟩
  · simp only [Value.slice.injEq] at hv
    obtain ⟨rfl, -, rfl⟩ := hv
    subst hz
    have : es = [] := List.eq_nil_of_length_eq_zero he
    subst this
    exact ⟨Nat.le_refl _, by omega, by omega, fun _ => rfl, fun h => absurd h (by omega)⟩
  · simp only [Value.slice.injEq, true_and] at hv
    obtain ⟨rfl, rfl⟩ := hv
    refine ⟨hnc, hcm, hn, fun h0 => ?_, fun h0 => ?_⟩
    · have : es = [] := List.eq_nil_of_length_eq_zero (by omega)
      subst this; rfl
    · rcases List.eq_nil_or_concat es with rfl | ⟨m, x, rfl⟩
      · simp at he; omega
      · rw [List.concat_eq_append] at *
        have hml : m.length = ne - 1 := by simp at he; omega
        have hfl : ∀ q : List Fr.Ent, (∀ x ∈ q, x.id.length = 32) → (entsV q).length = q.length * 34 := by
          intro q
          induction q with
          | nil => intro _; rfl
          | cons y q ih =>
            intro hq
            have h1 := ih (fun z hz => hq z (List.mem_cons_of_mem _ hz))
            have h2 := ent_len y (hq y (List.mem_cons_self ..))
            simp only [entsV, List.flatMap_cons, List.length_append, List.length_cons] at *
            omega
        have hl2 := hfl m (fun z hz => hid z (by simp [hz]))
        refine ⟨g, 0, x.name, rfl, by simp [lastN], ?_, ?_⟩
        · rw [Nat.zero_add, World.ownsRow.cellAt h _ (by omega)]
          rw [show entsV (m ++ [x]) = entsV m ++ x.cells from by simp [entsV], List.getElem?_append_right (by rw [hl2, hml]; omega), hl2, hml, Nat.sub_self]
          rfl
        · rcases Nat.lt_or_ge g w.heap.size with h | h
          · exact h
          · rw [Array.getElem?_eq_none h] at hg; simp at hg
theorem below_of_grown {w W : World} {R : Nat} (h : w.grownBy W (some R)) (hR : R < w.heap.size) : Below R w W :=
  (Below.refl R w).grown h (Nat.le_of_lt hR) (fun k hk => by have := Option.some.inj hk; omega)
theorem fold_data (l : List Int) : ∀ r : ByteArray, (l.foldl (fun r n => r.push (UInt8.ofNat n.toNat)) r).data.toList = r.data.toList ++ l.map (fun n => UInt8.ofNat n.toNat) := by
  induction l with
  | nil => intro r; simp
  | cons x l ih =>
    intro r
    rw [List.foldl_cons, ih]
    simp [ByteArray.push]
theorem sb_data (l : List Int) : (sb l).data.toList = l.map (fun n => UInt8.ofNat n.toNat) := by
  rw [sb, fold_data]; simp
theorem sb_size (l : List Int) : (sb l).size = l.length := by
  have h := congrArg List.length (sb_data l)
  simpa using h
/-- what one entry's bytes say, by its parts -/
theorem rd1_eq {l : List Int} {at' L m : Nat} {F2 F3 F4 k : Int} {A2 A3 A4 : Nat} {nm : ByteArray} {ids : List Int} (hm : rdM l at' L = m) (hF2 : F2 = tkF (tkF 0 at' L 1) (tkA 0 at' L 1) L 1) (hA2 : A2 = tkA (tkF 0 at' L 1) (tkA 0 at' L 1) L 1) (hk : k = nv (tkL 0 l at' L 1)) (hn : nm = sb (tkL F2 l A2 L m)) (hF3 : F3 = tkF F2 A2 L m) (hA3 : A3 = tkA F2 A2 L m) (hi : ids = idv (tkL F3 l A3 L 32)) (hF4 : F4 = tkF F3 A3 L 32) (hA4 : A4 = tkA F3 A3 L 32) : rd1 l at' L = ⟨A4, F4, k, nm, ids⟩ := by
  subst hm hF2 hA2 hk hn hF3 hA3 hi hF4 hA4
  rfl
theorem rdF_eq {l : List Int} {at' L cnt pos : Nat} {F4 F5 F6 k c : Int} {nm : ByteArray} {ids : List Int} {prev : Option ByteArray} (h : rd1 l at' L = ⟨pos, F4, k, nm, ids⟩) (h5 : F5 = if cnt = 512 then fl F4 4 else F4) (hc : c = ce k nm ids prev) (h6 : F6 = fl F5 c) : rdF l at' L cnt prev = F6 := by
  unfold rdF
  rw [h]
  subst h5 hc h6
  rfl
theorem range_grownO {w w' : World} {X o : Nat} {b : Option Nat} {cs : List Value} (h : w.rangeAt X o cs) (hg : w.grownBy w' b) (hX : X < w.heap.size) (hne : b ≠ some X) : w'.rangeAt X o cs := fun j v hj =>
  (World.cell?_of_block (a := ⟨X, o + j, none⟩) (hg.block X hX (fun e => hne e.symm))).trans (h j v hj)
/-- the entry stands behind the others -/
theorem ent_done {R : Nat} {A : Option Addr} {L C : Nat} {l : List Int} {at' : Nat} {B : Nat} {Ae : Option Addr} {ne Ce : Nat} {es : List Fr.Ent} {w : World} (h : Tr w R A L C l at' 0 B Ae ne Ce es) {wE : World} {pos : Nat} {f : Int} {x : Fr.Ent} {A' : Option Addr} {C' : Nat} (dR : Rdr wE R 4 96 A L C l pos f (fun _ => .slice Ae ne Ce)) (hoE : wE.ownsRow B 87 34 (.slice A' (ne + 1) C') (ne + 1) (entsV (es ++ [x]))) (hx : x.id.length = 32) (hb : Below R w wE) :
    Tr (wE.setCell ⟨R, 3, none⟩ (.slice A' (ne + 1 : Nat) C')) R A L C l pos f B A' (ne + 1) C' (es ++ [x]) ∧ Below R w (wE.setCell ⟨R, 3, none⟩ (.slice A' (ne + 1 : Nat) C')) := by
  have hRB := h.hB
  refine ⟨⟨dR.setE _, own_grown hoE (grown_set wE R 3 _) (fun e => by have := (hoE.lt R e).1; omega), hRB, ?_, ?_, h.hAB, ?_⟩, hb.setCell (p := ⟨R, 3, none⟩) (Nat.le_refl _) _⟩
  · have h1 := h.hBs
    have h2 := hb.size
    show B ≤ (World.setCell _ _ _).heap.size
    have : wE.heap.size ≤ (wE.setCell ⟨R, 3, none⟩ (.slice A' (ne + 1 : Nat) C')).heap.size := (grown_set wE R 3 _).size
    omega
  · intro y hy
    rcases List.mem_append.1 hy with hy | hy
    · exact h.ids y hy
    · rw [List.mem_singleton.1 hy]; exact hx
  · simp [h.hne]
/-- a row of one entry is made -/
theorem step_build_ent (w : World) {ops : Array Oper} {o : Oper} {a : Act} {K : Act → World → Prop} {Q : Exit → Act → World → Prop} {E : Prop} (hgd : o.guard = none) (x : Operand)
    (ho : o.op = .buildSlice 22 1 #[(0, x)]) (cs : List Value) (hx : a.eval x = .agg cs.toArray) (hl : cs.length = 34)
    (h : K (a.put o.dst (.slice (some ⟨w.heap.size, 0, none⟩) 1 1)) (w.alloc (.cells cs.toArray 87))) :
    if Region.wanted o (yielded ops a.tmps) = true then Oper.wp Try.prog o a w K Q else E := by
  have hw : Region.wanted o (yielded ops a.tmps) = true := by simp [Region.wanted, hgd]
  rw [if_pos hw]
  obtain ⟨i0, hi, hz0, hz1, hz2⟩ := info_parts info87
  refine wp_buildSlice 22 87 1 #[(0, x)] ho cs.toArray i0 _ Try.underlying22 hi hz0 (by rw [hz1]; decide) (by rw [hz1]; decide) ?_ h
  rw [hz1]
  have hz34 : (Value.agg (ent ByteArray.empty 0 (List.replicate 32 0)).toArray).cells.size = 34 := by simp [Value.cells, ent, bv]
  have := Great.fill_whole (s := 34) (by decide) [Value.agg cs.toArray] ((Array.range (1 * 34)).map ((Value.agg (ent ByteArray.empty 0 (List.replicate 32 0)).toArray).cells[· % (Value.agg (ent ByteArray.empty 0 (List.replicate 32 0)).toArray).cells.size]!)) (by simp [Value.cells, hl]) (by simp)
  simpa [hx, Value.cells] using this
end Go.Proofs.Ytmcmapgllaopmaa.Cd
end

section
namespace Go.Proofs.Ytmcmapgllaopmaa.Cd
open Go.RowKit
set_option linter.unusedVariables false
/-- one entry more, and what failed -/
def EntRet (R : Nat) (A : Option Addr) (L C : Nat) (l : List Int) (at' : Nat) (B ne : Nat) (es : List Fr.Ent) (w : World) (e : Ending) (w' : World) : Prop :=
  e = .returned (.tuple #[]) ∧ (∃ Ae Ce, Tr w' R A L C l (rd1 l at' L).pos (rdF l at' L ne (lastN es)) B Ae (ne + 1) Ce (es ++ [⟨(rd1 l at' L).nm, (rd1 l at' L).k, (rd1 l at' L).id⟩])) ∧ Below R w w'
set_option maxRecDepth 100000 in
set_option maxHeartbeats 4000000 in
theorem entry_any (R : Nat) (A : Option Addr) (L C : Nat) (l : List Int) (at' : Nat) (B : Nat) (Ae : Option Addr) (ne Ce : Nat) (es : List Fr.Ent) (w : World) (h : Tr w R A L C l at' 0 B Ae ne Ce es) (hne : ne ≤ 512) :
    Calls Try.prog 45 #[.pointer (some ⟨R, 0, none⟩)] w (EntRet R A L C l at' B ne es w) := by
  have hRl := h.rdr.row.lt
  have hAp : ∀ x, A = some x → 0 < L → x.block ≠ w.heap.size := fun x hx h0 => by have := (h.rdr.rd.cell x hx).1 h0; omega
  have hby := tkL_one
  have hb1 := tkL_one 0 l at' L h.rdr.rd.len h.rdr.rd.byte
  have hb2 := tkL_one (tkF 0 at' L 1) l (tkA 0 at' L 1) L h.rdr.rd.len h.rdr.rd.byte
  have hm : nv (tkL (tkF 0 at' L 1) l (tkA 0 at' L 1) L 1) = ((rdM l at' L : Nat) : Int) := by
    unfold rdM
    omega
  have hm2 : rdM l at' L ≤ 255 := by omega
  have HM := Lib.hid hm
  have HT0 := Lib.hid h
  have HAp := Lib.hid hAp
  obtain ⟨b10, b11⟩ := hb1
  clear h hAp hby hb2 hm
  obtain ⟨k, hk⟩ : ∃ k, k = nv (tkL 0 l at' L 1) := ⟨_, rfl⟩
  rw [← hk] at b10 b11
  have HKk := Lib.hid hk
  clear hk
  have hz := zeroE
  have hZl : (ent ByteArray.empty 0 (List.replicate 32 0)).toArray.size = 34 := by simp [ent, bv]
  generalize (ent ByteArray.empty 0 (List.replicate 32 0)).toArray = ZE at *
  have HZl := Lib.hid hZl
  clear hZl
  go_enter Try.func45, Try.ntmps45
  go_upto_region 1 with (fail)
  have hbA := (Below.refl w.heap.size w).alloc (Nat.le_refl _) (.cells ZE 87)
  have HRd1 := Lib.hid (HT0.out.rdr.below hbA)
  have HOw1 := Lib.hid (own_keep HT0.out.own hbA)
  have HX1 : Hid (Xr w (w.alloc (.cells ZE 87)) R w.heap.size (fun i => ZE.getD i undef)) := Lib.hid (by
    have hr := row_new w ZE 87
    rw [HZl.out] at hr
    exact ⟨hr, hRl, Nat.le_refl _, ⟨hbA.os, hbA.tape, hbA.output, hbA.size, fun i hi _ => hbA.block i hi⟩⟩)
  have hsX : w.heap.size < (w.alloc (.cells ZE 87)).heap.size := al_lt w _
  clear hbA hz
  generalize w.alloc (.cells ZE 87) = w1 at *
  generalize hX : w.heap.size = X at *
  have HXw := Lib.hid hX
  clear hX
  have HNoR : Hid ((Value.slice Ae ne Ce).ownBlock ≠ some R) := Lib.hid (fun e => by have := (HT0.out.own.lt R e).1; have := HT0.out.hB; omega)
  have HNoX : Hid ((Value.slice Ae ne Ce).ownBlock ≠ some X) := Lib.hid (fun e => by have := (HT0.out.own.lt X e).2; have := HXw.out; omega)
  have HBy := Lib.hid (byte_r R 4 96 A L C l at' 0 _ w1 HRd1.out)
  rw [← HKk.out] at HBy
  go_wp2_with fail
  refine HBy.out.mono ?_
  rintro e w2 ⟨rfl, hR2, hg2⟩
  have HX2 := Lib.hid (HX1.out.grown hg2)
  have HOw2 := Lib.hid (own_grown HOw1.out hg2 HNoR.out)
  have HRd2 := Lib.hid hR2
  have hcX : w2.cell? ⟨X, 1, none⟩ = some (ZE.getD 1 undef) := HX2.out.row.cell (by omega)
  have hfX : w2.frozen? ⟨X, 1, none⟩ = false := HX2.out.row.frozen _
  clear hR2 hg2 HX1 HOw1 HRd1 HBy
  go_upto_region 2 with (fail)
  have HX3 := Lib.hid (HX2.out.set 1 (.int .i64 k))
  have HRd3 := Lib.hid (HRd2.out.setX X 1 (.int .i64 k) (by have := HX2.out.hRX; omega) HAp.out)
  have HOw3 := Lib.hid (own_grown HOw2.out (grown_set w2 X 1 (.int .i64 k)) HNoX.out)
  have HXR := HX2.out.hRX
  clear HX2 HRd2 HOw2 hcX hfX
  generalize w2.setCell ⟨X, 1, none⟩ (.int .i64 k) = w3 at *
  have HNu := Lib.hid (number_r R 4 96 A L C l (tkA 0 at' L 1) (tkF 0 at' L 1) _ 1 w3.drew (HRd3.out.drewN 1) (by omega))
  rw [HM.out] at HNu
  have HXd := Lib.hid (HX3.out.drewN 1)
  have HOd := Lib.hid (show w3.drew.ownsRow B 87 34 (.slice Ae ne Ce) ne (entsV es) from HOw3.out.drew)
  clear HX3 HRd3 HOw3
  obtain ⟨F2, hF2⟩ : ∃ F2, F2 = tkF (tkF 0 at' L 1) (tkA 0 at' L 1) L 1 := ⟨_, rfl⟩
  obtain ⟨A2, hA2⟩ : ∃ A2, A2 = tkA (tkF 0 at' L 1) (tkA 0 at' L 1) L 1 := ⟨_, rfl⟩
  have HF2 := Lib.hid hF2
  have HA2 := Lib.hid hA2
  clear hF2 hA2
  generalize hmm : rdM l at' L = m at *
  have HMm := Lib.hid hmm
  clear hmm
  refine wp_region_noPanic ?_
  refine wp_region_held_drew (S := (fun _ => True)) (by kernel_rfl) ?_ (fun hHeld => ?_)
  · ((try dsimp only); all_goals trivial)
  refine wpAnyH_take (i := 0) (oi := { dst := some 9, op := Op.move (Operand.tmp 0), type := 92, pos := "tree.go:57", after := #[], guard := none }) (v := ?_) rfl (by kernel_rfl) (by kernel_rfl) (by kernel_rfl) (fun _ _ _ h => h) (Or.inl ⟨by rfl, ?_⟩) (by assumption) ?_
  rotate_left 1
  · ((intro w hSw; (try dsimp only at hSw); go_simp) <;> with_reducible rfl)
  (try simp only [Act.put, List.setIfInBounds_toArray, List.set_cons_zero, List.set_cons_succ])
  refine wpAnyH_take (i := 1) (oi := { dst := some 10, op := Op.nilCheck (Operand.tmp 9), type := 0, pos := "tree.go:57", after := #[{ on := 0, ground := Ground.data }], guard := none }) (v := ?_) rfl (by kernel_rfl) (by kernel_rfl) (by kernel_rfl) (fun _ _ _ h => h) (Or.inl ⟨by rfl, ?_⟩) (by assumption) ?_
  rotate_left 1
  · ((intro w hSw; (try dsimp only at hSw); go_simp) <;> with_reducible rfl)
  (try simp only [Act.put, List.setIfInBounds_toArray, List.set_cons_zero, List.set_cons_succ])
  refine wpAnyH_take (i := 2) (oi := { dst := some 11, op := Op.fieldAddr 96 (Operand.tmp 10) 0, type := 0, pos := "tree.go:57", after := #[{ on := 1, ground := Ground.data }], guard := none }) (v := ?_) rfl (by kernel_rfl) (by kernel_rfl) (by kernel_rfl) (fun _ _ _ h => h) (Or.inl ⟨by rfl, ?_⟩) (by assumption) ?_
  rotate_left 1
  · ((intro w hSw; (try dsimp only at hSw); go_simp) <;> with_reducible rfl)
  (try simp only [Act.put, List.setIfInBounds_toArray, List.set_cons_zero, List.set_cons_succ])
  refine wpAnyH_take (i := 3) (oi := { dst := some 12, op := Op.move (Operand.tmp 0), type := 92, pos := "tree.go:57", after := #[], guard := none }) (v := ?_) rfl (by kernel_rfl) (by kernel_rfl) (by kernel_rfl) (fun _ _ _ h => h) (Or.inl ⟨by rfl, ?_⟩) (by assumption) ?_
  rotate_left 1
  · ((intro w hSw; (try dsimp only at hSw); go_simp) <;> with_reducible rfl)
  (try simp only [Act.put, List.setIfInBounds_toArray, List.set_cons_zero, List.set_cons_succ])
  refine wpAnyH_take (i := 4) (oi := { dst := some 13, op := Op.nilCheck (Operand.tmp 12), type := 0, pos := "tree.go:57", after := #[{ on := 3, ground := Ground.data }], guard := none }) (v := ?_) rfl (by kernel_rfl) (by kernel_rfl) (by kernel_rfl) (fun _ _ _ h => h) (Or.inl ⟨by rfl, ?_⟩) (by assumption) ?_
  rotate_left 1
  · ((intro w hSw; (try dsimp only at hSw); go_simp) <;> with_reducible rfl)
  (try simp only [Act.put, List.setIfInBounds_toArray, List.set_cons_zero, List.set_cons_succ])
  refine wpAnyH_take (i := 5) (oi := { dst := some 14, op := Op.fieldAddr 96 (Operand.tmp 13) 0, type := 0, pos := "tree.go:57", after := #[{ on := 4, ground := Ground.data }], guard := none }) (v := ?_) rfl (by kernel_rfl) (by kernel_rfl) (by kernel_rfl) (fun _ _ _ h => h) (Or.inl ⟨by rfl, ?_⟩) (by assumption) ?_
  rotate_left 1
  · ((intro w hSw; (try dsimp only at hSw); go_simp) <;> with_reducible rfl)
  (try simp only [Act.put, List.setIfInBounds_toArray, List.set_cons_zero, List.set_cons_succ])
  refine wpAnyH_ready (rs := [6]) (by kernel_rfl) (by simp) ?_
  refine AllReadyH.cons (o := { dst := some 15, op := Op.call { callee := Callee.value (Operand.func 62), args := #[Operand.tmp 14, Operand.const (Value.int IntKind.i64 1)], argTypes := #[94, 3] }, type := 3, pos := "tree.go:57", after := #[{ on := 5, ground := Ground.data }], guard := none }) rfl (fun K hK => ?_) ?_
  · go_simp
    refine HNu.out.mono ?_
    rintro e w4 ⟨rfl, hR4, hg4⟩
    rw [← HF2.out, ← HA2.out] at hR4
    have HX4 := Lib.hid (HXd.out.grown hg4)
    have HO4 := Lib.hid (own_grown HOd.out hg4 HNoR.out)
    have HTk := Lib.hid (take_any R 4 96 A L C l A2 F2 _ m w4 hR4 (by omega))
    clear hR4 hg4
    (try go_wp2_with fail)
    refine hK.out _ _ ?_ (fun hNew => ?_)
    · ((try dsimp only); all_goals trivial)
    clear hK K hHeld
    have hHeld := hNew
    clear hNew
    (try simp only [Act.put, List.setIfInBounds_toArray, List.set_cons_zero, List.set_cons_succ])
    refine wpAnyH_ready (rs := [7]) (by kernel_rfl) (by simp) ?_
    refine AllReadyH.cons (o := { dst := some 16, op := Op.call { callee := Callee.value (Operand.func 83), args := #[Operand.tmp 11, Operand.tmp 15], argTypes := #[94, 3] }, type := 23, pos := "tree.go:57", after := #[{ on := 2, ground := Ground.data }, { on := 6, ground := Ground.data }, { on := 6, ground := Ground.chain }], guard := none }) rfl (fun K hK => ?_) ?_
    · go_simp
      refine HTk.out.mono ?_
      rintro e w5 ⟨A', C', rfl, hrd, -, hR5, hg5⟩
      have cv := conv_rd hrd
      have HX5 := Lib.hid (HX4.out.grown hg5)
      have HO5 := Lib.hid (own_grown HO4.out hg5 HNoR.out)
      have HR5 := Lib.hid hR5
      have hc5 : w5.cell? ⟨X, 0, none⟩ = some _ := HX5.out.row.cell (i := 0) (by omega)
      have hf5 : w5.frozen? ⟨X, 0, none⟩ = false := HX5.out.row.frozen _
      clear hrd hR5 hg5
      (try go_wp2_with fail)
      refine hK.out _ _ ?_ (fun hNew => ?_)
      · ((try dsimp only); all_goals trivial)
      clear hK K hHeld
      have hHeld := hNew
      clear hNew
      (try simp only [Act.put, List.setIfInBounds_toArray, List.set_cons_zero, List.set_cons_succ])
      refine wpAnyH_ready (rs := [8]) (by kernel_rfl) (by simp) ?_
      refine AllReadyH.cons (o := { dst := some 17, op := Op.convert 23 9 (Operand.tmp 16), type := 9, pos := "tree.go:57", after := #[{ on := 7, ground := Ground.data }], guard := none }) rfl (fun K hK => ?_) ?_
      · go_simp
        refine hK.out _ _ ?_ (fun hNew => ?_)
        · ((try dsimp only); all_goals trivial)
        clear hK K hHeld
        have hHeld := hNew
        clear hNew
        (try simp only [Act.put, List.setIfInBounds_toArray, List.set_cons_zero, List.set_cons_succ])
        refine wpAnyH_take (i := 9) (oi := { dst := some 18, op := Op.fieldAddr 87 (Operand.tmp 2) 0, type := 0, pos := "tree.go:57", after := #[{ on := 0, ground := Ground.phase }, { on := 1, ground := Ground.phase }, { on := 2, ground := Ground.phase }, { on := 3, ground := Ground.phase }, { on := 4, ground := Ground.phase }, { on := 5, ground := Ground.phase }, { on := 6, ground := Ground.phase }, { on := 7, ground := Ground.phase }, { on := 8, ground := Ground.phase }], guard := none }) (v := ?_) rfl (by kernel_rfl) (by kernel_rfl) (by kernel_rfl) (fun _ _ _ h => h) (Or.inl ⟨by rfl, ?_⟩) (by assumption) ?_
        rotate_left 1
        · ((intro w hSw; (try dsimp only at hSw); go_simp) <;> with_reducible rfl)
        (try simp only [Act.put, List.setIfInBounds_toArray, List.set_cons_zero, List.set_cons_succ])
        refine wpAnyH_ready (rs := [10]) (by kernel_rfl) (by simp) ?_
        refine AllReadyH.cons (o := { dst := none, op := Op.store 9 (Operand.tmp 18) (Operand.tmp 17), type := 0, pos := "tree.go:57", after := #[{ on := 9, ground := Ground.data }, { on := 8, ground := Ground.data }, { on := 7, ground := Ground.chain }, { on := 0, ground := Ground.phase }, { on := 1, ground := Ground.phase }, { on := 2, ground := Ground.phase }, { on := 3, ground := Ground.phase }, { on := 4, ground := Ground.phase }, { on := 5, ground := Ground.phase }, { on := 6, ground := Ground.phase }, { on := 7, ground := Ground.phase }, { on := 8, ground := Ground.phase }], guard := none }) rfl (fun K hK => ?_) ?_
        · go_simp
          refine hK.out _ _ ?_ (fun hNew => ?_)
          · ((try dsimp only); all_goals trivial)
          clear hK K hHeld
          have hHeld := hNew
          clear hNew
          (try simp only [Act.put, List.setIfInBounds_toArray, List.set_cons_zero, List.set_cons_succ])
          refine wpAnyH_done (by kernel_rfl) ?_ _
          refine NoPanic.normal ?_
          have HX6 := Lib.hid (HX5.out.set 0 (.string (sb (tkL F2 l A2 L m))))
          have HRd6 := Lib.hid (HR5.out.setX X 0 (.string (sb (tkL F2 l A2 L m))) (by omega) HAp.out)
          have HOw6 := Lib.hid (own_grown HO5.out (grown_set w5 X 0 (.string (sb (tkL F2 l A2 L m)))) HNoX.out)
          clear HX5 HR5 HO5 hc5 hf5 cv
          obtain ⟨nm, hnm⟩ : ∃ nm, nm = sb (tkL F2 l A2 L m) := ⟨_, rfl⟩
          rw [← hnm] at HX6 HRd6 HOw6 ⊢
          have HNm := Lib.hid hnm
          clear hnm
          generalize w5.setCell ⟨X, 0, none⟩ (.string nm) = w6 at *
          obtain ⟨F3, hF3⟩ : ∃ F3, F3 = tkF F2 A2 L m := ⟨_, rfl⟩
          obtain ⟨A3, hA3⟩ : ∃ A3, A3 = tkA F2 A2 L m := ⟨_, rfl⟩
          rw [← hF3, ← hA3] at HRd6
          have HF3 := Lib.hid hF3
          have HA3 := Lib.hid hA3
          clear hF3 hA3
          have HId := Lib.hid (id_r R 4 96 A L C l A3 F3 _ w6 HRd6.out)
          obtain ⟨ids, hids⟩ : ∃ ids, ids = idv (tkL F3 l A3 L 32) := ⟨_, rfl⟩
          rw [← hids] at HId
          have hil : ids.length = 32 := by
            rw [hids]
            refine idv_len _ ?_
            unfold tkL
            split
            · rw [List.length_take]; omega
            · simp
          have HIds := Lib.hid hids
          clear hids
          go_wp2_with fail
          refine HId.out.mono ?_
          rintro e w7 ⟨rfl, hR7, hg7⟩
          have HX7 := Lib.hid (HX6.out.grown hg7)
          have HO7 := Lib.hid (own_grown HOw6.out hg7 HNoR.out)
          have HR7 := Lib.hid hR7
          have hbl : (bv ids).length = 32 := by rw [bv_len, hil]
          have HSz2 : Hid ((Try.prog.info? 37).map (·.size) = some (bv ids).toArray.size) := Lib.hid (by rw [List.size_toArray, hbl]; kernel_rfl)
          have HOne := Lib.hid (all_oneCell_toArray (bv_one ids))
          have HTh : Hid (w7.there X 2 (bv ids).toArray.size) := Lib.hid (fun j hj => by
            rw [List.size_toArray, hbl] at hj
            refine ⟨?_, HX7.out.row.frozen _⟩
            rw [HX7.out.row.cell (show 2 + j < 34 by omega)]; rfl)
          have HX8 : Hid (w7.setCells X 2 (bv ids) |>.rangeAt X 0 (ent nm k ids)) := Lib.hid (fun j v hj => by
            have hl := (List.getElem?_eq_some_iff.1 hj).1
            have hel : (ent nm k ids).length = 34 := by simp [ent, hbl]
            rw [hel] at hl
            rw [Nat.zero_add, (row_lay HX7.out.row 2 (bv ids)).cell hl, layF, hbl, ← hj]
            match j, hl with
            | 0, _ => rfl
            | 1, _ => rfl
            | j + 2, hl =>
              rw [if_pos (by omega)]
              simp [ent, List.getD, hbl, show j < 32 by omega])
          have HR8 := Lib.hid (Rdr.laid (X := X) (by omega) (bv ids) 2 w7 HAp.out HR7.out)
          have HO8 := Lib.hid (own_grown HO7.out (grown_cells w7 X (bv ids) 2) HNoX.out)
          have HB8 : Hid (Below R w (w7.setCells X 2 (bv ids))) := Lib.hid (below_setCells X (by omega) (bv ids) 2 w7 (below_of_grown HX7.out.gr (by have := HXw.out; omega)))
          have hX8 : X < (w7.setCells X 2 (bv ids)).heap.size := (row_lay HX7.out.row 2 (bv ids)).lt
          clear hR7 hg7 HX7 HO7 HX6 HRd6 HOw6 HId HR7 HXd HOd HTk HX4 HO4 HNu
          have HEl : Hid ((ent nm k ids).length = 34) := Lib.hid (by simp [ent, hbl])
          clear hbl
          generalize hDI : bv ids = DI at *
          have HDI := Lib.hid hDI
          clear hDI
          go_upto_region 4 with (refine wpList_store_mid rfl _ _ _ rfl X 2 DI.toArray rfl rfl HTh.out HSz2.out HOne.out ?_)
          change Code.wp _ _ _ _ (w7.setCells X 2 DI)
          clear HTh HSz2 HOne
          generalize w7.setCells X 2 DI = w8 at *
          obtain ⟨F4, hF4⟩ : ∃ F4, F4 = tkF F3 A3 L 32 := ⟨_, rfl⟩
          obtain ⟨A4, hA4⟩ : ∃ A4, A4 = tkA F3 A3 L 32 := ⟨_, rfl⟩
          rw [← hF4, ← hA4] at HR8
          have HF4 := Lib.hid hF4
          have HA4 := Lib.hid hA4
          clear hF4 hA4
          have hc3 : w8.cell? ⟨R, 3, none⟩ = some (.slice Ae ne Ce) := HR8.out.row.cell (i := 3) (by omega)
          have HIl := Lib.hid hil
          have HNs : Hid (nm.size ≤ 140737488355327) := Lib.hid (by
            rw [HNm.out]
            have h1 : (tkL F2 l A2 L m).length ≤ 255 := by
              unfold tkL
              split
              · rw [List.length_take]; omega
              · simp
            have h2 := sb_size (tkL F2 l A2 L m)
            omega)
          have HES : Hid ((Try.prog.info? 87).map (·.size) = some (ent nm k ids).length) := Lib.hid (by rw [HEl.out]; kernel_rfl)
          have hEC : ent nm k ids = (⟨nm, k, ids⟩ : Fr.Ent).cells := rfl
          have HEC := Lib.hid hEC
          clear hEC
          obtain ⟨EL, hEE⟩ : ∃ EL, EL = ent nm k ids := ⟨_, rfl⟩
          have HEE : Hid (ent nm k ids = EL) := Lib.hid hEE.symm
          rw [← hEE] at HX8 HES HEC HEl
          clear hEE hil
          by_cases h512 : ne = 512
          · have hd : ((ne : Int) == 512) = true := by simp [h512]
            obtain ⟨F5, hF5⟩ : ∃ F5, F5 = fl F4 4 := ⟨_, rfl⟩
            have HFl := Lib.hid (fail_any R 4 96 A L C l A4 F4 4 _ w8 HR8.out)
            rw [← hF5] at HFl
            have HF5 : Hid (F5 = if ne = 512 then fl F4 4 else F4) := Lib.hid (by rw [if_pos h512]; exact hF5)
            clear hF5 h512
            go_wp2_with fail
            refine HFl.out.mono ?_
            rintro e w9 ⟨rfl, hR9, hg9⟩
            have HR9 := Lib.hid hR9
            have HO9 := Lib.hid (own_grown HO8.out hg9 HNoR.out)
            have HX9 := Lib.hid (range_grown HX8.out hg9 hX8 (by omega))
            have HB9 := Lib.hid (HB8.out.trans (below_of_grown hg9 (by omega)))
            have hX9 := Nat.lt_of_lt_of_le hX8 hg9.size
            have hc39 : w9.cell? ⟨R, 3, none⟩ = some (.slice Ae ne Ce) := HR9.out.row.cell (i := 3) (by omega)
            clear hR9 hg9 HFl HR8 HO8 HX8 HB8 hX8 hc3
            go_wp2_with fail
            have HPv := Lib.hid (ahd_of HO9.out.drew HT0.out.ids (by omega) HT0.out.hne)
            have HCk := Lib.hid (check_any nm k ids HIl.out HNs.out Ae ne Ce (lastN es) w9.drew HPv.out)
            rw [HEE.out] at HCk
            have dX : Hid (w9.drew.rangeAt X 0 EL) := Lib.hid HX9.out
            have dR := Lib.hid (HR9.out.drewN 1)
            have dC : Hid (w9.drew.cell? ⟨R, 3, none⟩ = some (.slice Ae ne Ce)) := Lib.hid (HR9.out.row.cell (i := 3) (by omega))
            have dO := Lib.hid HO9.out.drew
            have dB : Hid (Below R w w9.drew) := Lib.hid HB9.out.drew
            have hXs : X < w9.drew.heap.size := hX9
            clear HPv HX9 HR9 HO9 HB9 hX9 hd
            obtain ⟨c, hc⟩ : ∃ c, c = ce k nm ids (lastN es) := ⟨_, rfl⟩
            rw [← hc] at HCk
            have HCe := Lib.hid hc
            clear hc
            refine wp_region_noPanic ?_
            refine wp_region_held_drew (S := (fun wS => wS.rangeAt X 0 EL ∧ wS.cell? ⟨R, 3, none⟩ = some (.slice Ae ne Ce))) (by kernel_rfl) ?_ (fun hHeld => ?_)
            · ((try dsimp only); exact ⟨dX.out, dC.out⟩)
            refine wpAnyH_take (i := 0) (oi := { dst := some 34, op := Op.move (Operand.tmp 0), type := 92, pos := "tree.go:62", after := #[], guard := none }) (v := ?_) rfl (by kernel_rfl) (by kernel_rfl) (by kernel_rfl) (fun _ _ _ h => h) (Or.inl ⟨by rfl, ?_⟩) (by assumption) ?_
            rotate_left 1
            · ((intro w hSw; (try dsimp only at hSw); go_simp) <;> with_reducible rfl)
            (try simp only [Act.put, List.setIfInBounds_toArray, List.set_cons_zero, List.set_cons_succ])
            refine wpAnyH_take (i := 1) (oi := { dst := some 35, op := Op.nilCheck (Operand.tmp 34), type := 0, pos := "tree.go:62", after := #[{ on := 0, ground := Ground.data }], guard := none }) (v := ?_) rfl (by kernel_rfl) (by kernel_rfl) (by kernel_rfl) (fun _ _ _ h => h) (Or.inl ⟨by rfl, ?_⟩) (by assumption) ?_
            rotate_left 1
            · ((intro w hSw; (try dsimp only at hSw); go_simp) <;> with_reducible rfl)
            (try simp only [Act.put, List.setIfInBounds_toArray, List.set_cons_zero, List.set_cons_succ])
            refine wpAnyH_take (i := 2) (oi := { dst := some 36, op := Op.fieldAddr 96 (Operand.tmp 35) 0, type := 0, pos := "tree.go:62", after := #[{ on := 1, ground := Ground.data }], guard := none }) (v := ?_) rfl (by kernel_rfl) (by kernel_rfl) (by kernel_rfl) (fun _ _ _ h => h) (Or.inl ⟨by rfl, ?_⟩) (by assumption) ?_
            rotate_left 1
            · ((intro w hSw; (try dsimp only at hSw); go_simp) <;> with_reducible rfl)
            (try simp only [Act.put, List.setIfInBounds_toArray, List.set_cons_zero, List.set_cons_succ])
            refine' wpAnyH_take (i := 3) (oi := { dst := some 37, op := Op.load 87 (Operand.tmp 2), type := 87, pos := "tree.go:62", after := #[], guard := none }) (v := _) rfl (by kernel_rfl) (by kernel_rfl) (by kernel_rfl) (fun _ _ _ h => h) (yieldsIf_load_mid (by rfl) _ _ rfl _ _ rfl EL _ (fun w hSw => hSw.1) Try.underlying87 rfl HES.out) (by assumption) ?_
            (try simp only [Act.put, List.setIfInBounds_toArray, List.set_cons_zero, List.set_cons_succ])
            refine wpAnyH_take (i := 4) (oi := { dst := some 38, op := Op.move (Operand.tmp 0), type := 92, pos := "tree.go:62", after := #[], guard := none }) (v := ?_) rfl (by kernel_rfl) (by kernel_rfl) (by kernel_rfl) (fun _ _ _ h => h) (Or.inl ⟨by rfl, ?_⟩) (by assumption) ?_
            rotate_left 1
            · ((intro w hSw; (try dsimp only at hSw); go_simp) <;> with_reducible rfl)
            (try simp only [Act.put, List.setIfInBounds_toArray, List.set_cons_zero, List.set_cons_succ])
            refine wpAnyH_take (i := 5) (oi := { dst := some 39, op := Op.nilCheck (Operand.tmp 38), type := 0, pos := "tree.go:62", after := #[{ on := 4, ground := Ground.data }], guard := none }) (v := ?_) rfl (by kernel_rfl) (by kernel_rfl) (by kernel_rfl) (fun _ _ _ h => h) (Or.inl ⟨by rfl, ?_⟩) (by assumption) ?_
            rotate_left 1
            · ((intro w hSw; (try dsimp only at hSw); go_simp) <;> with_reducible rfl)
            (try simp only [Act.put, List.setIfInBounds_toArray, List.set_cons_zero, List.set_cons_succ])
            refine wpAnyH_take (i := 6) (oi := { dst := some 40, op := Op.fieldAddr 96 (Operand.tmp 39) 1, type := 0, pos := "tree.go:62", after := #[{ on := 5, ground := Ground.data }], guard := none }) (v := ?_) rfl (by kernel_rfl) (by kernel_rfl) (by kernel_rfl) (fun _ _ _ h => h) (Or.inl ⟨by rfl, ?_⟩) (by assumption) ?_
            rotate_left 1
            · ((intro w hSw; (try dsimp only at hSw); go_simp) <;> with_reducible rfl)
            (try simp only [Act.put, List.setIfInBounds_toArray, List.set_cons_zero, List.set_cons_succ])
            refine wpAnyH_take (i := 7) (oi := { dst := some 41, op := Op.load 22 (Operand.tmp 40), type := 22, pos := "tree.go:62", after := #[{ on := 6, ground := Ground.data }], guard := none }) (v := ?_) rfl (by kernel_rfl) (by kernel_rfl) (by kernel_rfl) (fun _ _ _ h => h) (Or.inl ⟨by rfl, ?_⟩) (by assumption) ?_
            rotate_left 1
            · ((intro w hSw; (try dsimp only at hSw); go_simp) <;> with_reducible rfl)
            (try simp only [Act.put, List.setIfInBounds_toArray, List.set_cons_zero, List.set_cons_succ])
            refine wpAnyH_ready (rs := [8]) (by kernel_rfl) (by simp) ?_
            refine AllReadyH.cons (o := { dst := some 42, op := Op.call { callee := Callee.value (Operand.func 40), args := #[Operand.tmp 37, Operand.tmp 41], argTypes := #[87, 22] }, type := 25, pos := "tree.go:62", after := #[{ on := 3, ground := Ground.data }, { on := 7, ground := Ground.data }], guard := none }) rfl (fun K hK => ?_) ?_
            · go_simp
              refine HCk.out.mono ?_
              rintro e wB ⟨rfl, hb⟩
              have eX := Lib.hid (range_below hb dX.out hXs)
              have eR := Lib.hid (dR.out.below hb)
              have eC : Hid (wB.cell? ⟨R, 3, none⟩ = some (.slice Ae ne Ce)) := Lib.hid (eR.out.row.cell (i := 3) (by omega))
              have eO := Lib.hid (own_keep dO.out hb)
              have eB := Lib.hid (dB.out.trans (hb.mono (by omega)))
              have eXs := Nat.lt_of_lt_of_le hXs hb.size
              clear dX dR dC dO dB hXs hb HCk
              have dX := eX
              have dR := eR
              have dC := eC
              have dO := eO
              have dB := eB
              have hXs := eXs
              clear eX eR eC eO eB eXs
              have HFm := Lib.hid (fail_any R 4 96 A L C l A4 F5 c _ wB dR.out)
              (try go_wp2_with fail)
              refine hK.out _ _ ?_ (fun hNew => ?_)
              · ((try dsimp only); exact ⟨dX.out, dC.out⟩)
              clear hK K hHeld
              have hHeld := hNew
              clear hNew
              (try simp only [Act.put, List.setIfInBounds_toArray, List.set_cons_zero, List.set_cons_succ])
              refine wpAnyH_ready (rs := [9]) (by kernel_rfl) (by simp) ?_
              refine AllReadyH.cons (o := { dst := some 43, op := Op.call { callee := Callee.value (Operand.func 85), args := #[Operand.tmp 36, Operand.tmp 42], argTypes := #[94, 25] }, type := 0, pos := "tree.go:62", after := #[{ on := 2, ground := Ground.data }, { on := 8, ground := Ground.data }, { on := 8, ground := Ground.chain }], guard := none }) rfl (fun K hK => ?_) ?_
              · go_simp
                refine HFm.out.mono ?_
                rintro e wC ⟨rfl, hR, hg⟩
                have eX := Lib.hid (range_grown dX.out hg hXs (by omega))
                have eR := Lib.hid hR
                have eC : Hid (wC.cell? ⟨R, 3, none⟩ = some (.slice Ae ne Ce)) := Lib.hid (eR.out.row.cell (i := 3) (by omega))
                have eO := Lib.hid (own_grown dO.out hg HNoR.out)
                have eB := Lib.hid (dB.out.trans (below_of_grown hg (by omega)))
                have eXs := Nat.lt_of_lt_of_le hXs hg.size
                clear dX dR dC dO dB hXs hR hg HFm
                have dX := eX
                have dR := eR
                have dC := eC
                have dO := eO
                have dB := eB
                have hXs := eXs
                clear eX eR eC eO eB eXs
                (try go_wp2_with fail)
                refine hK.out _ _ ?_ (fun hNew => ?_)
                · ((try dsimp only); exact ⟨dX.out, dC.out⟩)
                clear hK K hHeld
                have hHeld := hNew
                clear hNew
                (try simp only [Act.put, List.setIfInBounds_toArray, List.set_cons_zero, List.set_cons_succ])
                refine wpAnyH_done (by kernel_rfl) ?_ _
                refine NoPanic.normal ?_
                obtain ⟨F6, hF6⟩ : ∃ F6, F6 = fl F5 c := ⟨_, rfl⟩
                rw [← hF6] at dR
                have HF6 := Lib.hid hF6
                clear hF6
                clear hHeld
                go_wp2_with fail
                have hc3 : wC.drew.cell? ⟨R, 3, none⟩ = some (.slice Ae ne Ce) := dC.out
                refine wp_region_noPanic ?_
                refine wp_region_held_drew (S := (fun wS => wS.rangeAt X 0 EL)) (by kernel_rfl) ?_ (fun hHeld => ?_)
                · ((try dsimp only); exact dX.out)
                refine wpAnyH_take (i := 0) (oi := { dst := some 44, op := Op.move (Operand.tmp 0), type := 92, pos := "tree.go:63", after := #[], guard := none }) (v := ?_) rfl (by kernel_rfl) (by kernel_rfl) (by kernel_rfl) (fun _ _ _ h => h) (Or.inl ⟨by rfl, ?_⟩) (by assumption) ?_
                rotate_left 1
                · ((intro w hSw; (try dsimp only at hSw); go_simp) <;> with_reducible rfl)
                (try simp only [Act.put, List.setIfInBounds_toArray, List.set_cons_zero, List.set_cons_succ])
                refine wpAnyH_take (i := 1) (oi := { dst := some 45, op := Op.move (Operand.tmp 0), type := 92, pos := "tree.go:63", after := #[], guard := none }) (v := ?_) rfl (by kernel_rfl) (by kernel_rfl) (by kernel_rfl) (fun _ _ _ h => h) (Or.inl ⟨by rfl, ?_⟩) (by assumption) ?_
                rotate_left 1
                · ((intro w hSw; (try dsimp only at hSw); go_simp) <;> with_reducible rfl)
                (try simp only [Act.put, List.setIfInBounds_toArray, List.set_cons_zero, List.set_cons_succ])
                refine wpAnyH_take (i := 2) (oi := { dst := some 46, op := Op.nilCheck (Operand.tmp 45), type := 0, pos := "tree.go:63", after := #[{ on := 1, ground := Ground.data }], guard := none }) (v := ?_) rfl (by kernel_rfl) (by kernel_rfl) (by kernel_rfl) (fun _ _ _ h => h) (Or.inl ⟨by rfl, ?_⟩) (by assumption) ?_
                rotate_left 1
                · ((intro w hSw; (try dsimp only at hSw); go_simp) <;> with_reducible rfl)
                (try simp only [Act.put, List.setIfInBounds_toArray, List.set_cons_zero, List.set_cons_succ])
                refine wpAnyH_take (i := 3) (oi := { dst := some 47, op := Op.fieldAddr 96 (Operand.tmp 46) 1, type := 0, pos := "tree.go:63", after := #[{ on := 2, ground := Ground.data }], guard := none }) (v := ?_) rfl (by kernel_rfl) (by kernel_rfl) (by kernel_rfl) (fun _ _ _ h => h) (Or.inl ⟨by rfl, ?_⟩) (by assumption) ?_
                rotate_left 1
                · ((intro w hSw; (try dsimp only at hSw); go_simp) <;> with_reducible rfl)
                (try simp only [Act.put, List.setIfInBounds_toArray, List.set_cons_zero, List.set_cons_succ])
                refine' wpAnyH_take (i := 5) (oi := { dst := some 49, op := Op.load 87 (Operand.tmp 2), type := 87, pos := "tree.go:63", after := #[], guard := none }) (v := _) rfl (by kernel_rfl) (by kernel_rfl) (by kernel_rfl) (fun _ _ _ h => h) (yieldsIf_load_mid (by rfl) _ _ rfl _ _ rfl EL _ (fun w hSw => hSw) Try.underlying87 rfl HES.out) (by assumption) ?_
                (try simp only [Act.put, List.setIfInBounds_toArray, List.set_cons_zero, List.set_cons_succ])
                refine wpAnyH_ready (rs := [4, 6]) (by kernel_rfl) (by simp) ?_
                refine AllReadyH.cons (o := { dst := some 48, op := Op.load 22 (Operand.tmp 47), type := 22, pos := "tree.go:63", after := #[{ on := 3, ground := Ground.data }], guard := none }) rfl (fun K hK => ?_) ?_
                · go_simp
                  skip
                  (try go_wp2_with fail)
                  refine hK.out _ _ ?_ (fun hNew => ?_)
                  · ((try dsimp only); first | assumption | exact eXs.out _)
                  clear hK K hHeld
                  have hHeld := hNew
                  clear hNew
                  (try simp only [Act.put, List.setIfInBounds_toArray, List.set_cons_zero, List.set_cons_succ])
                  refine wpAnyH_ready (rs := [6]) (by kernel_rfl) (by simp) ?_
                  refine AllReadyH.cons (o := { dst := some 50, op := Op.buildSlice 22 1 #[(0, Operand.tmp 49)], type := 22, pos := "tree.go:63", after := #[{ on := 5, ground := Ground.data }], guard := none }) rfl (fun K hK => ?_) ?_
                  · refine step_build_ent _ rfl (.tmp 49) rfl EL rfl HEl.out ?_
                    obtain ⟨wA, hwA⟩ : ∃ wA, wA = wC.drew.alloc (.cells EL.toArray 87) := ⟨_, rfl⟩
                    have hA := (Below.refl wC.drew.heap.size wC.drew).alloc (Nat.le_refl _) (.cells EL.toArray 87)
                    have aXs0 := al_lt wC.drew (.cells EL.toArray 87)
                    have aN0 := new_ent wC.drew ⟨nm, k, ids⟩ 87
                    rw [← HEC.out] at aN0
                    rw [← hwA] at hA aXs0 aN0
                    change K _ (wC.drew.alloc _)
                    rw [← hwA]
                    clear hwA
                    have aX : wA.rangeAt X 0 EL := range_below hA dX.out hXs
                    have hcA : wA.cell? ⟨R, 3, none⟩ = some (.slice Ae ne Ce) := (hA.cell (p := ⟨R, 3, none⟩) (Nat.lt_trans HXR hXs)).trans dC.out
                    have aO := Lib.hid (own_keep dO.out.drew hA)
                    have aN := Lib.hid aN0
                    have aR := Lib.hid ((dR.out.drewN 1).below hA)
                    have aB : Hid (Below R w wA) := Lib.hid (dB.out.drew.trans (hA.mono (Nat.le_of_lt (Nat.lt_trans HXR hXs))))
                    have aXs : X < wA.heap.size := Nat.lt_trans hXs aXs0
                    have aBs : Hid (B ≤ wA.heap.size) := Lib.hid (Nat.le_trans HT0.out.hBs aB.out.size)
                    clear hA aXs0 aN0
                    generalize wC.drew.heap.size = YA at *
                    (try go_wp2_with fail)
                    refine hK.out _ _ ?_ (fun hNew => ?_)
                    · ((try dsimp only); first | assumption | exact eXs.out _)
                    clear hK K hHeld
                    have hHeld := hNew
                    clear hNew
                    (try simp only [Act.put, List.setIfInBounds_toArray, List.set_cons_zero, List.set_cons_succ])
                    refine wpAnyH_ready (rs := [7]) (by kernel_rfl) (by simp) ?_
                    refine AllReadyH.cons (o := { dst := some 51, op := Op.call { callee := Callee.builtin Builtin.append, args := #[Operand.tmp 48, Operand.tmp 50], argTypes := #[22, 22] }, type := 22, pos := "tree.go:63", after := #[{ on := 4, ground := Ground.data }, { on := 6, ground := Ground.data }], guard := none }) rfl (fun K hK => ?_) ?_
                    · refine step_append_ent _ rfl (.tmp 48) (.tmp 50) rfl B (.slice Ae ne Ce) ne es rfl aO.out _ ⟨nm, k, ids⟩ rfl (fun j u hj => aN.out j u (by rw [HEC.out]; exact hj)) (by rw [← HEC.out]; exact HEl.out) (by omega) aBs.out ?_
                      intro A9 C9 wE hoE hgE
                      have eX : wE.rangeAt X 0 EL := range_grownO aX hgE aXs HNoX.out
                      have eB : Below B wA wE := (Below.refl B wA).grown hgE aBs.out (fun j hj => (aO.out.lt j hj).1)
                      have eR := Lib.hid (aR.out.belowB eB HT0.out.hB HT0.out.hAB)
                      have eW : Hid (Below R w wE) := Lib.hid (aB.out.trans (eB.mono (Nat.le_of_lt HT0.out.hB)))
                      have eO := Lib.hid hoE
                      have hcE : wE.cell? ⟨R, 3, none⟩ = some (.slice Ae ne Ce) := eR.out.row.cell (i := 3) (by omega)
                      have hfE : wE.frozen? ⟨R, 3, none⟩ = false := eR.out.row.frozen _
                      have eXs : Hid (∀ v, (wE.setCell ⟨R, 3, none⟩ v).rangeAt X 0 EL) := Lib.hid (fun v => range_grown eX (grown_set wE R 3 v) (Nat.lt_of_lt_of_le aXs hgE.size) (by omega))
                      clear hcA aX hoE hgE eB
                      (try go_wp2_with fail)
                      refine hK.out _ _ ?_ (fun hNew => ?_)
                      · ((try dsimp only); first | assumption | exact eXs.out _)
                      clear hK K hHeld
                      have hHeld := hNew
                      clear hNew
                      (try simp only [Act.put, List.setIfInBounds_toArray, List.set_cons_zero, List.set_cons_succ])
                      refine wpAnyH_take (i := 8) (oi := { dst := some 52, op := Op.nilCheck (Operand.tmp 44), type := 0, pos := "tree.go:63", after := #[{ on := 0, ground := Ground.data }, { on := 0, ground := Ground.phase }, { on := 1, ground := Ground.phase }, { on := 2, ground := Ground.phase }, { on := 3, ground := Ground.phase }, { on := 4, ground := Ground.phase }, { on := 5, ground := Ground.phase }, { on := 6, ground := Ground.phase }, { on := 7, ground := Ground.phase }], guard := none }) (v := ?_) rfl (by kernel_rfl) (by kernel_rfl) (by kernel_rfl) (fun _ _ _ h => h) (Or.inl ⟨by rfl, ?_⟩) (by assumption) ?_
                      rotate_left 1
                      · ((intro w hSw; (try dsimp only at hSw); go_simp) <;> with_reducible rfl)
                      (try simp only [Act.put, List.setIfInBounds_toArray, List.set_cons_zero, List.set_cons_succ])
                      refine wpAnyH_take (i := 9) (oi := { dst := some 53, op := Op.fieldAddr 96 (Operand.tmp 52) 1, type := 0, pos := "tree.go:63", after := #[{ on := 8, ground := Ground.data }, { on := 0, ground := Ground.phase }, { on := 1, ground := Ground.phase }, { on := 2, ground := Ground.phase }, { on := 3, ground := Ground.phase }, { on := 4, ground := Ground.phase }, { on := 5, ground := Ground.phase }, { on := 6, ground := Ground.phase }, { on := 7, ground := Ground.phase }], guard := none }) (v := ?_) rfl (by kernel_rfl) (by kernel_rfl) (by kernel_rfl) (fun _ _ _ h => h) (Or.inl ⟨by rfl, ?_⟩) (by assumption) ?_
                      rotate_left 1
                      · ((intro w hSw; (try dsimp only at hSw); go_simp) <;> with_reducible rfl)
                      (try simp only [Act.put, List.setIfInBounds_toArray, List.set_cons_zero, List.set_cons_succ])
                      refine wpAnyH_ready (rs := [10]) (by kernel_rfl) (by simp) ?_
                      refine AllReadyH.cons (o := { dst := none, op := Op.store 22 (Operand.tmp 53) (Operand.tmp 51), type := 0, pos := "tree.go:63", after := #[{ on := 9, ground := Ground.data }, { on := 7, ground := Ground.data }, { on := 7, ground := Ground.chain }, { on := 0, ground := Ground.phase }, { on := 1, ground := Ground.phase }, { on := 2, ground := Ground.phase }, { on := 3, ground := Ground.phase }, { on := 4, ground := Ground.phase }, { on := 5, ground := Ground.phase }, { on := 6, ground := Ground.phase }, { on := 7, ground := Ground.phase }], guard := none }) rfl (fun K hK => ?_) ?_
                      · go_simp
                        refine hK.out _ _ ?_ (fun hNew => ?_)
                        · ((try dsimp only); first | assumption | exact eXs.out _)
                        clear hK K hHeld
                        have hHeld := hNew
                        clear hNew
                        (try simp only [Act.put, List.setIfInBounds_toArray, List.set_cons_zero, List.set_cons_succ])
                        refine wpAnyH_done (by kernel_rfl) ?_ _
                        refine NoPanic.normal ?_
                        have hfin := ent_done HT0.out eR.out eO.out HIl.out eW.out
                        have h1 := rd1_eq HMm.out HF2.out HA2.out HKk.out HNm.out HF3.out HA3.out HIds.out HF4.out HA4.out
                        have h2 := rdF_eq h1 HF5.out HCe.out HF6.out
                        have HFin : Hid (EntRet R A L C l at' B ne es w (.returned (.tuple #[])) (wE.setCell ⟨R, 3, none⟩ (.slice A9 (ne + 1 : Nat) C9))) := Lib.hid (by
                          refine ⟨rfl, ⟨A9, C9, ?_⟩, hfin.2⟩
                          rw [h2, h1]
                          exact hfin.1)
                        clear hfin h1 h2
                        go_wp2_with fail
                        go_end0
                        exact HFin.out
                      exact AllReadyH.nil
                    exact AllReadyH.nil
                  exact AllReadyH.nil
                refine AllReadyH.cons (o := { dst := some 50, op := Op.buildSlice 22 1 #[(0, Operand.tmp 49)], type := 22, pos := "tree.go:63", after := #[{ on := 5, ground := Ground.data }], guard := none }) rfl (fun K hK => ?_) ?_
                · refine step_build_ent _ rfl (.tmp 49) rfl EL rfl HEl.out ?_
                  obtain ⟨wA, hwA⟩ : ∃ wA, wA = wC.drew.alloc (.cells EL.toArray 87) := ⟨_, rfl⟩
                  have hA := (Below.refl wC.drew.heap.size wC.drew).alloc (Nat.le_refl _) (.cells EL.toArray 87)
                  have aXs0 := al_lt wC.drew (.cells EL.toArray 87)
                  have aN0 := new_ent wC.drew ⟨nm, k, ids⟩ 87
                  rw [← HEC.out] at aN0
                  rw [← hwA] at hA aXs0 aN0
                  change K _ (wC.drew.alloc _)
                  rw [← hwA]
                  clear hwA
                  have aX : wA.rangeAt X 0 EL := range_below hA dX.out hXs
                  have hcA : wA.cell? ⟨R, 3, none⟩ = some (.slice Ae ne Ce) := (hA.cell (p := ⟨R, 3, none⟩) (Nat.lt_trans HXR hXs)).trans dC.out
                  have aO := Lib.hid (own_keep dO.out.drew hA)
                  have aN := Lib.hid aN0
                  have aR := Lib.hid ((dR.out.drewN 1).below hA)
                  have aB : Hid (Below R w wA) := Lib.hid (dB.out.drew.trans (hA.mono (Nat.le_of_lt (Nat.lt_trans HXR hXs))))
                  have aXs : X < wA.heap.size := Nat.lt_trans hXs aXs0
                  have aBs : Hid (B ≤ wA.heap.size) := Lib.hid (Nat.le_trans HT0.out.hBs aB.out.size)
                  clear hA aXs0 aN0
                  generalize wC.drew.heap.size = YA at *
                  (try go_wp2_with fail)
                  refine hK.out _ _ ?_ (fun hNew => ?_)
                  · ((try dsimp only); first | assumption | exact eXs.out _)
                  clear hK K hHeld
                  have hHeld := hNew
                  clear hNew
                  (try simp only [Act.put, List.setIfInBounds_toArray, List.set_cons_zero, List.set_cons_succ])
                  refine wpAnyH_ready (rs := [4]) (by kernel_rfl) (by simp) ?_
                  refine AllReadyH.cons (o := { dst := some 48, op := Op.load 22 (Operand.tmp 47), type := 22, pos := "tree.go:63", after := #[{ on := 3, ground := Ground.data }], guard := none }) rfl (fun K hK => ?_) ?_
                  · go_simp
                    skip
                    (try go_wp2_with fail)
                    refine hK.out _ _ ?_ (fun hNew => ?_)
                    · ((try dsimp only); first | assumption | exact eXs.out _)
                    clear hK K hHeld
                    have hHeld := hNew
                    clear hNew
                    (try simp only [Act.put, List.setIfInBounds_toArray, List.set_cons_zero, List.set_cons_succ])
                    refine wpAnyH_ready (rs := [7]) (by kernel_rfl) (by simp) ?_
                    refine AllReadyH.cons (o := { dst := some 51, op := Op.call { callee := Callee.builtin Builtin.append, args := #[Operand.tmp 48, Operand.tmp 50], argTypes := #[22, 22] }, type := 22, pos := "tree.go:63", after := #[{ on := 4, ground := Ground.data }, { on := 6, ground := Ground.data }], guard := none }) rfl (fun K hK => ?_) ?_
                    · refine step_append_ent _ rfl (.tmp 48) (.tmp 50) rfl B (.slice Ae ne Ce) ne es rfl aO.out _ ⟨nm, k, ids⟩ rfl (fun j u hj => aN.out j u (by rw [HEC.out]; exact hj)) (by rw [← HEC.out]; exact HEl.out) (by omega) aBs.out ?_
                      intro A9 C9 wE hoE hgE
                      have eX : wE.rangeAt X 0 EL := range_grownO aX hgE aXs HNoX.out
                      have eB : Below B wA wE := (Below.refl B wA).grown hgE aBs.out (fun j hj => (aO.out.lt j hj).1)
                      have eR := Lib.hid (aR.out.belowB eB HT0.out.hB HT0.out.hAB)
                      have eW : Hid (Below R w wE) := Lib.hid (aB.out.trans (eB.mono (Nat.le_of_lt HT0.out.hB)))
                      have eO := Lib.hid hoE
                      have hcE : wE.cell? ⟨R, 3, none⟩ = some (.slice Ae ne Ce) := eR.out.row.cell (i := 3) (by omega)
                      have hfE : wE.frozen? ⟨R, 3, none⟩ = false := eR.out.row.frozen _
                      have eXs : Hid (∀ v, (wE.setCell ⟨R, 3, none⟩ v).rangeAt X 0 EL) := Lib.hid (fun v => range_grown eX (grown_set wE R 3 v) (Nat.lt_of_lt_of_le aXs hgE.size) (by omega))
                      clear hcA aX hoE hgE eB
                      (try go_wp2_with fail)
                      refine hK.out _ _ ?_ (fun hNew => ?_)
                      · ((try dsimp only); first | assumption | exact eXs.out _)
                      clear hK K hHeld
                      have hHeld := hNew
                      clear hNew
                      (try simp only [Act.put, List.setIfInBounds_toArray, List.set_cons_zero, List.set_cons_succ])
                      refine wpAnyH_take (i := 8) (oi := { dst := some 52, op := Op.nilCheck (Operand.tmp 44), type := 0, pos := "tree.go:63", after := #[{ on := 0, ground := Ground.data }, { on := 0, ground := Ground.phase }, { on := 1, ground := Ground.phase }, { on := 2, ground := Ground.phase }, { on := 3, ground := Ground.phase }, { on := 4, ground := Ground.phase }, { on := 5, ground := Ground.phase }, { on := 6, ground := Ground.phase }, { on := 7, ground := Ground.phase }], guard := none }) (v := ?_) rfl (by kernel_rfl) (by kernel_rfl) (by kernel_rfl) (fun _ _ _ h => h) (Or.inl ⟨by rfl, ?_⟩) (by assumption) ?_
                      rotate_left 1
                      · ((intro w hSw; (try dsimp only at hSw); go_simp) <;> with_reducible rfl)
                      (try simp only [Act.put, List.setIfInBounds_toArray, List.set_cons_zero, List.set_cons_succ])
                      refine wpAnyH_take (i := 9) (oi := { dst := some 53, op := Op.fieldAddr 96 (Operand.tmp 52) 1, type := 0, pos := "tree.go:63", after := #[{ on := 8, ground := Ground.data }, { on := 0, ground := Ground.phase }, { on := 1, ground := Ground.phase }, { on := 2, ground := Ground.phase }, { on := 3, ground := Ground.phase }, { on := 4, ground := Ground.phase }, { on := 5, ground := Ground.phase }, { on := 6, ground := Ground.phase }, { on := 7, ground := Ground.phase }], guard := none }) (v := ?_) rfl (by kernel_rfl) (by kernel_rfl) (by kernel_rfl) (fun _ _ _ h => h) (Or.inl ⟨by rfl, ?_⟩) (by assumption) ?_
                      rotate_left 1
                      · ((intro w hSw; (try dsimp only at hSw); go_simp) <;> with_reducible rfl)
                      (try simp only [Act.put, List.setIfInBounds_toArray, List.set_cons_zero, List.set_cons_succ])
                      refine wpAnyH_ready (rs := [10]) (by kernel_rfl) (by simp) ?_
                      refine AllReadyH.cons (o := { dst := none, op := Op.store 22 (Operand.tmp 53) (Operand.tmp 51), type := 0, pos := "tree.go:63", after := #[{ on := 9, ground := Ground.data }, { on := 7, ground := Ground.data }, { on := 7, ground := Ground.chain }, { on := 0, ground := Ground.phase }, { on := 1, ground := Ground.phase }, { on := 2, ground := Ground.phase }, { on := 3, ground := Ground.phase }, { on := 4, ground := Ground.phase }, { on := 5, ground := Ground.phase }, { on := 6, ground := Ground.phase }, { on := 7, ground := Ground.phase }], guard := none }) rfl (fun K hK => ?_) ?_
                      · go_simp
                        refine hK.out _ _ ?_ (fun hNew => ?_)
                        · ((try dsimp only); first | assumption | exact eXs.out _)
                        clear hK K hHeld
                        have hHeld := hNew
                        clear hNew
                        (try simp only [Act.put, List.setIfInBounds_toArray, List.set_cons_zero, List.set_cons_succ])
                        refine wpAnyH_done (by kernel_rfl) ?_ _
                        refine NoPanic.normal ?_
                        have hfin := ent_done HT0.out eR.out eO.out HIl.out eW.out
                        have h1 := rd1_eq HMm.out HF2.out HA2.out HKk.out HNm.out HF3.out HA3.out HIds.out HF4.out HA4.out
                        have h2 := rdF_eq h1 HF5.out HCe.out HF6.out
                        have HFin : Hid (EntRet R A L C l at' B ne es w (.returned (.tuple #[])) (wE.setCell ⟨R, 3, none⟩ (.slice A9 (ne + 1 : Nat) C9))) := Lib.hid (by
                          refine ⟨rfl, ⟨A9, C9, ?_⟩, hfin.2⟩
                          rw [h2, h1]
                          exact hfin.1)
                        clear hfin h1 h2
                        go_wp2_with fail
                        go_end0
                        exact HFin.out
                      exact AllReadyH.nil
                    exact AllReadyH.nil
                  exact AllReadyH.nil
                exact AllReadyH.nil
              exact AllReadyH.nil
            exact AllReadyH.nil
          · have hd : ((ne : Int) == 512) = false := by simp; omega
            obtain ⟨F5, hF5⟩ : ∃ F5, F5 = F4 := ⟨_, rfl⟩
            rw [← hF5] at HR8
            have HF5 : Hid (F5 = if ne = 512 then fl F4 4 else F4) := Lib.hid (by rw [if_neg h512]; exact hF5)
            clear hF5 h512
            have HR9 := HR8
            have HO9 := HO8
            have HX9 := HX8
            have HB9 := HB8
            have hX9 := hX8
            clear HR8 HO8 HX8 HB8 hX8
            obtain ⟨w9, hw9⟩ : ∃ w9, w9 = w8 := ⟨_, rfl⟩
            rw [← hw9] at HR9 HO9 HX9 HB9 hX9 hc3 ⊢
            clear hw9
            go_wp2_with fail
            have HPv := Lib.hid (ahd_of HO9.out.drew HT0.out.ids (by omega) HT0.out.hne)
            have HCk := Lib.hid (check_any nm k ids HIl.out HNs.out Ae ne Ce (lastN es) w9.drew HPv.out)
            rw [HEE.out] at HCk
            have dX : Hid (w9.drew.rangeAt X 0 EL) := Lib.hid HX9.out
            have dR := Lib.hid (HR9.out.drewN 1)
            have dC : Hid (w9.drew.cell? ⟨R, 3, none⟩ = some (.slice Ae ne Ce)) := Lib.hid (HR9.out.row.cell (i := 3) (by omega))
            have dO := Lib.hid HO9.out.drew
            have dB : Hid (Below R w w9.drew) := Lib.hid HB9.out.drew
            have hXs : X < w9.drew.heap.size := hX9
            clear HPv HX9 HR9 HO9 HB9 hX9 hd
            obtain ⟨c, hc⟩ : ∃ c, c = ce k nm ids (lastN es) := ⟨_, rfl⟩
            rw [← hc] at HCk
            have HCe := Lib.hid hc
            clear hc
            refine wp_region_noPanic ?_
            refine wp_region_held_drew (S := (fun wS => wS.rangeAt X 0 EL ∧ wS.cell? ⟨R, 3, none⟩ = some (.slice Ae ne Ce))) (by kernel_rfl) ?_ (fun hHeld => ?_)
            · ((try dsimp only); exact ⟨dX.out, dC.out⟩)
            refine wpAnyH_take (i := 0) (oi := { dst := some 34, op := Op.move (Operand.tmp 0), type := 92, pos := "tree.go:62", after := #[], guard := none }) (v := ?_) rfl (by kernel_rfl) (by kernel_rfl) (by kernel_rfl) (fun _ _ _ h => h) (Or.inl ⟨by rfl, ?_⟩) (by assumption) ?_
            rotate_left 1
            · ((intro w hSw; (try dsimp only at hSw); go_simp) <;> with_reducible rfl)
            (try simp only [Act.put, List.setIfInBounds_toArray, List.set_cons_zero, List.set_cons_succ])
            refine wpAnyH_take (i := 1) (oi := { dst := some 35, op := Op.nilCheck (Operand.tmp 34), type := 0, pos := "tree.go:62", after := #[{ on := 0, ground := Ground.data }], guard := none }) (v := ?_) rfl (by kernel_rfl) (by kernel_rfl) (by kernel_rfl) (fun _ _ _ h => h) (Or.inl ⟨by rfl, ?_⟩) (by assumption) ?_
            rotate_left 1
            · ((intro w hSw; (try dsimp only at hSw); go_simp) <;> with_reducible rfl)
            (try simp only [Act.put, List.setIfInBounds_toArray, List.set_cons_zero, List.set_cons_succ])
            refine wpAnyH_take (i := 2) (oi := { dst := some 36, op := Op.fieldAddr 96 (Operand.tmp 35) 0, type := 0, pos := "tree.go:62", after := #[{ on := 1, ground := Ground.data }], guard := none }) (v := ?_) rfl (by kernel_rfl) (by kernel_rfl) (by kernel_rfl) (fun _ _ _ h => h) (Or.inl ⟨by rfl, ?_⟩) (by assumption) ?_
            rotate_left 1
            · ((intro w hSw; (try dsimp only at hSw); go_simp) <;> with_reducible rfl)
            (try simp only [Act.put, List.setIfInBounds_toArray, List.set_cons_zero, List.set_cons_succ])
            refine' wpAnyH_take (i := 3) (oi := { dst := some 37, op := Op.load 87 (Operand.tmp 2), type := 87, pos := "tree.go:62", after := #[], guard := none }) (v := _) rfl (by kernel_rfl) (by kernel_rfl) (by kernel_rfl) (fun _ _ _ h => h) (yieldsIf_load_mid (by rfl) _ _ rfl _ _ rfl EL _ (fun w hSw => hSw.1) Try.underlying87 rfl HES.out) (by assumption) ?_
            (try simp only [Act.put, List.setIfInBounds_toArray, List.set_cons_zero, List.set_cons_succ])
            refine wpAnyH_take (i := 4) (oi := { dst := some 38, op := Op.move (Operand.tmp 0), type := 92, pos := "tree.go:62", after := #[], guard := none }) (v := ?_) rfl (by kernel_rfl) (by kernel_rfl) (by kernel_rfl) (fun _ _ _ h => h) (Or.inl ⟨by rfl, ?_⟩) (by assumption) ?_
            rotate_left 1
            · ((intro w hSw; (try dsimp only at hSw); go_simp) <;> with_reducible rfl)
            (try simp only [Act.put, List.setIfInBounds_toArray, List.set_cons_zero, List.set_cons_succ])
            refine wpAnyH_take (i := 5) (oi := { dst := some 39, op := Op.nilCheck (Operand.tmp 38), type := 0, pos := "tree.go:62", after := #[{ on := 4, ground := Ground.data }], guard := none }) (v := ?_) rfl (by kernel_rfl) (by kernel_rfl) (by kernel_rfl) (fun _ _ _ h => h) (Or.inl ⟨by rfl, ?_⟩) (by assumption) ?_
            rotate_left 1
            · ((intro w hSw; (try dsimp only at hSw); go_simp) <;> with_reducible rfl)
            (try simp only [Act.put, List.setIfInBounds_toArray, List.set_cons_zero, List.set_cons_succ])
            refine wpAnyH_take (i := 6) (oi := { dst := some 40, op := Op.fieldAddr 96 (Operand.tmp 39) 1, type := 0, pos := "tree.go:62", after := #[{ on := 5, ground := Ground.data }], guard := none }) (v := ?_) rfl (by kernel_rfl) (by kernel_rfl) (by kernel_rfl) (fun _ _ _ h => h) (Or.inl ⟨by rfl, ?_⟩) (by assumption) ?_
            rotate_left 1
            · ((intro w hSw; (try dsimp only at hSw); go_simp) <;> with_reducible rfl)
            (try simp only [Act.put, List.setIfInBounds_toArray, List.set_cons_zero, List.set_cons_succ])
            refine wpAnyH_take (i := 7) (oi := { dst := some 41, op := Op.load 22 (Operand.tmp 40), type := 22, pos := "tree.go:62", after := #[{ on := 6, ground := Ground.data }], guard := none }) (v := ?_) rfl (by kernel_rfl) (by kernel_rfl) (by kernel_rfl) (fun _ _ _ h => h) (Or.inl ⟨by rfl, ?_⟩) (by assumption) ?_
            rotate_left 1
            · ((intro w hSw; (try dsimp only at hSw); go_simp) <;> with_reducible rfl)
            (try simp only [Act.put, List.setIfInBounds_toArray, List.set_cons_zero, List.set_cons_succ])
            refine wpAnyH_ready (rs := [8]) (by kernel_rfl) (by simp) ?_
            refine AllReadyH.cons (o := { dst := some 42, op := Op.call { callee := Callee.value (Operand.func 40), args := #[Operand.tmp 37, Operand.tmp 41], argTypes := #[87, 22] }, type := 25, pos := "tree.go:62", after := #[{ on := 3, ground := Ground.data }, { on := 7, ground := Ground.data }], guard := none }) rfl (fun K hK => ?_) ?_
            · go_simp
              refine HCk.out.mono ?_
              rintro e wB ⟨rfl, hb⟩
              have eX := Lib.hid (range_below hb dX.out hXs)
              have eR := Lib.hid (dR.out.below hb)
              have eC : Hid (wB.cell? ⟨R, 3, none⟩ = some (.slice Ae ne Ce)) := Lib.hid (eR.out.row.cell (i := 3) (by omega))
              have eO := Lib.hid (own_keep dO.out hb)
              have eB := Lib.hid (dB.out.trans (hb.mono (by omega)))
              have eXs := Nat.lt_of_lt_of_le hXs hb.size
              clear dX dR dC dO dB hXs hb HCk
              have dX := eX
              have dR := eR
              have dC := eC
              have dO := eO
              have dB := eB
              have hXs := eXs
              clear eX eR eC eO eB eXs
              have HFm := Lib.hid (fail_any R 4 96 A L C l A4 F5 c _ wB dR.out)
              (try go_wp2_with fail)
              refine hK.out _ _ ?_ (fun hNew => ?_)
              · ((try dsimp only); exact ⟨dX.out, dC.out⟩)
              clear hK K hHeld
              have hHeld := hNew
              clear hNew
              (try simp only [Act.put, List.setIfInBounds_toArray, List.set_cons_zero, List.set_cons_succ])
              refine wpAnyH_ready (rs := [9]) (by kernel_rfl) (by simp) ?_
              refine AllReadyH.cons (o := { dst := some 43, op := Op.call { callee := Callee.value (Operand.func 85), args := #[Operand.tmp 36, Operand.tmp 42], argTypes := #[94, 25] }, type := 0, pos := "tree.go:62", after := #[{ on := 2, ground := Ground.data }, { on := 8, ground := Ground.data }, { on := 8, ground := Ground.chain }], guard := none }) rfl (fun K hK => ?_) ?_
              · go_simp
                refine HFm.out.mono ?_
                rintro e wC ⟨rfl, hR, hg⟩
                have eX := Lib.hid (range_grown dX.out hg hXs (by omega))
                have eR := Lib.hid hR
                have eC : Hid (wC.cell? ⟨R, 3, none⟩ = some (.slice Ae ne Ce)) := Lib.hid (eR.out.row.cell (i := 3) (by omega))
                have eO := Lib.hid (own_grown dO.out hg HNoR.out)
                have eB := Lib.hid (dB.out.trans (below_of_grown hg (by omega)))
                have eXs := Nat.lt_of_lt_of_le hXs hg.size
                clear dX dR dC dO dB hXs hR hg HFm
                have dX := eX
                have dR := eR
                have dC := eC
                have dO := eO
                have dB := eB
                have hXs := eXs
                clear eX eR eC eO eB eXs
                (try go_wp2_with fail)
                refine hK.out _ _ ?_ (fun hNew => ?_)
                · ((try dsimp only); exact ⟨dX.out, dC.out⟩)
                clear hK K hHeld
                have hHeld := hNew
                clear hNew
                (try simp only [Act.put, List.setIfInBounds_toArray, List.set_cons_zero, List.set_cons_succ])
                refine wpAnyH_done (by kernel_rfl) ?_ _
                refine NoPanic.normal ?_
                obtain ⟨F6, hF6⟩ : ∃ F6, F6 = fl F5 c := ⟨_, rfl⟩
                rw [← hF6] at dR
                have HF6 := Lib.hid hF6
                clear hF6
                clear hHeld
                go_wp2_with fail
                have hc3 : wC.drew.cell? ⟨R, 3, none⟩ = some (.slice Ae ne Ce) := dC.out
                refine wp_region_noPanic ?_
                refine wp_region_held_drew (S := (fun wS => wS.rangeAt X 0 EL)) (by kernel_rfl) ?_ (fun hHeld => ?_)
                · ((try dsimp only); exact dX.out)
                refine wpAnyH_take (i := 0) (oi := { dst := some 44, op := Op.move (Operand.tmp 0), type := 92, pos := "tree.go:63", after := #[], guard := none }) (v := ?_) rfl (by kernel_rfl) (by kernel_rfl) (by kernel_rfl) (fun _ _ _ h => h) (Or.inl ⟨by rfl, ?_⟩) (by assumption) ?_
                rotate_left 1
                · ((intro w hSw; (try dsimp only at hSw); go_simp) <;> with_reducible rfl)
                (try simp only [Act.put, List.setIfInBounds_toArray, List.set_cons_zero, List.set_cons_succ])
                refine wpAnyH_take (i := 1) (oi := { dst := some 45, op := Op.move (Operand.tmp 0), type := 92, pos := "tree.go:63", after := #[], guard := none }) (v := ?_) rfl (by kernel_rfl) (by kernel_rfl) (by kernel_rfl) (fun _ _ _ h => h) (Or.inl ⟨by rfl, ?_⟩) (by assumption) ?_
                rotate_left 1
                · ((intro w hSw; (try dsimp only at hSw); go_simp) <;> with_reducible rfl)
                (try simp only [Act.put, List.setIfInBounds_toArray, List.set_cons_zero, List.set_cons_succ])
                refine wpAnyH_take (i := 2) (oi := { dst := some 46, op := Op.nilCheck (Operand.tmp 45), type := 0, pos := "tree.go:63", after := #[{ on := 1, ground := Ground.data }], guard := none }) (v := ?_) rfl (by kernel_rfl) (by kernel_rfl) (by kernel_rfl) (fun _ _ _ h => h) (Or.inl ⟨by rfl, ?_⟩) (by assumption) ?_
                rotate_left 1
                · ((intro w hSw; (try dsimp only at hSw); go_simp) <;> with_reducible rfl)
                (try simp only [Act.put, List.setIfInBounds_toArray, List.set_cons_zero, List.set_cons_succ])
                refine wpAnyH_take (i := 3) (oi := { dst := some 47, op := Op.fieldAddr 96 (Operand.tmp 46) 1, type := 0, pos := "tree.go:63", after := #[{ on := 2, ground := Ground.data }], guard := none }) (v := ?_) rfl (by kernel_rfl) (by kernel_rfl) (by kernel_rfl) (fun _ _ _ h => h) (Or.inl ⟨by rfl, ?_⟩) (by assumption) ?_
                rotate_left 1
                · ((intro w hSw; (try dsimp only at hSw); go_simp) <;> with_reducible rfl)
                (try simp only [Act.put, List.setIfInBounds_toArray, List.set_cons_zero, List.set_cons_succ])
                refine' wpAnyH_take (i := 5) (oi := { dst := some 49, op := Op.load 87 (Operand.tmp 2), type := 87, pos := "tree.go:63", after := #[], guard := none }) (v := _) rfl (by kernel_rfl) (by kernel_rfl) (by kernel_rfl) (fun _ _ _ h => h) (yieldsIf_load_mid (by rfl) _ _ rfl _ _ rfl EL _ (fun w hSw => hSw) Try.underlying87 rfl HES.out) (by assumption) ?_
                (try simp only [Act.put, List.setIfInBounds_toArray, List.set_cons_zero, List.set_cons_succ])
                refine wpAnyH_ready (rs := [4, 6]) (by kernel_rfl) (by simp) ?_
                refine AllReadyH.cons (o := { dst := some 48, op := Op.load 22 (Operand.tmp 47), type := 22, pos := "tree.go:63", after := #[{ on := 3, ground := Ground.data }], guard := none }) rfl (fun K hK => ?_) ?_
                · go_simp
                  skip
                  (try go_wp2_with fail)
                  refine hK.out _ _ ?_ (fun hNew => ?_)
                  · ((try dsimp only); first | assumption | exact eXs.out _)
                  clear hK K hHeld
                  have hHeld := hNew
                  clear hNew
                  (try simp only [Act.put, List.setIfInBounds_toArray, List.set_cons_zero, List.set_cons_succ])
                  refine wpAnyH_ready (rs := [6]) (by kernel_rfl) (by simp) ?_
                  refine AllReadyH.cons (o := { dst := some 50, op := Op.buildSlice 22 1 #[(0, Operand.tmp 49)], type := 22, pos := "tree.go:63", after := #[{ on := 5, ground := Ground.data }], guard := none }) rfl (fun K hK => ?_) ?_
                  · refine step_build_ent _ rfl (.tmp 49) rfl EL rfl HEl.out ?_
                    obtain ⟨wA, hwA⟩ : ∃ wA, wA = wC.drew.alloc (.cells EL.toArray 87) := ⟨_, rfl⟩
                    have hA := (Below.refl wC.drew.heap.size wC.drew).alloc (Nat.le_refl _) (.cells EL.toArray 87)
                    have aXs0 := al_lt wC.drew (.cells EL.toArray 87)
                    have aN0 := new_ent wC.drew ⟨nm, k, ids⟩ 87
                    rw [← HEC.out] at aN0
                    rw [← hwA] at hA aXs0 aN0
                    change K _ (wC.drew.alloc _)
                    rw [← hwA]
                    clear hwA
                    have aX : wA.rangeAt X 0 EL := range_below hA dX.out hXs
                    have hcA : wA.cell? ⟨R, 3, none⟩ = some (.slice Ae ne Ce) := (hA.cell (p := ⟨R, 3, none⟩) (Nat.lt_trans HXR hXs)).trans dC.out
                    have aO := Lib.hid (own_keep dO.out.drew hA)
                    have aN := Lib.hid aN0
                    have aR := Lib.hid ((dR.out.drewN 1).below hA)
                    have aB : Hid (Below R w wA) := Lib.hid (dB.out.drew.trans (hA.mono (Nat.le_of_lt (Nat.lt_trans HXR hXs))))
                    have aXs : X < wA.heap.size := Nat.lt_trans hXs aXs0
                    have aBs : Hid (B ≤ wA.heap.size) := Lib.hid (Nat.le_trans HT0.out.hBs aB.out.size)
                    clear hA aXs0 aN0
                    generalize wC.drew.heap.size = YA at *
                    (try go_wp2_with fail)
                    refine hK.out _ _ ?_ (fun hNew => ?_)
                    · ((try dsimp only); first | assumption | exact eXs.out _)
                    clear hK K hHeld
                    have hHeld := hNew
                    clear hNew
                    (try simp only [Act.put, List.setIfInBounds_toArray, List.set_cons_zero, List.set_cons_succ])
                    refine wpAnyH_ready (rs := [7]) (by kernel_rfl) (by simp) ?_
                    refine AllReadyH.cons (o := { dst := some 51, op := Op.call { callee := Callee.builtin Builtin.append, args := #[Operand.tmp 48, Operand.tmp 50], argTypes := #[22, 22] }, type := 22, pos := "tree.go:63", after := #[{ on := 4, ground := Ground.data }, { on := 6, ground := Ground.data }], guard := none }) rfl (fun K hK => ?_) ?_
                    · refine step_append_ent _ rfl (.tmp 48) (.tmp 50) rfl B (.slice Ae ne Ce) ne es rfl aO.out _ ⟨nm, k, ids⟩ rfl (fun j u hj => aN.out j u (by rw [HEC.out]; exact hj)) (by rw [← HEC.out]; exact HEl.out) (by omega) aBs.out ?_
                      intro A9 C9 wE hoE hgE
                      have eX : wE.rangeAt X 0 EL := range_grownO aX hgE aXs HNoX.out
                      have eB : Below B wA wE := (Below.refl B wA).grown hgE aBs.out (fun j hj => (aO.out.lt j hj).1)
                      have eR := Lib.hid (aR.out.belowB eB HT0.out.hB HT0.out.hAB)
                      have eW : Hid (Below R w wE) := Lib.hid (aB.out.trans (eB.mono (Nat.le_of_lt HT0.out.hB)))
                      have eO := Lib.hid hoE
                      have hcE : wE.cell? ⟨R, 3, none⟩ = some (.slice Ae ne Ce) := eR.out.row.cell (i := 3) (by omega)
                      have hfE : wE.frozen? ⟨R, 3, none⟩ = false := eR.out.row.frozen _
                      have eXs : Hid (∀ v, (wE.setCell ⟨R, 3, none⟩ v).rangeAt X 0 EL) := Lib.hid (fun v => range_grown eX (grown_set wE R 3 v) (Nat.lt_of_lt_of_le aXs hgE.size) (by omega))
                      clear hcA aX hoE hgE eB
                      (try go_wp2_with fail)
                      refine hK.out _ _ ?_ (fun hNew => ?_)
                      · ((try dsimp only); first | assumption | exact eXs.out _)
                      clear hK K hHeld
                      have hHeld := hNew
                      clear hNew
                      (try simp only [Act.put, List.setIfInBounds_toArray, List.set_cons_zero, List.set_cons_succ])
                      refine wpAnyH_take (i := 8) (oi := { dst := some 52, op := Op.nilCheck (Operand.tmp 44), type := 0, pos := "tree.go:63", after := #[{ on := 0, ground := Ground.data }, { on := 0, ground := Ground.phase }, { on := 1, ground := Ground.phase }, { on := 2, ground := Ground.phase }, { on := 3, ground := Ground.phase }, { on := 4, ground := Ground.phase }, { on := 5, ground := Ground.phase }, { on := 6, ground := Ground.phase }, { on := 7, ground := Ground.phase }], guard := none }) (v := ?_) rfl (by kernel_rfl) (by kernel_rfl) (by kernel_rfl) (fun _ _ _ h => h) (Or.inl ⟨by rfl, ?_⟩) (by assumption) ?_
                      rotate_left 1
                      · ((intro w hSw; (try dsimp only at hSw); go_simp) <;> with_reducible rfl)
                      (try simp only [Act.put, List.setIfInBounds_toArray, List.set_cons_zero, List.set_cons_succ])
                      refine wpAnyH_take (i := 9) (oi := { dst := some 53, op := Op.fieldAddr 96 (Operand.tmp 52) 1, type := 0, pos := "tree.go:63", after := #[{ on := 8, ground := Ground.data }, { on := 0, ground := Ground.phase }, { on := 1, ground := Ground.phase }, { on := 2, ground := Ground.phase }, { on := 3, ground := Ground.phase }, { on := 4, ground := Ground.phase }, { on := 5, ground := Ground.phase }, { on := 6, ground := Ground.phase }, { on := 7, ground := Ground.phase }], guard := none }) (v := ?_) rfl (by kernel_rfl) (by kernel_rfl) (by kernel_rfl) (fun _ _ _ h => h) (Or.inl ⟨by rfl, ?_⟩) (by assumption) ?_
                      rotate_left 1
                      · ((intro w hSw; (try dsimp only at hSw); go_simp) <;> with_reducible rfl)
                      (try simp only [Act.put, List.setIfInBounds_toArray, List.set_cons_zero, List.set_cons_succ])
                      refine wpAnyH_ready (rs := [10]) (by kernel_rfl) (by simp) ?_
                      refine AllReadyH.cons (o := { dst := none, op := Op.store 22 (Operand.tmp 53) (Operand.tmp 51), type := 0, pos := "tree.go:63", after := #[{ on := 9, ground := Ground.data }, { on := 7, ground := Ground.data }, { on := 7, ground := Ground.chain }, { on := 0, ground := Ground.phase }, { on := 1, ground := Ground.phase }, { on := 2, ground := Ground.phase }, { on := 3, ground := Ground.phase }, { on := 4, ground := Ground.phase }, { on := 5, ground := Ground.phase }, { on := 6, ground := Ground.phase }, { on := 7, ground := Ground.phase }], guard := none }) rfl (fun K hK => ?_) ?_
                      · go_simp
                        refine hK.out _ _ ?_ (fun hNew => ?_)
                        · ((try dsimp only); first | assumption | exact eXs.out _)
                        clear hK K hHeld
                        have hHeld := hNew
                        clear hNew
                        (try simp only [Act.put, List.setIfInBounds_toArray, List.set_cons_zero, List.set_cons_succ])
                        refine wpAnyH_done (by kernel_rfl) ?_ _
                        refine NoPanic.normal ?_
                        have hfin := ent_done HT0.out eR.out eO.out HIl.out eW.out
                        have h1 := rd1_eq HMm.out HF2.out HA2.out HKk.out HNm.out HF3.out HA3.out HIds.out HF4.out HA4.out
                        have h2 := rdF_eq h1 HF5.out HCe.out HF6.out
                        have HFin : Hid (EntRet R A L C l at' B ne es w (.returned (.tuple #[])) (wE.setCell ⟨R, 3, none⟩ (.slice A9 (ne + 1 : Nat) C9))) := Lib.hid (by
                          refine ⟨rfl, ⟨A9, C9, ?_⟩, hfin.2⟩
                          rw [h2, h1]
                          exact hfin.1)
                        clear hfin h1 h2
                        go_wp2_with fail
                        go_end0
                        exact HFin.out
                      exact AllReadyH.nil
                    exact AllReadyH.nil
                  exact AllReadyH.nil
                refine AllReadyH.cons (o := { dst := some 50, op := Op.buildSlice 22 1 #[(0, Operand.tmp 49)], type := 22, pos := "tree.go:63", after := #[{ on := 5, ground := Ground.data }], guard := none }) rfl (fun K hK => ?_) ?_
                · refine step_build_ent _ rfl (.tmp 49) rfl EL rfl HEl.out ?_
                  obtain ⟨wA, hwA⟩ : ∃ wA, wA = wC.drew.alloc (.cells EL.toArray 87) := ⟨_, rfl⟩
                  have hA := (Below.refl wC.drew.heap.size wC.drew).alloc (Nat.le_refl _) (.cells EL.toArray 87)
                  have aXs0 := al_lt wC.drew (.cells EL.toArray 87)
                  have aN0 := new_ent wC.drew ⟨nm, k, ids⟩ 87
                  rw [← HEC.out] at aN0
                  rw [← hwA] at hA aXs0 aN0
                  change K _ (wC.drew.alloc _)
                  rw [← hwA]
                  clear hwA
                  have aX : wA.rangeAt X 0 EL := range_below hA dX.out hXs
                  have hcA : wA.cell? ⟨R, 3, none⟩ = some (.slice Ae ne Ce) := (hA.cell (p := ⟨R, 3, none⟩) (Nat.lt_trans HXR hXs)).trans dC.out
                  have aO := Lib.hid (own_keep dO.out.drew hA)
                  have aN := Lib.hid aN0
                  have aR := Lib.hid ((dR.out.drewN 1).below hA)
                  have aB : Hid (Below R w wA) := Lib.hid (dB.out.drew.trans (hA.mono (Nat.le_of_lt (Nat.lt_trans HXR hXs))))
                  have aXs : X < wA.heap.size := Nat.lt_trans hXs aXs0
                  have aBs : Hid (B ≤ wA.heap.size) := Lib.hid (Nat.le_trans HT0.out.hBs aB.out.size)
                  clear hA aXs0 aN0
                  generalize wC.drew.heap.size = YA at *
                  (try go_wp2_with fail)
                  refine hK.out _ _ ?_ (fun hNew => ?_)
                  · ((try dsimp only); first | assumption | exact eXs.out _)
                  clear hK K hHeld
                  have hHeld := hNew
                  clear hNew
                  (try simp only [Act.put, List.setIfInBounds_toArray, List.set_cons_zero, List.set_cons_succ])
                  refine wpAnyH_ready (rs := [4]) (by kernel_rfl) (by simp) ?_
                  refine AllReadyH.cons (o := { dst := some 48, op := Op.load 22 (Operand.tmp 47), type := 22, pos := "tree.go:63", after := #[{ on := 3, ground := Ground.data }], guard := none }) rfl (fun K hK => ?_) ?_
                  · go_simp
                    skip
                    (try go_wp2_with fail)
                    refine hK.out _ _ ?_ (fun hNew => ?_)
                    · ((try dsimp only); first | assumption | exact eXs.out _)
                    clear hK K hHeld
                    have hHeld := hNew
                    clear hNew
                    (try simp only [Act.put, List.setIfInBounds_toArray, List.set_cons_zero, List.set_cons_succ])
                    refine wpAnyH_ready (rs := [7]) (by kernel_rfl) (by simp) ?_
                    refine AllReadyH.cons (o := { dst := some 51, op := Op.call { callee := Callee.builtin Builtin.append, args := #[Operand.tmp 48, Operand.tmp 50], argTypes := #[22, 22] }, type := 22, pos := "tree.go:63", after := #[{ on := 4, ground := Ground.data }, { on := 6, ground := Ground.data }], guard := none }) rfl (fun K hK => ?_) ?_
                    · refine step_append_ent _ rfl (.tmp 48) (.tmp 50) rfl B (.slice Ae ne Ce) ne es rfl aO.out _ ⟨nm, k, ids⟩ rfl (fun j u hj => aN.out j u (by rw [HEC.out]; exact hj)) (by rw [← HEC.out]; exact HEl.out) (by omega) aBs.out ?_
                      intro A9 C9 wE hoE hgE
                      have eX : wE.rangeAt X 0 EL := range_grownO aX hgE aXs HNoX.out
                      have eB : Below B wA wE := (Below.refl B wA).grown hgE aBs.out (fun j hj => (aO.out.lt j hj).1)
                      have eR := Lib.hid (aR.out.belowB eB HT0.out.hB HT0.out.hAB)
                      have eW : Hid (Below R w wE) := Lib.hid (aB.out.trans (eB.mono (Nat.le_of_lt HT0.out.hB)))
                      have eO := Lib.hid hoE
                      have hcE : wE.cell? ⟨R, 3, none⟩ = some (.slice Ae ne Ce) := eR.out.row.cell (i := 3) (by omega)
                      have hfE : wE.frozen? ⟨R, 3, none⟩ = false := eR.out.row.frozen _
                      have eXs : Hid (∀ v, (wE.setCell ⟨R, 3, none⟩ v).rangeAt X 0 EL) := Lib.hid (fun v => range_grown eX (grown_set wE R 3 v) (Nat.lt_of_lt_of_le aXs hgE.size) (by omega))
                      clear hcA aX hoE hgE eB
                      (try go_wp2_with fail)
                      refine hK.out _ _ ?_ (fun hNew => ?_)
                      · ((try dsimp only); first | assumption | exact eXs.out _)
                      clear hK K hHeld
                      have hHeld := hNew
                      clear hNew
                      (try simp only [Act.put, List.setIfInBounds_toArray, List.set_cons_zero, List.set_cons_succ])
                      refine wpAnyH_take (i := 8) (oi := { dst := some 52, op := Op.nilCheck (Operand.tmp 44), type := 0, pos := "tree.go:63", after := #[{ on := 0, ground := Ground.data }, { on := 0, ground := Ground.phase }, { on := 1, ground := Ground.phase }, { on := 2, ground := Ground.phase }, { on := 3, ground := Ground.phase }, { on := 4, ground := Ground.phase }, { on := 5, ground := Ground.phase }, { on := 6, ground := Ground.phase }, { on := 7, ground := Ground.phase }], guard := none }) (v := ?_) rfl (by kernel_rfl) (by kernel_rfl) (by kernel_rfl) (fun _ _ _ h => h) (Or.inl ⟨by rfl, ?_⟩) (by assumption) ?_
                      rotate_left 1
                      · ((intro w hSw; (try dsimp only at hSw); go_simp) <;> with_reducible rfl)
                      (try simp only [Act.put, List.setIfInBounds_toArray, List.set_cons_zero, List.set_cons_succ])
                      refine wpAnyH_take (i := 9) (oi := { dst := some 53, op := Op.fieldAddr 96 (Operand.tmp 52) 1, type := 0, pos := "tree.go:63", after := #[{ on := 8, ground := Ground.data }, { on := 0, ground := Ground.phase }, { on := 1, ground := Ground.phase }, { on := 2, ground := Ground.phase }, { on := 3, ground := Ground.phase }, { on := 4, ground := Ground.phase }, { on := 5, ground := Ground.phase }, { on := 6, ground := Ground.phase }, { on := 7, ground := Ground.phase }], guard := none }) (v := ?_) rfl (by kernel_rfl) (by kernel_rfl) (by kernel_rfl) (fun _ _ _ h => h) (Or.inl ⟨by rfl, ?_⟩) (by assumption) ?_
                      rotate_left 1
                      · ((intro w hSw; (try dsimp only at hSw); go_simp) <;> with_reducible rfl)
                      (try simp only [Act.put, List.setIfInBounds_toArray, List.set_cons_zero, List.set_cons_succ])
                      refine wpAnyH_ready (rs := [10]) (by kernel_rfl) (by simp) ?_
                      refine AllReadyH.cons (o := { dst := none, op := Op.store 22 (Operand.tmp 53) (Operand.tmp 51), type := 0, pos := "tree.go:63", after := #[{ on := 9, ground := Ground.data }, { on := 7, ground := Ground.data }, { on := 7, ground := Ground.chain }, { on := 0, ground := Ground.phase }, { on := 1, ground := Ground.phase }, { on := 2, ground := Ground.phase }, { on := 3, ground := Ground.phase }, { on := 4, ground := Ground.phase }, { on := 5, ground := Ground.phase }, { on := 6, ground := Ground.phase }, { on := 7, ground := Ground.phase }], guard := none }) rfl (fun K hK => ?_) ?_
                      · go_simp
                        refine hK.out _ _ ?_ (fun hNew => ?_)
                        · ((try dsimp only); first | assumption | exact eXs.out _)
                        clear hK K hHeld
                        have hHeld := hNew
                        clear hNew
                        (try simp only [Act.put, List.setIfInBounds_toArray, List.set_cons_zero, List.set_cons_succ])
                        refine wpAnyH_done (by kernel_rfl) ?_ _
                        refine NoPanic.normal ?_
                        have hfin := ent_done HT0.out eR.out eO.out HIl.out eW.out
                        have h1 := rd1_eq HMm.out HF2.out HA2.out HKk.out HNm.out HF3.out HA3.out HIds.out HF4.out HA4.out
                        have h2 := rdF_eq h1 HF5.out HCe.out HF6.out
                        have HFin : Hid (EntRet R A L C l at' B ne es w (.returned (.tuple #[])) (wE.setCell ⟨R, 3, none⟩ (.slice A9 (ne + 1 : Nat) C9))) := Lib.hid (by
                          refine ⟨rfl, ⟨A9, C9, ?_⟩, hfin.2⟩
                          rw [h2, h1]
                          exact hfin.1)
                        clear hfin h1 h2
                        go_wp2_with fail
                        go_end0
                        exact HFin.out
                      exact AllReadyH.nil
                    exact AllReadyH.nil
                  exact AllReadyH.nil
                exact AllReadyH.nil
              exact AllReadyH.nil
            exact AllReadyH.nil
        exact AllReadyH.nil
      exact AllReadyH.nil
    exact AllReadyH.nil
  exact AllReadyH.nil
end Go.Proofs.Ytmcmapgllaopmaa.Cd
end

section
namespace Go.Proofs.Ytmcmapgllaopmaa.Cd
open Go.RowKit
set_option linter.unusedVariables false
theorem fl_zero {f e : Int} (h : fl f e = 0) : f = 0 ∧ e = 0 := by
  unfold fl at h
  split at h
  · exact ⟨by assumption, h⟩
  · exact absurd h (by assumption)
theorem tkF_zero {f : Int} {a L n : Nat} (h : tkF f a L n = 0) : f = 0 ∧ ¬ (L - a < n) := by
  unfold tkF at h
  split at h
  · exact absurd h (by decide)
  · rename_i h1
    exact ⟨h, fun h2 => h1 ⟨h, h2⟩⟩
theorem tkA_zero {f : Int} {a L n : Nat} (h : tkF f a L n = 0) : tkA f a L n = a + n := by
  unfold tkA
  rw [if_pos h]
/-- an entry that is read well takes 34 bytes or more, and the count is not full -/
theorem rd_step {l : List Int} {at' L cnt : Nat} {prev : Option ByteArray} (h : rdF l at' L cnt prev = 0) : at' + 34 ≤ (rd1 l at' L).pos ∧ cnt ≠ 512 := by
  unfold rdF at h
  obtain ⟨h1, -⟩ := fl_zero h
  have h2 : (rd1 l at' L).f = 0 ∧ cnt ≠ 512 := by
    split at h1
    · exact absurd (fl_zero h1).2 (by decide)
    · exact ⟨h1, by assumption⟩
  refine ⟨?_, h2.2⟩
  have h3 := h2.1
  unfold rd1 at h3 ⊢
  dsimp only at h3 ⊢
  generalize rdM l at' L = m at *
  have e4 := tkF_zero h3
  have e3 := tkF_zero e4.1
  have e2 := tkF_zero e3.1
  have a4 := tkA_zero h3
  have a3 := tkA_zero e4.1
  have a2 := tkA_zero e3.1
  have a1 := tkA_zero e2.1
  omega
/-- what the bytes of a tree's body say: what failed, the entries -/
def pT (l : List Int) (L : Nat) : Nat → Nat → List Fr.Ent → Int × List Fr.Ent
  | 0, _, es => (0, es)
  | n + 1, at', es => if at' = L then (0, es) else if rdF l at' L es.length (lastN es) = 0 then pT l L n (rd1 l at' L).pos (es ++ [⟨(rd1 l at' L).nm, (rd1 l at' L).k, (rd1 l at' L).id⟩]) else (rdF l at' L es.length (lastN es), [])
/-- where the reader is -/
def atOf (w : World) (R : Nat) : Nat := match w.cell? ⟨R, 1, none⟩ with
  | some (.int _ x) => x.toNat
  | _ => 0
theorem Tr.atOf {w : World} {R : Nat} {A : Option Addr} {L C : Nat} {l : List Int} {at' : Nat} {f : Int} {B : Nat} {Ae : Option Addr} {ne Ce : Nat} {es : List Fr.Ent} (h : Tr w R A L C l at' f B Ae ne Ce es) : atOf w R = at' := by
  unfold Cd.atOf
  rw [h.rdr.c1]
  rfl
theorem Tr.below {w w' : World} {R : Nat} {A : Option Addr} {L C : Nat} {l : List Int} {at' : Nat} {f : Int} {B : Nat} {Ae : Option Addr} {ne Ce : Nat} {es : List Fr.Ent} (h : Tr w R A L C l at' f B Ae ne Ce es) (hb : Below w.heap.size w w') : Tr w' R A L C l at' f B Ae ne Ce es :=
  ⟨h.rdr.below hb, own_keep h.own hb, h.hB, Nat.le_trans h.hBs hb.size, h.ids, h.hAB, h.hne⟩
theorem ended_any (R N : Nat) (t : TypeId) (A : Option Addr) (L C : Nat) (l : List Int) (at' : Nat) (f : Int) (E : Nat → Value) (w : World) (h : Rdr w R N t A L C l at' f E) (b : Bool) (hb : ((at' : Int) == (L : Int)) = b) :
    Calls Try.prog 44 #[.pointer (some ⟨R, 0, none⟩)] w fun e w' => e = .returned (.bool b) ∧ Below w.heap.size w w' := by
  have HB := Lib.hid (Below.refl w.heap.size w)
  have h0 := h.c0
  have h1 := h.c1
  clear h
  go_enter Try.func44, Try.ntmps44
  go_wp2
  go_quiet (fail)
  go_wp2
  go_ret
  exact ⟨rfl, below_drewN HB.out _⟩
/-- what ParseTree hands back -/
def PtRet (l : List Int) (L : Nat) (w : World) (e : Ending) (w' : World) : Prop :=
  Below w.heap.size w w' ∧
  (((pT l L (L + 1) 0 []).1 ≠ 0 ∧ e = .returned (.tuple #[.slice none 0 0, .int .i64 (pT l L (L + 1) 0 []).1])) ∨
   ((pT l L (L + 1) 0 []).1 = 0 ∧ (∀ x ∈ (pT l L (L + 1) 0 []).2, x.id.length = 32) ∧ ∃ Ae Ce, e = .returned (.tuple #[.slice Ae (pT l L (L + 1) 0 []).2.length Ce, .int .i64 0]) ∧ w'.ownsRow w.heap.size 87 34 (.slice Ae (pT l L (L + 1) 0 []).2.length Ce) (pT l L (L + 1) 0 []).2.length (entsV (pT l L (L + 1) 0 []).2)))
set_option maxRecDepth 100000 in
theorem parseTree_any (A : Option Addr) (L C : Nat) (l : List Int) (w : World) (h : RdB w A L C l) :
    Calls Try.prog 14 #[.slice A L C] w (PtRet l L w) := by
  have HT0 : Hid (Tr (w.alloc (.cells #[.slice A L C, .int .i64 0, .int .i64 0, .slice none 0 0] 96)) w.heap.size A L C l 0 0 (w.heap.size + 1) none 0 0 []) := Lib.hid (by
    have hb := (Below.refl w.heap.size w).alloc (Nat.le_refl _) (.cells #[.slice A L C, .int .i64 0, .int .i64 0, .slice none 0 0] 96)
    have hr := row_new w #[.slice A L C, .int .i64 0, .int .i64 0, .slice none 0 0] 96
    refine ⟨⟨hr.congr (fun j hj => ?_), by decide, h.below hb, fun x hx h0 => ?_, Nat.zero_le _⟩, ⟨by simp [entsV], .inl ⟨rfl, rfl⟩⟩, Nat.lt_succ_self _, al_lt w _, by simp, fun x hx h0 => ?_, rfl⟩
    · match j, hj with
      | 0, _ => rfl
      | 1, _ => rfl
      | 2, _ => rfl
      | 3, _ => rfl
    · have := (h.cell x hx).1 h0; omega
    · have := (h.cell x hx).1 h0; omega)
  have HB0 : Hid (Below w.heap.size w (w.alloc (.cells #[.slice A L C, .int .i64 0, .int .i64 0, .slice none 0 0] 96))) := Lib.hid ((Below.refl w.heap.size w).alloc (Nat.le_refl _) _)
  clear h
  go_enter Try.func14, Try.ntmps14
  go_wp2_with fail
  go_loopw [9] (fun s wr => ∃ (n at' : Nat) (Ae : Option Addr) (ne Ce : Nat) (es : List Fr.Ent), L - at' < n ∧ ne ≤ 512 ∧ Hid (pT l L n at' es = pT l L (L + 1) 0 []) ∧ Hid (Tr wr w.heap.size A L C l at' 0 (w.heap.size + 1) Ae ne Ce es) ∧ Hid (Below w.heap.size w wr)) (fun _ wr => L - atOf wr w.heap.size)
  case atStart => exact ⟨L + 1, 0, none, 0, 0, [], by omega, by decide, Lib.hid rfl, HT0, HB0⟩
  case round =>
    clear HT0 HB0
    obtain ⟨n, at', Ae, ne, Ce, es, hn, hne, HP, HT, HB⟩ := hrel
    have hat := HT.out.atOf
    have HAt := Lib.hid hat
    clear hat
    obtain ⟨n, rfl⟩ : ∃ m, n = m + 1 := ⟨n - 1, by omega⟩
    have hle := HT.out.rdr.le
    by_cases he : at' = L
    · have HEn := Lib.hid (ended_any w.heap.size 4 96 A L C l at' 0 _ wr HT.out.rdr true (by simp [he]))
      have hp : pT l L (L + 1) 0 [] = (0, es) := by
        rw [← HP.out, pT, if_pos he]
      have HPp := Lib.hid hp
      clear hp he HP
      go_wp2_with fail
      refine HEn.out.mono ?_
      rintro e w1 ⟨rfl, hb⟩
      have HT1 := Lib.hid (HT.out.below hb)
      have HB1 := Lib.hid (HB.out.trans (hb.mono HB.out.size))
      have hc : w1.cell? ⟨w.heap.size, 3, none⟩ = some (.slice Ae ne Ce) := HT1.out.rdr.row.cell (i := 3) (by omega)
      clear hb HT HB HEn
      go_wp2_with fail
      go_ret2
      refine ⟨HB1.out, .inr ?_⟩
      rw [HPp.out]
      refine ⟨rfl, HT1.out.ids, Ae, Ce, ?_, ?_⟩
      · rw [HT1.out.hne]; rfl
      · rw [HT1.out.hne]; exact own_base HT1.out.own (Nat.le_succ _)
    · have HEn := Lib.hid (ended_any w.heap.size 4 96 A L C l at' 0 _ wr HT.out.rdr false (by simp; omega))
      go_wp2_with fail
      refine HEn.out.mono ?_
      rintro e w1 ⟨rfl, hb⟩
      have HT1 := Lib.hid (HT.out.below hb)
      have HB1 := Lib.hid (HB.out.trans (hb.mono HB.out.size))
      clear hb HT HB HEn
      have HEy := Lib.hid (entry_any w.heap.size A L C l at' (w.heap.size + 1) Ae ne Ce es w1 HT1.out hne)
      go_wp2_with fail
      refine HEy.out.mono ?_
      rintro e w2 ⟨rfl, ⟨Ae2, Ce2, ht⟩, hb⟩
      have HT2 := Lib.hid ht
      have HB2 := Lib.hid (HB1.out.trans hb)
      have hln := HT1.out.hne
      clear ht hb HEy HB1
      obtain ⟨f, hf⟩ : ∃ f, f = rdF l at' L ne (lastN es) := ⟨_, rfl⟩
      rw [← hf] at HT2
      have HOk := Lib.hid (ok_any w.heap.size 4 96 A L C l _ f _ w2 HT2.out.rdr)
      have hp := HP.out
      rw [pT, if_neg he, hln, ← hf] at hp
      by_cases h0 : f = 0
      · rw [if_pos h0] at hp
        have hs := rd_step (hf.symm.trans h0)
        have hd : (f == 0) = true := by simp [h0]
        rw [h0] at HT2
        have HP2 := Lib.hid hp
        have HS := Lib.hid hs
        have hle2 := HT2.out.rdr.le
        clear hp hs hf HP hln
        go_wp2_with fail
        refine HOk.out.mono ?_
        rintro e w3 ⟨rfl, rfl⟩
        clear HOk
        go_wp2_with fail
        go_roundw
        case rel => exact ⟨n, _, Ae2, ne + 1, Ce2, _, by have := HS.out.1; omega, by have := HS.out.2; omega, HP2, HT2, HB2⟩
        case measure =>
          have h1 := HAt.out
          have h2 := HT2.out.atOf
          have h3 := HS.out.1
          omega
      · rw [if_neg h0] at hp
        have hd : (f == 0) = false := by simp [h0]
        have HP2 := Lib.hid hp
        have H0 := Lib.hid h0
        have hc := HT2.out.rdr.c2
        clear hp hf HP hln h0
        go_wp2_with fail
        refine HOk.out.mono ?_
        rintro e w3 ⟨rfl, rfl⟩
        clear HOk
        go_wp2_with fail
        go_quiet (fail)
        go_wp2_with fail
        go_ret2
        refine ⟨below_drewN HB2.out _, .inl ?_⟩
        rw [← HP2.out]
        exact ⟨H0.out, rfl⟩
end Go.Proofs.Ytmcmapgllaopmaa.Cd
end

section
namespace Go.Proofs.Ytmcmapgllaopmaa.Cd
open Go.RowKit
set_option linter.unusedVariables false
/-- the length told -/
def txM (f : Int) (l : List Int) (at' L n : Nat) : Nat := (nv (tkL f l at' L n)).toNat
/-- what failed when the length is known -/
def tx2 (f : Int) (l : List Int) (at' L n most : Nat) : Int := if most < txM f l at' L n then fl (tkF f at' L n) 5 else tkF f at' L n
def txF (f : Int) (l : List Int) (at' L n most : Nat) : Int := tkF (tx2 f l at' L n most) (tkA f at' L n) L (txM f l at' L n)
def txA (f : Int) (l : List Int) (at' L n most : Nat) : Nat := tkA (tx2 f l at' L n most) (tkA f at' L n) L (txM f l at' L n)
def txS (f : Int) (l : List Int) (at' L n most : Nat) : ByteArray := sb (tkL (tx2 f l at' L n most) l (tkA f at' L n) L (txM f l at' L n))
/-- the text told, and the reader behind -/
def TxtRet (R N : Nat) (t : TypeId) (A : Option Addr) (L C : Nat) (l : List Int) (at' : Nat) (f : Int) (E : Nat → Value) (n most : Nat) (w : World) (e : Ending) (w' : World) : Prop :=
  e = .returned (.string (txS f l at' L n most)) ∧ Rdr w' R N t A L C l (txA f l at' L n most) (txF f l at' L n most) E ∧ w.grownBy w' (some R)
theorem nv_tkL (f : Int) (l : List Int) (at' L n : Nat) (hn : n < 4) (hl : l.length = L) (hb : ∀ i, i < L → 0 ≤ l.getD i 0 ∧ l.getD i 0 ≤ 255) : 0 ≤ nv (tkL f l at' L n) ∧ nv (tkL f l at' L n) < 16777216 := by
  unfold tkL
  split
  · refine nv_small _ n hn (by rw [List.length_take]; omega) (fun i hi => ?_)
    rw [List.length_take, List.length_drop] at hi
    rw [take_getD _ _ _ (by omega)]
    have := hb (at' + i) (by omega)
    simpa [List.getD] using this
  · exact ⟨by decide, by decide⟩
set_option maxRecDepth 100000 in
theorem text_r (R N : Nat) (t : TypeId) (A : Option Addr) (L C : Nat) (l : List Int) (at' : Nat) (f : Int) (E : Nat → Value) (n most : Nat) (w : World) (h : Rdr w R N t A L C l at' f E) (hn : n < 4) :
    Calls Try.prog 89 #[.pointer (some ⟨R, 0, none⟩), .int .i64 n, .int .i64 most] w (TxtRet R N t A L C l at' f E n most w) := by
  have HNu := Lib.hid (number_r R N t A L C l at' f E n w h (by omega))
  obtain ⟨b0, b1⟩ := nv_tkL f l at' L n hn h.rd.len h.rd.byte
  have hm : nv (tkL f l at' L n) = ((txM f l at' L n : Nat) : Int) := by unfold txM; omega
  have hmb : txM f l at' L n < 16777216 := by omega
  rw [hm] at HNu
  clear hm b0 b1 h
  obtain ⟨m, hM⟩ : ∃ m, m = txM f l at' L n := ⟨_, rfl⟩
  rw [← hM] at HNu hmb
  have HM := Lib.hid hM
  clear hM
  go_enter Try.func89, Try.ntmps89
  go_wp2_with fail
  refine HNu.out.mono ?_
  rintro e w1 ⟨rfl, hR, hg⟩
  by_cases hl : most < m
  · have hd : most < m := hl
    have HFm := Lib.hid (fail_any R N t A L C l _ _ 5 _ w1 hR)
    have HG := Lib.hid hg
    have H2 : Hid (tx2 f l at' L n most = fl (tkF f at' L n) 5) := Lib.hid (by unfold tx2; rw [← HM.out, if_pos hl])
    clear hR hg HNu hl
    go_wp2_with fail
    refine HFm.out.mono ?_
    rintro e w2 ⟨rfl, hR2, hg2⟩
    have HT := Lib.hid (take_any R N t A L C l _ _ _ m w2 hR2 (by omega))
    have HG2 := Lib.hid (grown_trans HG.out hg2)
    clear hR2 hg2 HG HFm
    go_wp2_with fail
    refine HT.out.mono ?_
    rintro e w3 ⟨A', C', rfl, hrd, -, hR3, hg3⟩
    have cv := conv_rd hrd
    have HR3 := Lib.hid hR3
    have HG3 := Lib.hid (grown_trans HG2.out hg3)
    clear hrd hR3 hg3 HT HG2
    go_wp2_with fail
    go_ret
    unfold TxtRet txS txA txF
    rw [H2.out, ← HM.out]
    exact ⟨rfl, HR3.out, HG3.out⟩
  · have hd : ¬ most < m := hl
    have HG := Lib.hid hg
    have H2 : Hid (tx2 f l at' L n most = tkF f at' L n) := Lib.hid (by unfold tx2; rw [← HM.out, if_neg hl])
    have HT := Lib.hid (take_any R N t A L C l _ _ _ m w1 hR (by omega))
    clear hR hg HNu hl
    go_wp2_with fail
    refine HT.out.mono ?_
    rintro e w3 ⟨A', C', rfl, hrd, -, hR3, hg3⟩
    have cv := conv_rd hrd
    have HR3 := Lib.hid hR3
    have HG3 := Lib.hid (grown_trans HG.out hg3)
    clear hrd hR3 hg3 HT HG
    go_wp2_with fail
    go_ret
    unfold TxtRet txS txA txF
    rw [H2.out, ← HM.out]
    exact ⟨rfl, HR3.out, HG3.out⟩
/-- what failed when nothing may be left -/
def enF (f : Int) (at' L : Nat) : Int := if at' = L then f else fl f 15
set_option maxRecDepth 100000 in
theorem end_any (R N : Nat) (t : TypeId) (A : Option Addr) (L C : Nat) (l : List Int) (at' : Nat) (f : Int) (E : Nat → Value) (w : World) (h : Rdr w R N t A L C l at' f E) :
    Calls Try.prog 90 #[.pointer (some ⟨R, 0, none⟩)] w fun e w' => e = .returned (.tuple #[]) ∧ Rdr w' R N t A L C l at' (enF f at' L) E ∧ w.grownBy w' (some R) := by
  have HR := Lib.hid h
  by_cases he : at' = L
  · have HEn := Lib.hid (ended_any R N t A L C l at' f E w h true (by simp [he]))
    have H2 : Hid (enF f at' L = f) := Lib.hid (if_pos he)
    clear h he
    go_enter Try.func90, Try.ntmps90
    go_wp2_with fail
    refine HEn.out.mono ?_
    rintro e w1 ⟨rfl, hb⟩
    have HR1 := Lib.hid (HR.out.below hb)
    have HG1 : Hid (w.grownBy w1 (some R)) := Lib.hid ⟨hb.os, hb.tape, hb.output, hb.size, fun i hi _ => hb.block i hi⟩
    clear hb HR HEn
    go_wp2_with fail
    go_end0
    rw [H2.out]
    exact ⟨rfl, HR1.out, HG1.out⟩
  · have HEn := Lib.hid (ended_any R N t A L C l at' f E w h false (by simp; omega))
    have H2 : Hid (enF f at' L = fl f 15) := Lib.hid (if_neg he)
    clear h he
    go_enter Try.func90, Try.ntmps90
    go_wp2_with fail
    refine HEn.out.mono ?_
    rintro e w1 ⟨rfl, hb⟩
    have HFm := Lib.hid (fail_any R N t A L C l at' f 15 E w1 (HR.out.below hb))
    have HG1 : Hid (w.grownBy w1 (some R)) := Lib.hid ⟨hb.os, hb.tape, hb.output, hb.size, fun i hi _ => hb.block i hi⟩
    clear hb HR HEn
    go_wp2_with fail
    refine HFm.out.mono ?_
    rintro e w2 ⟨rfl, hR, hg⟩
    have HR2 := Lib.hid hR
    have HG2 := Lib.hid (grown_trans HG1.out hg)
    clear hR hg HFm HG1
    go_wp2_with fail
    go_end0
    rw [H2.out]
    exact ⟨rfl, HR2.out, HG2.out⟩
end Go.Proofs.Ytmcmapgllaopmaa.Cd
end
