/- Texts of one's own, merged: CdTxt, CdIdx, CdPar, CdPars, CdParents. -/
import Derived.Test.YtmcmapgllaopmaaMc

section
/- reader.text and reader.end. -/
namespace Go.Proofs.Ytmcmapgllaopmaa.Cd
open Go.RowKit
set_option linter.unusedVariables false

/-- the length told -/
def txM (f : Int) (l : List Int) (at' L n : Nat) : Nat := (nv (tkL f l at' L n)).toNat
/-- what failed when the length is known -/
def tx2 (f : Int) (l : List Int) (at' L n most : Nat) : Int := if most < txM f l at' L n then fl (tkF f at' L n) 5 else tkF f at' L n
def txF (f : Int) (l : List Int) (at' L n most : Nat) : Int := tkF (tx2 f l at' L n most) (tkA f at' L n) L (txM f l at' L n)
def txA (f : Int) (l : List Int) (at' L n most : Nat) : Nat := tkA (tx2 f l at' L n most) (tkA f at' L n) L (txM f l at' L n)
def txS (f : Int) (l : List Int) (at' L n most : Nat) : ByteArray := sb (tkL (tx2 f l at' L n most) l (tkA f at' L n) L (txM f l at' L n))

/-- the text told, and the reader behind -/
def TxtRet (R N : Nat) (t : TypeId) (A : Option Addr) (L C : Nat) (l : List Int) (at' : Nat) (f : Int) (E : Nat → Value) (n most : Nat) (w : World) (e : Ending) (w' : World) : Prop :=
  e = .returned (.string (txS f l at' L n most)) ∧ Rdr w' R N t A L C l (txA f l at' L n most) (txF f l at' L n most) E ∧ w.grownBy w' (some R)

theorem nv_tkL (f : Int) (l : List Int) (at' L n : Nat) (hn : n < 4) (hl : l.length = L) (hb : ∀ i, i < L → 0 ≤ l.getD i 0 ∧ l.getD i 0 ≤ 255) : 0 ≤ nv (tkL f l at' L n) ∧ nv (tkL f l at' L n) < 16777216 := by
  unfold tkL
  split
  · refine nv_small _ n hn (by rw [List.length_take]; omega) (fun i hi => ?_)
    rw [List.length_take, List.length_drop] at hi
    rw [take_getD _ _ _ (by omega)]
    have := hb (at' + i) (by omega)
    simpa [List.getD] using this
  · exact ⟨by decide, by decide⟩

set_option maxRecDepth 100000 in
theorem text_r (R N : Nat) (t : TypeId) (A : Option Addr) (L C : Nat) (l : List Int) (at' : Nat) (f : Int) (E : Nat → Value) (n most : Nat) (w : World) (h : Rdr w R N t A L C l at' f E) (hn : n < 4) :
    Calls Try.prog 89 #[.pointer (some ⟨R, 0, none⟩), .int .i64 n, .int .i64 most] w (TxtRet R N t A L C l at' f E n most w) := by
  have HNu := Lib.hid (number_r R N t A L C l at' f E n w h (by omega))
  obtain ⟨b0, b1⟩ := nv_tkL f l at' L n hn h.rd.len h.rd.byte
  have hm : nv (tkL f l at' L n) = ((txM f l at' L n : Nat) : Int) := by unfold txM; omega
  have hmb : txM f l at' L n < 16777216 := by omega
  rw [hm] at HNu
  clear hm b0 b1 h
  obtain ⟨m, hM⟩ : ∃ m, m = txM f l at' L n := ⟨_, rfl⟩
  rw [← hM] at HNu hmb
  have HM := Lib.hid hM
  clear hM
  go_enter Try.func89, Try.ntmps89
  go_wp2_with fail
  refine HNu.out.mono ?_
  rintro e w1 ⟨rfl, hR, hg⟩
  by_cases hl : most < m
  · have hd : most < m := hl
    have HFm := Lib.hid (fail_any R N t A L C l _ _ 5 _ w1 hR)
    have HG := Lib.hid hg
    have H2 : Hid (tx2 f l at' L n most = fl (tkF f at' L n) 5) := Lib.hid (by unfold tx2; rw [← HM.out, if_pos hl])
    clear hR hg HNu hl
    go_wp2_with fail
    refine HFm.out.mono ?_
    rintro e w2 ⟨rfl, hR2, hg2⟩
    have HT := Lib.hid (take_any R N t A L C l _ _ _ m w2 hR2 (by omega))
    have HG2 := Lib.hid (grown_trans HG.out hg2)
    clear hR2 hg2 HG HFm
    go_wp2_with fail
    refine HT.out.mono ?_
    rintro e w3 ⟨A', C', rfl, hrd, -, hR3, hg3⟩
    have cv := conv_rd hrd
    have HR3 := Lib.hid hR3
    have HG3 := Lib.hid (grown_trans HG2.out hg3)
    clear hrd hR3 hg3 HT HG2
    go_wp2_with fail
    go_ret
    unfold TxtRet txS txA txF
    rw [H2.out, ← HM.out]
    exact ⟨rfl, HR3.out, HG3.out⟩
  · have hd : ¬ most < m := hl
    have HG := Lib.hid hg
    have H2 : Hid (tx2 f l at' L n most = tkF f at' L n) := Lib.hid (by unfold tx2; rw [← HM.out, if_neg hl])
    have HT := Lib.hid (take_any R N t A L C l _ _ _ m w1 hR (by omega))
    clear hR hg HNu hl
    go_wp2_with fail
    refine HT.out.mono ?_
    rintro e w3 ⟨A', C', rfl, hrd, -, hR3, hg3⟩
    have cv := conv_rd hrd
    have HR3 := Lib.hid hR3
    have HG3 := Lib.hid (grown_trans HG.out hg3)
    clear hrd hR3 hg3 HT HG
    go_wp2_with fail
    go_ret
    unfold TxtRet txS txA txF
    rw [H2.out, ← HM.out]
    exact ⟨rfl, HR3.out, HG3.out⟩

/-- what failed when nothing may be left -/
def enF (f : Int) (at' L : Nat) : Int := if at' = L then f else fl f 15
set_option maxRecDepth 100000 in
theorem end_any (R N : Nat) (t : TypeId) (A : Option Addr) (L C : Nat) (l : List Int) (at' : Nat) (f : Int) (E : Nat → Value) (w : World) (h : Rdr w R N t A L C l at' f E) :
    Calls Try.prog 90 #[.pointer (some ⟨R, 0, none⟩)] w fun e w' => e = .returned (.tuple #[]) ∧ Rdr w' R N t A L C l at' (enF f at' L) E ∧ w.grownBy w' (some R) := by
  have HR := Lib.hid h
  by_cases he : at' = L
  · have HEn := Lib.hid (ended_any R N t A L C l at' f E w h true (by simp [he]))
    have H2 : Hid (enF f at' L = f) := Lib.hid (if_pos he)
    clear h he
    go_enter Try.func90, Try.ntmps90
    go_wp2_with fail
    refine HEn.out.mono ?_
    rintro e w1 ⟨rfl, hb⟩
    have HR1 := Lib.hid (HR.out.below hb)
    have HG1 : Hid (w.grownBy w1 (some R)) := Lib.hid ⟨hb.os, hb.tape, hb.output, hb.size, fun i hi _ => hb.block i hi⟩
    clear hb HR HEn
    go_wp2_with fail
    go_end0
    rw [H2.out]
    exact ⟨rfl, HR1.out, HG1.out⟩
  · have HEn := Lib.hid (ended_any R N t A L C l at' f E w h false (by simp; omega))
    have H2 : Hid (enF f at' L = fl f 15) := Lib.hid (if_neg he)
    clear h he
    go_enter Try.func90, Try.ntmps90
    go_wp2_with fail
    refine HEn.out.mono ?_
    rintro e w1 ⟨rfl, hb⟩
    have HFm := Lib.hid (fail_any R N t A L C l at' f 15 E w1 (HR.out.below hb))
    have HG1 : Hid (w.grownBy w1 (some R)) := Lib.hid ⟨hb.os, hb.tape, hb.output, hb.size, fun i hi _ => hb.block i hi⟩
    clear hb HR HEn
    go_wp2_with fail
    refine HFm.out.mono ?_
    rintro e w2 ⟨rfl, hR, hg⟩
    have HR2 := Lib.hid hR
    have HG2 := Lib.hid (grown_trans HG1.out hg)
    clear hR hg HFm HG1
    go_wp2_with fail
    go_end0
    rw [H2.out]
    exact ⟨rfl, HR2.out, HG2.out⟩
end Go.Proofs.Ytmcmapgllaopmaa.Cd
end

section
/- slices.Contains of Ids; a parent is checked. -/
namespace Go.Proofs.Ytmcmapgllaopmaa.Cd
open Go.RowKit
set_option linter.unusedVariables false

/-- a row of Ids that is read -/
structure RdIds (w : World) (A : Option Addr) (n C : Nat) (l : List (List Int)) : Prop where
  cap : n ≤ C
  max : C ≤ 9223372036854775807
  big : n ≤ 1000000
  len : l.length = n
  ids : ∀ x ∈ l, x.length = 32
  cell : 0 < n → ∃ g o, A = some ⟨g, o, Option.none⟩ ∧ g < w.heap.size ∧ ∀ i, i < n → w.rangeAt g (o + i * 32) (bv (l.getD i []))
theorem RdIds.below {w w' : World} {A : Option Addr} {n C : Nat} {l : List (List Int)} (h : RdIds w A n C l) (hb : Below w.heap.size w w') : RdIds w' A n C l :=
  ⟨h.cap, h.max, h.big, h.len, h.ids, fun h0 => by
    obtain ⟨g, o, h1, h2, h3⟩ := h.cell h0
    exact ⟨g, o, h1, Nat.lt_of_lt_of_le h2 hb.size, fun i hi => range_below hb (h3 i hi) h2⟩⟩
theorem getD_mem {l : List (List Int)} {k : Nat} (h : k < l.length) : l.getD k [] ∈ l := by
  rw [List.getD_eq_getElem?_getD, List.getElem?_eq_getElem h]; exact List.getElem_mem h

set_option maxRecDepth 100000 in
theorem index_ids (A : Option Addr) (n C : Nat) (l : List (List Int)) (p : List Int) (hp : p.length = 32) (w : World) (h : RdIds w A n C l) :
    Calls Try.prog 107 #[.slice A n C, .agg (bv p).toArray] w fun e w' => ∃ j : Int, e = .returned (.int .i64 j) ∧ decide (0 ≤ j) = decide (p ∈ l) ∧ Below w.heap.size w w' := by
  have HL := Lib.hid (show (Try.prog.info? 37).map (·.size) = some (bv p).length by rw [bv, List.length_map, hp]; kernel_rfl)
  have HR : Hid ((w.alloc (.cells (bv p).toArray 37)).rangeAt w.heap.size 0 (bv p)) := Lib.hid (fun j v hj => by rw [Nat.zero_add, World.cell?_alloc_new]; simpa using hj)
  have hbA := (Below.refl w.heap.size w).alloc (Nat.le_refl _) (.cells (bv p).toArray 37)
  have HI := Lib.hid (h.below hbA)
  have HB0 := Lib.hid hbA
  have hsz := al_lt w (.cells (bv p).toArray 37)
  have hbig := h.big
  have hcap := h.cap
  have hmax := h.max
  have HP := Lib.hid hp
  clear hbA h hp
  generalize hDP : bv p = DP at *
  have HD := Lib.hid hDP
  clear hDP
  go_enter Try.func107, Try.ntmps107
  go_wp2_with fail
  generalize w.alloc (.cells DP.toArray 37) = w0 at *
  generalize hX : w.heap.size = X at *
  have HX := Lib.hid hX
  clear hX
  go_loopw [8] (fun s wr => ∃ k : Nat, s = .int .i64 k ∧ k ≤ n ∧ Hid (∀ i, i < k → l.getD i [] ≠ p) ∧ Hid (Below w0.heap.size w0 wr)) (fun s _ => n - (intOf s).toNat)
  case atStart => exact ⟨0, rfl, by omega, Lib.hid (fun i hi => absurd hi (by omega)), Lib.hid (Below.refl _ _)⟩
  case round =>
    obtain ⟨k, rfl, hk, HN, HB⟩ := hrel
    by_cases hlt : k < n
    · obtain ⟨g, o, rfl, hg, hc⟩ := HI.out.cell (by omega)
      have hql := HI.out.ids _ (getD_mem (k := k) (by have := HI.out.len; omega))
      have HS2 := Lib.hid (range_below HB.out (hc k hlt) hg)
      have HS1 := Lib.hid (range_below HB.out HR.out hsz)
      have HL2 := Lib.hid (show (Try.prog.info? 37).map (·.size) = some (bv (l.getD k [])).length by rw [bv, List.length_map, hql]; kernel_rfl)
      have heq := fun W => ids_eq p (l.getD k []) HP.out hql W
      rw [HD.out] at heq
      have hk0 : (0 : Int) ≤ (k : Int) := by omega
      have hk1 : (k : Int) < (n : Int) := by omega
      clear hc hql
      by_cases hpq : p = l.getD k []
      · rw [decide_eq_true hpq] at heq
        have HM : Hid (decide (p ∈ l) = true) := Lib.hid (decide_eq_true (by rw [hpq]; exact getD_mem (by have := HI.out.len; omega)))
        clear hpq
        generalize bv (l.getD k []) = DQ at *
        go_wp2_with fail
        refine wp_region_noPanic ?_
        refine wp_region_held_drew (S := (fun wS => wS.rangeAt X 0 DP ∧ wS.rangeAt g (o + k * 32) DQ)) (by kernel_rfl) ?_ (fun hHeld => ?_)
        · ((try dsimp only); exact ⟨HS1.out, HS2.out⟩)
        refine' wpAnyH_take (i := 0) (oi := { dst := some 11, op := Op.load 37 (Operand.tmp 3), type := 37, pos := "slices.go:98", after := #[], guard := none }) (v := _) rfl (by kernel_rfl) (by kernel_rfl) (by kernel_rfl) (fun _ _ _ h => h) (yieldsIf_load_mid (by rfl) _ _ rfl _ _ rfl DP _ (fun w hSw => hSw.1) Try.underlying37 rfl HL.out) (by assumption) ?_
        (try simp only [Act.put, List.setIfInBounds_toArray, List.set_cons_zero, List.set_cons_succ])
        refine wpAnyH_take (i := 1) (oi := { dst := some 12, op := Op.move (Operand.tmp 0), type := 38, pos := "slices.go:98", after := #[], guard := none }) (v := ?_) rfl (by kernel_rfl) (by kernel_rfl) (by kernel_rfl) (fun _ _ _ h => h) (Or.inl ⟨by rfl, ?_⟩) (by assumption) ?_
        rotate_left 1
        · ((intro w hSw; (try dsimp only at hSw); go_simp) <;> with_reducible rfl)
        (try simp only [Act.put, List.setIfInBounds_toArray, List.set_cons_zero, List.set_cons_succ])
        refine wpAnyH_take (i := 2) (oi := { dst := some 13, op := Op.move (Operand.tmp 5), type := 3, pos := "slices.go:98", after := #[], guard := none }) (v := ?_) rfl (by kernel_rfl) (by kernel_rfl) (by kernel_rfl) (fun _ _ _ h => h) (Or.inl ⟨by rfl, ?_⟩) (by assumption) ?_
        rotate_left 1
        · ((intro w hSw; (try dsimp only at hSw); go_simp) <;> with_reducible rfl)
        (try simp only [Act.put, List.setIfInBounds_toArray, List.set_cons_zero, List.set_cons_succ])
        refine wpAnyH_take (i := 3) (oi := { dst := some 14, op := Op.indexAddr 38 (Operand.tmp 12) (Operand.tmp 13), type := 0, pos := "slices.go:98", after := #[{ on := 1, ground := Ground.data }, { on := 2, ground := Ground.data }], guard := none }) (v := ?_) rfl (by kernel_rfl) (by kernel_rfl) (by kernel_rfl) (fun _ _ _ h => h) (Or.inl ⟨by rfl, ?_⟩) (by assumption) ?_
        rotate_left 1
        · ((intro w hSw; (try dsimp only at hSw); go_simp) <;> with_reducible rfl)
        (try simp only [Act.put, List.setIfInBounds_toArray, List.set_cons_zero, List.set_cons_succ])
        refine' wpAnyH_take (i := 4) (oi := { dst := some 15, op := Op.load 37 (Operand.tmp 14), type := 37, pos := "slices.go:98", after := #[{ on := 3, ground := Ground.data }], guard := none }) (v := _) rfl (by kernel_rfl) (by kernel_rfl) (by kernel_rfl) (fun _ _ _ h => h) (yieldsIf_load_mid (by rfl) _ _ rfl _ _ rfl DQ _ (fun w hSw => hSw.2) Try.underlying37 rfl HL2.out) (by assumption) ?_
        (try simp only [Act.put, List.setIfInBounds_toArray, List.set_cons_zero, List.set_cons_succ])
        refine wpAnyH_take (i := 5) (oi := { dst := some 16, op := Op.binOp BinOp.eql 37 (Operand.tmp 11) (Operand.tmp 15) 37, type := 4, pos := "slices.go:98", after := #[{ on := 0, ground := Ground.data }, { on := 4, ground := Ground.data }], guard := none }) (v := ?_) rfl (by kernel_rfl) (by kernel_rfl) (by kernel_rfl) (fun _ _ _ h => h) (Or.inl ⟨by rfl, ?_⟩) (by assumption) ?_
        rotate_left 1
        · ((intro w hSw; (try dsimp only at hSw); go_simp) <;> with_reducible rfl)
        (try simp only [Act.put, List.setIfInBounds_toArray, List.set_cons_zero, List.set_cons_succ])
        refine wpAnyH_done (by kernel_rfl) ?_ _
        refine NoPanic.normal ?_
        skip
        go_wp2_with fail
        go_ret
        refine ⟨k, rfl, ?_, by rw [HX.out]; exact HB0.out.trans ((HB.out.mono (by omega)).drew)⟩
        rw [HM.out]
        exact decide_eq_true hk0
      · rw [decide_eq_false hpq] at heq
        have HM : Hid (l.getD k [] ≠ p) := Lib.hid (fun e => hpq e.symm)
        clear hpq
        generalize hDQ : bv (l.getD k []) = DQ at *
        clear hDQ
        go_wp2_with fail
        refine wp_region_noPanic ?_
        refine wp_region_held_drew (S := (fun wS => wS.rangeAt X 0 DP ∧ wS.rangeAt g (o + k * 32) DQ)) (by kernel_rfl) ?_ (fun hHeld => ?_)
        · ((try dsimp only); exact ⟨HS1.out, HS2.out⟩)
        refine' wpAnyH_take (i := 0) (oi := { dst := some 11, op := Op.load 37 (Operand.tmp 3), type := 37, pos := "slices.go:98", after := #[], guard := none }) (v := _) rfl (by kernel_rfl) (by kernel_rfl) (by kernel_rfl) (fun _ _ _ h => h) (yieldsIf_load_mid (by rfl) _ _ rfl _ _ rfl DP _ (fun w hSw => hSw.1) Try.underlying37 rfl HL.out) (by assumption) ?_
        (try simp only [Act.put, List.setIfInBounds_toArray, List.set_cons_zero, List.set_cons_succ])
        refine wpAnyH_take (i := 1) (oi := { dst := some 12, op := Op.move (Operand.tmp 0), type := 38, pos := "slices.go:98", after := #[], guard := none }) (v := ?_) rfl (by kernel_rfl) (by kernel_rfl) (by kernel_rfl) (fun _ _ _ h => h) (Or.inl ⟨by rfl, ?_⟩) (by assumption) ?_
        rotate_left 1
        · ((intro w hSw; (try dsimp only at hSw); go_simp) <;> with_reducible rfl)
        (try simp only [Act.put, List.setIfInBounds_toArray, List.set_cons_zero, List.set_cons_succ])
        refine wpAnyH_take (i := 2) (oi := { dst := some 13, op := Op.move (Operand.tmp 5), type := 3, pos := "slices.go:98", after := #[], guard := none }) (v := ?_) rfl (by kernel_rfl) (by kernel_rfl) (by kernel_rfl) (fun _ _ _ h => h) (Or.inl ⟨by rfl, ?_⟩) (by assumption) ?_
        rotate_left 1
        · ((intro w hSw; (try dsimp only at hSw); go_simp) <;> with_reducible rfl)
        (try simp only [Act.put, List.setIfInBounds_toArray, List.set_cons_zero, List.set_cons_succ])
        refine wpAnyH_take (i := 3) (oi := { dst := some 14, op := Op.indexAddr 38 (Operand.tmp 12) (Operand.tmp 13), type := 0, pos := "slices.go:98", after := #[{ on := 1, ground := Ground.data }, { on := 2, ground := Ground.data }], guard := none }) (v := ?_) rfl (by kernel_rfl) (by kernel_rfl) (by kernel_rfl) (fun _ _ _ h => h) (Or.inl ⟨by rfl, ?_⟩) (by assumption) ?_
        rotate_left 1
        · ((intro w hSw; (try dsimp only at hSw); go_simp) <;> with_reducible rfl)
        (try simp only [Act.put, List.setIfInBounds_toArray, List.set_cons_zero, List.set_cons_succ])
        refine' wpAnyH_take (i := 4) (oi := { dst := some 15, op := Op.load 37 (Operand.tmp 14), type := 37, pos := "slices.go:98", after := #[{ on := 3, ground := Ground.data }], guard := none }) (v := _) rfl (by kernel_rfl) (by kernel_rfl) (by kernel_rfl) (fun _ _ _ h => h) (yieldsIf_load_mid (by rfl) _ _ rfl _ _ rfl DQ _ (fun w hSw => hSw.2) Try.underlying37 rfl HL2.out) (by assumption) ?_
        (try simp only [Act.put, List.setIfInBounds_toArray, List.set_cons_zero, List.set_cons_succ])
        refine wpAnyH_take (i := 5) (oi := { dst := some 16, op := Op.binOp BinOp.eql 37 (Operand.tmp 11) (Operand.tmp 15) 37, type := 4, pos := "slices.go:98", after := #[{ on := 0, ground := Ground.data }, { on := 4, ground := Ground.data }], guard := none }) (v := ?_) rfl (by kernel_rfl) (by kernel_rfl) (by kernel_rfl) (fun _ _ _ h => h) (Or.inl ⟨by rfl, ?_⟩) (by assumption) ?_
        rotate_left 1
        · ((intro w hSw; (try dsimp only at hSw); go_simp) <;> with_reducible rfl)
        (try simp only [Act.put, List.setIfInBounds_toArray, List.set_cons_zero, List.set_cons_succ])
        refine wpAnyH_done (by kernel_rfl) ?_ _
        refine NoPanic.normal ?_
        skip
        go_wp2_with fail
        go_roundw
        case rel => exact ⟨k + 1, by go_num, by omega, Lib.hid (fun i hi => by
          rcases Nat.lt_or_ge i k with h1 | h1
          · exact HN.out i h1
          · rw [show i = k by omega]; exact HM.out), Lib.hid (HB.out.drew)⟩
        case measure => simp [intOf]; omega
    · have hkn : k = n := by omega
      subst hkn
      go_wp2_with fail
      go_ret
      refine ⟨-1, rfl, ?_, by rw [HX.out]; exact HB0.out.trans (HB.out.mono (by omega))⟩
      have hno : decide (p ∈ l) = false := decide_eq_false (fun hm => ?_)
      · rw [hno]; decide
      · obtain ⟨i, hi, e⟩ := List.mem_iff_getElem.1 hm
        refine HN.out i (by have := HI.out.len; omega) ?_
        rw [List.getD_eq_getElem?_getD, List.getElem?_eq_getElem hi]; exact e
end Go.Proofs.Ytmcmapgllaopmaa.Cd
end

section
/- slices.Contains of Ids; checkParent. -/
namespace Go.Proofs.Ytmcmapgllaopmaa.Cd
open Go.RowKit
set_option linter.unusedVariables false

set_option maxRecDepth 100000 in
theorem contains_ids (A : Option Addr) (n C : Nat) (l : List (List Int)) (p : List Int) (hp : p.length = 32) (w : World) (h : RdIds w A n C l) (b : Bool) (hb : decide (p ∈ l) = b) :
    Calls Try.prog 102 #[.slice A n C, .agg (bv p).toArray] w fun e w' => e = .returned (.bool b) ∧ Below w.heap.size w w' := by
  have HL := Lib.hid (show (Try.prog.info? 37).map (·.size) = some (bv p).length by rw [bv, List.length_map, hp]; kernel_rfl)
  have HR : Hid ((w.alloc (.cells (bv p).toArray 37)).rangeAt w.heap.size 0 (bv p)) := Lib.hid (fun j v hj => by rw [Nat.zero_add, World.cell?_alloc_new]; simpa using hj)
  have hbA := (Below.refl w.heap.size w).alloc (Nat.le_refl _) (.cells (bv p).toArray 37)
  have HC := Lib.hid (index_ids A n C l p hp _ (h.below hbA))
  have HB0 := Lib.hid hbA
  have hsz := al_lt w (.cells (bv p).toArray 37)
  have HQ := Lib.hid hb
  clear hbA h hp hb
  generalize hDP : bv p = DP at *
  clear hDP
  go_enter Try.func102, Try.ntmps102
  go_wp2_with (refine wpList_load_mid rfl _ _ rfl w.heap.size 0 rfl DP _ HR.out Try.underlying37 rfl HL.out ?_)
  refine HC.out.mono ?_
  rintro e w1 ⟨j, rfl, hj, hb⟩
  rw [HQ.out] at hj
  have HB1 := Lib.hid (HB0.out.trans (hb.mono (Nat.le_of_lt hsz)))
  clear hb HC HR
  cases b
  · have HJ := Lib.hid hj
    clear hj
    go_wp2_with fail
    go_ret
    exact ⟨congrArg (fun b => Ending.returned (.bool b)) HJ.out, HB1.out⟩
  · have hd : 0 ≤ j := of_decide_eq_true hj
    clear hj
    go_wp2_with fail
    go_ret
    exact ⟨rfl, HB1.out⟩

/-- why a parent may not stand behind those ahead -/
def cp (p : List Int) (l : List (List Int)) : Int := if p = List.replicate 32 0 then 1 else if p ∈ l then 18 else 0

set_option maxRecDepth 100000 in
theorem parent_any (p : List Int) (hp : p.length = 32) (A : Option Addr) (n C : Nat) (l : List (List Int)) (w : World) (h : RdIds w A n C l) :
    Calls Try.prog 87 #[.agg (bv p).toArray, .slice A n C] w fun e w' => e = .returned (.int .i64 (cp p l)) ∧ Below w.heap.size w w' := by
  have HL := Lib.hid (show (Try.prog.info? 37).map (·.size) = some (bv p).length by rw [bv, List.length_map, hp]; kernel_rfl)
  have HR : Hid ((w.alloc (.cells (bv p).toArray 37)).rangeAt w.heap.size 0 (bv p)) := Lib.hid (fun j v hj => by rw [Nat.zero_add, World.cell?_alloc_new]; simpa using hj)
  have hbA := (Below.refl w.heap.size w).alloc (Nat.le_refl _) (.cells (bv p).toArray 37)
  have HC := Lib.hid (contains_ids A n C l p hp _ (h.below hbA) _ rfl)
  have HB0 := Lib.hid hbA
  have hsz := al_lt w (.cells (bv p).toArray 37)
  have hq : ∀ W, (Op.equalIn 10000 37 (.agg (bv p).toArray) (.agg #[.int .u8 0, .int .u8 0, .int .u8 0, .int .u8 0, .int .u8 0, .int .u8 0, .int .u8 0, .int .u8 0, .int .u8 0, .int .u8 0, .int .u8 0, .int .u8 0, .int .u8 0, .int .u8 0, .int .u8 0, .int .u8 0, .int .u8 0, .int .u8 0, .int .u8 0, .int .u8 0, .int .u8 0, .int .u8 0, .int .u8 0, .int .u8 0, .int .u8 0, .int .u8 0, .int .u8 0, .int .u8 0, .int .u8 0, .int .u8 0, .int .u8 0, .int .u8 0])).run Try.prog W = .ok (decide (p = List.replicate 32 0)) W := fun W => ids_none p hp W
  clear hbA h hp
  by_cases hz : p = List.replicate 32 0
  · have e1 : cp p l = 1 := if_pos hz
    rw [e1]
    rw [decide_eq_true hz] at hq
    clear e1 hz HC
    generalize hDP : bv p = DP at *
    clear hDP
    go_enter Try.func87, Try.ntmps87
    go_wp2_with (refine wpList_load_mid rfl _ _ rfl w.heap.size 0 rfl DP _ HR.out Try.underlying37 rfl HL.out ?_)
    go_ret
    exact ⟨rfl, HB0.out⟩
  · rw [decide_eq_false hz] at hq
    by_cases hm : p ∈ l
    · have e1 : cp p l = 18 := by unfold cp; rw [if_neg hz, if_pos hm]
      rw [e1]
      rw [decide_eq_true hm] at HC
      clear e1 hz hm
      generalize hDP : bv p = DP at *
      clear hDP
      go_enter Try.func87, Try.ntmps87
      go_wp2_with (refine wpList_load_mid rfl _ _ rfl w.heap.size 0 rfl DP _ HR.out Try.underlying37 rfl HL.out ?_)
      refine HC.out.mono ?_
      rintro e w1 ⟨rfl, hb⟩
      have HB1 := Lib.hid (HB0.out.trans (hb.mono (Nat.le_of_lt hsz)))
      clear hb HC HR
      go_wp2_with fail
      go_ret
      exact ⟨rfl, HB1.out⟩
    · have e1 : cp p l = 0 := by unfold cp; rw [if_neg hz, if_neg hm]
      rw [e1]
      rw [decide_eq_false hm] at HC
      clear e1 hz hm
      generalize hDP : bv p = DP at *
      clear hDP
      go_enter Try.func87, Try.ntmps87
      go_wp2_with (refine wpList_load_mid rfl _ _ rfl w.heap.size 0 rfl DP _ HR.out Try.underlying37 rfl HL.out ?_)
      refine HC.out.mono ?_
      rintro e w1 ⟨rfl, hb⟩
      have HB1 := Lib.hid (HB0.out.trans (hb.mono (Nat.le_of_lt hsz)))
      clear hb HC HR
      go_wp2_with fail
      go_ret
      exact ⟨rfl, HB1.out⟩
end Go.Proofs.Ytmcmapgllaopmaa.Cd
end

section
/- commitReader.parents. -/
namespace Go.Proofs.Ytmcmapgllaopmaa.Cd
open Go.RowKit
set_option linter.unusedVariables false

def idsV (l : List (List Int)) : List Value := l.flatMap bv
theorem idsV_get : ∀ (l : List (List Int)), (∀ x ∈ l, x.length = 32) → ∀ i j, i < l.length → j < 32 → (idsV l)[i * 32 + j]? = (bv (l.getD i []))[j]?
  | [], _, i, j, hi, _ => absurd hi (by simp)
  | x :: l, h, 0, j, _, hj => by
    have hx : (bv x).length = 32 := by rw [bv_len, h x (List.mem_cons_self ..)]
    rw [idsV, List.flatMap_cons, List.getElem?_append_left (by omega)]
    simp
  | x :: l, h, i + 1, j, hi, hj => by
    have hx : (bv x).length = 32 := by rw [bv_len, h x (List.mem_cons_self ..)]
    rw [idsV, List.flatMap_cons, List.getElem?_append_right (by omega), show (i + 1) * 32 + j - (bv x).length = i * 32 + j by omega]
    exact idsV_get l (fun y hy => h y (List.mem_cons_of_mem _ hy)) i j (by simpa using hi) hj
theorem rdids_of_own {w : World} {B : Nat} {Ae : Option Addr} {n Ce : Nat} {l : List (List Int)} (h : w.ownsRow B 37 32 (.slice Ae n Ce) n (idsV l)) (hid : ∀ x ∈ l, x.length = 32) (hn : n ≤ 1000000) (he : l.length = n) : RdIds w Ae n Ce l := by
  rcases h.2 with ⟨hv, hz⟩ | ⟨g, cap, cur, hv, hb, hg, hnc, hcm, hcs, htake⟩
  · simp only [Value.slice.injEq] at hv
    obtain ⟨rfl, -, rfl⟩ := hv
    subst hz
    exact ⟨Nat.le_refl _, by omega, hn, he, hid, fun h => absurd h (by omega)⟩
  · simp only [Value.slice.injEq, true_and] at hv
    obtain ⟨rfl, rfl⟩ := hv
    have hcm2 := hcm
    unfold maxLen at hcm2
    refine ⟨hnc, by omega, hn, he, hid, fun h0 => ⟨g, 0, rfl, ?_, fun i hi j v hj => ?_⟩⟩
    · rcases Nat.lt_or_ge g w.heap.size with h | h
      · exact h
      · rw [Array.getElem?_eq_none h] at hg; simp at hg
    · have hx : (bv (l.getD i [])).length = 32 := by rw [bv_len, hid _ (getD_mem (by omega))]
      have hj2 : j < 32 := by have := (List.getElem?_eq_some_iff.1 hj).1; omega
      rw [Nat.zero_add, World.ownsRow.cellAt h _ (by omega), idsV_get l hid i j (by omega) hj2]
      exact hj
theorem info37 : (Try.prog.info? 37).map (fun i => (i.zero, i.size, i.bytes)) = some (some (.agg (bv (List.replicate 32 0)).toArray), 32, 32) := by kernel_rfl
theorem wpList_build_id (w : World) {ops : Array Oper} {rest : List Oper} {o : Oper} {a : Act} {Q : Exit → Act → World → Prop} (hgd : o.guard = none) (x : Operand)
    (ho : o.op = .buildSlice 38 1 #[(0, x)]) (cs : List Value) (hx : a.eval x = .agg cs.toArray) (hl : cs.length = 32)
    (h : wpList Try.prog ops Q rest (a.put o.dst (.slice (some ⟨w.heap.size, 0, none⟩) 1 1)) (w.alloc (.cells cs.toArray 37))) : wpList Try.prog ops Q (o :: rest) a w := by
  obtain ⟨i0, hi, hz0, hz1, hz2⟩ := info_parts info37
  refine wpList_buildSlice hgd 38 37 1 #[(0, x)] ho cs.toArray i0 _ Try.underlying38 hi hz0 (by rw [hz1]; decide) (by rw [hz1]; decide) ?_ h
  rw [hz1]
  have := Great.fill_whole (s := 32) (by decide) [Value.agg cs.toArray] ((Array.range (1 * 32)).map ((Value.agg (bv (List.replicate 32 0)).toArray).cells[· % (Value.agg (bv (List.replicate 32 0)).toArray).cells.size]!)) (by simp [Value.cells, hl]) (by simp)
  simpa [hx, Value.cells] using this
/-- one Id more behind a row of one's own -/
theorem wpList_append_id (w : World) {ops : Array Oper} {rest : List Oper} {o : Oper} {a : Act} {Q : Exit → Act → World → Prop} (hgd : o.guard = none) (s x : Operand)
    (ho : o.op = .call { callee := .builtin .append, args := #[s, x], argTypes := #[38, 38] })
    (B : Nat) (v : Value) (n : Nat) (d : List (List Int)) (hs : a.eval s = v) (hown : w.ownsRow B 37 32 v n (idsV d))
    (g : Nat) (y : List Int) (hx : a.eval x = .slice (some ⟨g, 0, none⟩) 1 1) (hy : ∀ j u, (bv y)[j]? = some u → w.cell? ((⟨g, 0, none⟩ : Addr).add j) = some u) (hyl : (bv y).length = 32)
    (hn : n ≤ 1000000) (hbase : B ≤ w.heap.size)
    (h : ∀ A' C' w', w'.ownsRow B 37 32 (.slice A' (n + 1) C') (n + 1) (idsV (d ++ [y])) → w.grownBy w' v.ownBlock → wpList Try.prog ops Q rest (a.put o.dst (.slice A' (n + 1) C')) w') : wpList Try.prog ops Q (o :: rest) a w := by
  refine wpList_plain hgd fun K hK => ?_
  obtain ⟨i0, hi, hz0, hz1, hz2⟩ := info_parts info37
  obtain ⟨v', w', hr, h2, h3, h4⟩ := run_append_own (P := Try.prog) w B 38 o.type 37 i0 (.agg (bv (List.replicate 32 0)).toArray) 32 32 Try.underlying38 hi hz0 hz1 hz2 (by simp [Value.cells, bv]) (by decide) v n (idsV d) hown ⟨g, 0, none⟩ 1 1 (bv y) (by rw [hyl]) hy (bv_one y) (by unfold maxLen; omega) (by omega) hbase
  obtain ⟨A', C', rfl⟩ := own_slice' h2
  unfold Oper.wp execOp
  simp only [ho, resolve, invoke, builtin, Sem.run_bind, Sem.run_pure, Result.andThen_ok, List.map_toArray, List.map_cons, List.map_nil, hs, hx, hr]
  exact hK _ _ (h A' C' w' (by rw [show idsV (d ++ [y]) = idsV d ++ bv y from by simp [idsV]]; exact h2) h3)
theorem new_id (w : World) (y : List Int) (t : TypeId) : ∀ j u, (bv y)[j]? = some u → (w.alloc (.cells (bv y).toArray t)).cell? ((⟨w.heap.size, 0, none⟩ : Addr).add j) = some u := by
  intro j u hj
  rw [show Addr.add ⟨w.heap.size, 0, none⟩ j = (⟨w.heap.size, j, none⟩ : Addr) from by unfold Addr.add; split <;> simp_all, World.cell?_alloc_new]
  simpa using hj

/-- the parents told: how many, where the reader is, what failed -/
def pL (l : List Int) (L : Nat) : Nat → Int → Nat → List (List Int) → Int × Nat × List (List Int)
  | 0, f, a, ids => (f, a, ids)
  | n + 1, f, a, ids => if f = 0 then pL l L n (fl (tkF f a L 32) (cp (idv (tkL f l a L 32)) ids)) (tkA f a L 32) (ids ++ [idv (tkL f l a L 32)]) else (f, a, ids)
def paM (f : Int) (l : List Int) (a L : Nat) : Nat := (nv (tkL f l a L 1)).toNat
def pa2 (f : Int) (l : List Int) (a L : Nat) : Int := if 8 < paM f l a L then fl (tkF f a L 1) 4 else tkF f a L 1
def pa (f : Int) (l : List Int) (a L : Nat) : Int × Nat × List (List Int) := pL l L (paM f l a L) (pa2 f l a L) (tkA f a L 1) []
end Go.Proofs.Ytmcmapgllaopmaa.Cd
end

section
/- commitReader.parents: the walk. -/
namespace Go.Proofs.Ytmcmapgllaopmaa.Cd
open Go.RowKit
set_option linter.unusedVariables false

/-- the parents told, and the reader behind -/
def ParRet (R : Nat) (A : Option Addr) (L C : Nat) (l : List Int) (at' : Nat) (f : Int) (E : Nat → Value) (w : World) (e : Ending) (w' : World) : Prop :=
  (∀ x ∈ (pa f l at' L).2.2, x.length = 32) ∧ Rdr w' R 3 110 A L C l (pa f l at' L).2.1 (pa f l at' L).1 E ∧ w.grownBy w' (some R) ∧
  ∃ Ai Ci, e = .returned (.slice Ai (pa f l at' L).2.2.length Ci) ∧ w'.ownsRow w.heap.size 37 32 (.slice Ai (pa f l at' L).2.2.length Ci) (pa f l at' L).2.2.length (idsV (pa f l at' L).2.2)

set_option maxRecDepth 100000 in
set_option maxHeartbeats 4000000 in
theorem parents_any (R : Nat) (A : Option Addr) (L C : Nat) (l : List Int) (at' : Nat) (f : Int) (E : Nat → Value) (w : World) (h : Rdr w R 3 110 A L C l at' f E) :
    Calls Try.prog 88 #[.pointer (some ⟨R, 0, none⟩)] w (ParRet R A L C l at' f E w) := by
  have hRl := h.row.lt
  have HAB : Hid (∀ x, A = some x → 0 < L → x.block < w.heap.size) := Lib.hid (fun x hx h0 => (h.rd.cell x hx).1 h0)
  have HNu := Lib.hid (number_r R 3 110 A L C l at' f E 1 w h (by omega))
  obtain ⟨b0, b1⟩ := tkL_one f l at' L h.rd.len h.rd.byte
  have hm : nv (tkL f l at' L 1) = ((paM f l at' L : Nat) : Int) := by unfold paM; omega
  have hmb : paM f l at' L ≤ 255 := by omega
  have hpa : pa f l at' L = pL l L (paM f l at' L) (pa2 f l at' L) (tkA f at' L 1) [] := rfl
  have hpa2 : pa2 f l at' L = if 8 < paM f l at' L then fl (tkF f at' L 1) 4 else tkF f at' L 1 := rfl
  rw [show ((1 : Nat) : Int) = 1 from rfl] at HNu
  rw [hm] at HNu
  clear hm b0 b1 h
  generalize paM f l at' L = m at *
  generalize pa2 f l at' L = F2 at *
  have HPa := Lib.hid hpa
  have HF2 := Lib.hid hpa2
  clear hpa hpa2
  have hz := zero32
  have hZl : (bv (List.replicate 32 0)).toArray.size = 32 := by simp [bv]
  generalize (bv (List.replicate 32 0)).toArray = ZI at *
  have HZl := Lib.hid hZl
  clear hZl
  go_enter Try.func88, Try.ntmps88
  go_wp2_with fail
  refine HNu.out.mono ?_
  rintro e w1 ⟨rfl, hR, hg⟩
  generalize tkA f at' L 1 = A1 at *
  generalize tkF f at' L 1 = F1 at *
  by_cases h8 : 8 < m
  · have hd8 : (8 : Int) < (m : Int) := by omega
    have HFm := Lib.hid (fail_any R 3 110 A L C l A1 F1 4 E w1 hR)
    have HG1 := Lib.hid hg
    have hF := HF2.out
    rw [if_pos h8] at hF
    rw [← hF] at HFm
    clear hR hg HNu hF HF2
    go_wp2_with fail
    refine HFm.out.mono ?_
    rintro e w2 ⟨rfl, hR2, hg2⟩
    have HR := Lib.hid hR2
    have HG := Lib.hid (grown_trans HG1.out hg2)
    clear hR2 hg2 HFm HG1 hd8 h8
    go_wp2_with fail
    go_loopw [4, 5] (fun s4 s5 wr => ∃ (k : Nat) (Ai : Option Addr) (Ci : Nat) (ids : List (List Int)) (fr : Int) (ar : Nat), s5 = .int .i64 k ∧ s4 = .slice Ai k Ci ∧ k ≤ m ∧ Hid (ids.length = k) ∧ Hid (∀ x ∈ ids, x.length = 32) ∧ Hid (pL l L (m - k) fr ar ids = pa f l at' L) ∧ Hid (wr.ownsRow w.heap.size 37 32 (.slice Ai k Ci) k (idsV ids)) ∧ Hid (Rdr wr R 3 110 A L C l ar fr E) ∧ Hid (w.grownBy wr (some R))) (fun _ s5 _ => m - (intOf s5).toNat)
    case atStart => exact ⟨0, none, 0, [], F2, A1, rfl, rfl, by omega, Lib.hid rfl, Lib.hid (by simp), Lib.hid (by rw [HPa.out]; rfl), Lib.hid ⟨by simp [idsV], .inl ⟨rfl, rfl⟩⟩, HR, HG⟩
    case round =>
      clear HR HG
      obtain ⟨k, Ai, Ci, ids, fr, ar, rfl, rfl, hk, HIl, HI32, HP, HO, HR, HG⟩ := hrel
      by_cases hkm : k < m
      · have HOk := Lib.hid (ok_any R 3 110 A L C l ar fr E wr HR.out)
        have hp := HP.out
        obtain ⟨j, hj⟩ : ∃ j, m - k = j + 1 := ⟨m - k - 1, by omega⟩
        rw [hj, pL] at hp
        by_cases h0 : fr = 0
        · have hd : (fr == 0) = true := by simp [h0]
          rw [if_pos h0] at hp
          have HP2 := Lib.hid hp
          have HId := Lib.hid (id_r R 3 110 A L C l ar fr E wr HR.out)
          obtain ⟨p, hpp⟩ : ∃ p, p = idv (tkL fr l ar L 32) := ⟨_, rfl⟩
          rw [← hpp] at HId HP2
          have hpl : p.length = 32 := by
            rw [hpp]
            refine idv_len _ ?_
            unfold tkL
            split
            · rw [List.length_take]; omega
            · simp
          have HPl := Lib.hid hpl
          clear hp h0 hpp hpl HP
          go_wp2_with fail
          refine HOk.out.mono ?_
          rintro e w3 ⟨rfl, rfl⟩
          clear HOk
          go_wp2_with fail
          refine HId.out.mono ?_
          rintro e w4 ⟨rfl, hR4, hg4⟩
          have hbA := (Below.refl w4.heap.size w4).alloc (Nat.le_refl _) (.cells ZI 37)
          have hrow := row_new w4 ZI 37
          rw [HZl.out] at hrow
          have hbl : (bv p).length = 32 := by rw [bv_len, HPl.out]
          have hRw := HR.out.row.lt
          have hszg := hg4.size
          have hwg := HG.out.size
          have hapt : ∀ x, A = some x → 0 < L → x.block ≠ w4.heap.size := fun x hx h0 => by have := HAB.out x hx h0; omega
          have HSz2 : Hid ((Try.prog.info? 37).map (·.size) = some (bv p).toArray.size) := Lib.hid (by rw [List.size_toArray, hbl]; kernel_rfl)
          have HSz1 : Hid ((Try.prog.info? 37).map (·.size) = some (bv p).length) := Lib.hid (by rw [hbl]; kernel_rfl)
          have HOne := Lib.hid (all_oneCell_toArray (bv_one p))
          have HTh : Hid ((w4.alloc (.cells ZI 37)).there w4.heap.size 0 (bv p).toArray.size) := Lib.hid (fun j hj => by
            rw [List.size_toArray, hbl] at hj
            rw [Nat.zero_add]
            exact ⟨by rw [hrow.cell hj]; rfl, hrow.frozen _⟩)
          have HX5 : Hid (((w4.alloc (.cells ZI 37)).setCells w4.heap.size 0 (bv p)).rangeAt w4.heap.size 0 (bv p)) := Lib.hid (fun j v hj => by
            have hl := (List.getElem?_eq_some_iff.1 hj).1
            rw [Nat.zero_add, (row_lay hrow 0 (bv p)).cell (by omega), layF, if_pos (by omega)]
            simp [hj, List.getD])
          have HR5 := Lib.hid (Rdr.laid (X := w4.heap.size) (by omega) (bv p) 0 _ hapt (hR4.below hbA))
          have HO4 := own_grown HO.out hg4 (fun e => by have := (HO.out.lt R e).1; omega)
          have HO5 := Lib.hid (own_grown (own_keep HO4 hbA) (grown_cells _ w4.heap.size (bv p) 0) (fun e => by have := (HO4.lt _ e).2; omega))
          have HG5 : Hid (w.grownBy ((w4.alloc (.cells ZI 37)).setCells w4.heap.size 0 (bv p)) (some R)) := Lib.hid (by
            have h1 := grown_trans HG.out hg4
            have h2 : w4.grownBy (w4.alloc (.cells ZI 37)) (some R) := ⟨hbA.os, hbA.tape, hbA.output, hbA.size, fun i hi _ => hbA.block i hi⟩
            exact grown_laid (by omega) (bv p) 0 _ (grown_trans h1 h2))
          have hX5 : w4.heap.size < ((w4.alloc (.cells ZI 37)).setCells w4.heap.size 0 (bv p)).heap.size := (row_lay hrow 0 (bv p)).lt
          have hRX : R < w4.heap.size := hR4.row.lt
          have hwX : w.heap.size ≤ w4.heap.size := by omega
          have HBl := Lib.hid hbl
          clear hbA hrow hR4 hg4 hapt HO4 HO HR HG HId hRw hszg hwg hbl
          generalize hDP : bv p = DP at *
          have HDP := Lib.hid hDP
          clear hDP
          go_upto_region 9 with (refine wpList_store_mid rfl _ _ _ rfl w4.heap.size 0 DP.toArray rfl rfl HTh.out HSz2.out HOne.out ?_)
          change Code.wp _ _ _ _ ((w4.alloc (.cells ZI 37)).setCells w4.heap.size 0 DP)
          clear HTh HSz2 HOne
          generalize (w4.alloc (.cells ZI 37)).setCells w4.heap.size 0 DP = w5 at *
          generalize hX : w4.heap.size = X at *
          clear hX
          have HRi := rdids_of_own (World.ownsRow.drew HO5.out) HI32.out (by omega) HIl.out
          have HPa2 := Lib.hid (parent_any p HPl.out Ai k Ci ids w5.drew HRi)
          rw [HDP.out] at HPa2
          obtain ⟨c, hc⟩ : ∃ c, c = cp p ids := ⟨_, rfl⟩
          rw [← hc] at HPa2 HP2
          have dX : Hid (w5.drew.rangeAt X 0 DP) := Lib.hid HX5.out
          have dR := Lib.hid (HR5.out.drewN 1)
          have dO := Lib.hid HO5.out.drew
          have dG : Hid (w.grownBy w5.drew (some R)) := Lib.hid ⟨HG5.out.os, HG5.out.tape, HG5.out.output, HG5.out.size, HG5.out.block⟩
          have hXs : X < w5.drew.heap.size := hX5
          clear hc HRi HX5 HR5 HO5 HG5 hX5
          refine wp_region_noPanic ?_
          refine wp_region_held_drew (S := (fun wS => wS.rangeAt X 0 DP)) (by kernel_rfl) ?_ (fun hHeld => ?_)
          · ((try dsimp only); exact dX.out)
          refine wpAnyH_take (i := 0) (oi := { dst := some 32, op := Op.move (Operand.tmp 0), type := 108, pos := "commit.go:91", after := #[], guard := none }) (v := ?_) rfl (by kernel_rfl) (by kernel_rfl) (by kernel_rfl) (fun _ _ _ h => h) (Or.inl ⟨by rfl, ?_⟩) (by assumption) ?_
          rotate_left 1
          · ((intro w hSw; (try dsimp only at hSw); go_simp) <;> with_reducible rfl)
          (try simp only [Act.put, List.setIfInBounds_toArray, List.set_cons_zero, List.set_cons_succ])
          refine wpAnyH_take (i := 1) (oi := { dst := some 33, op := Op.nilCheck (Operand.tmp 32), type := 0, pos := "commit.go:91", after := #[{ on := 0, ground := Ground.data }], guard := none }) (v := ?_) rfl (by kernel_rfl) (by kernel_rfl) (by kernel_rfl) (fun _ _ _ h => h) (Or.inl ⟨by rfl, ?_⟩) (by assumption) ?_
          rotate_left 1
          · ((intro w hSw; (try dsimp only at hSw); go_simp) <;> with_reducible rfl)
          (try simp only [Act.put, List.setIfInBounds_toArray, List.set_cons_zero, List.set_cons_succ])
          refine wpAnyH_take (i := 2) (oi := { dst := some 34, op := Op.fieldAddr 110 (Operand.tmp 33) 0, type := 0, pos := "commit.go:91", after := #[{ on := 1, ground := Ground.data }], guard := none }) (v := ?_) rfl (by kernel_rfl) (by kernel_rfl) (by kernel_rfl) (fun _ _ _ h => h) (Or.inl ⟨by rfl, ?_⟩) (by assumption) ?_
          rotate_left 1
          · ((intro w hSw; (try dsimp only at hSw); go_simp) <;> with_reducible rfl)
          (try simp only [Act.put, List.setIfInBounds_toArray, List.set_cons_zero, List.set_cons_succ])
          refine' wpAnyH_take (i := 3) (oi := { dst := some 35, op := Op.load 37 (Operand.tmp 6), type := 37, pos := "commit.go:91", after := #[], guard := none }) (v := _) rfl (by kernel_rfl) (by kernel_rfl) (by kernel_rfl) (fun _ _ _ h => h) (yieldsIf_load_mid (by rfl) _ _ rfl _ _ rfl DP _ (fun w hSw => hSw) Try.underlying37 rfl HSz1.out) (by assumption) ?_
          (try simp only [Act.put, List.setIfInBounds_toArray, List.set_cons_zero, List.set_cons_succ])
          refine wpAnyH_take (i := 4) (oi := { dst := some 36, op := Op.move (Operand.tmp 4), type := 38, pos := "commit.go:91", after := #[], guard := none }) (v := ?_) rfl (by kernel_rfl) (by kernel_rfl) (by kernel_rfl) (fun _ _ _ h => h) (Or.inl ⟨by rfl, ?_⟩) (by assumption) ?_
          rotate_left 1
          · ((intro w hSw; (try dsimp only at hSw); go_simp) <;> with_reducible rfl)
          (try simp only [Act.put, List.setIfInBounds_toArray, List.set_cons_zero, List.set_cons_succ])
          refine wpAnyH_ready (rs := [5]) (by kernel_rfl) (by simp) ?_
          refine AllReadyH.cons (o := { dst := some 37, op := Op.call { callee := Callee.value (Operand.func 87), args := #[Operand.tmp 35, Operand.tmp 36], argTypes := #[37, 38] }, type := 25, pos := "commit.go:91", after := #[{ on := 3, ground := Ground.data }, { on := 4, ground := Ground.data }], guard := none }) rfl (fun K hK => ?_) ?_
          · go_simp
            refine HPa2.out.mono ?_
            rintro e wB ⟨rfl, hb⟩
            have eX := Lib.hid (range_below hb dX.out hXs)
            have eR := Lib.hid (dR.out.below hb)
            have eO := Lib.hid (own_keep dO.out hb)
            have eG : Hid (w.grownBy wB (some R)) := Lib.hid (grown_trans dG.out ⟨hb.os, hb.tape, hb.output, hb.size, fun i hi _ => hb.block i hi⟩)
            have eXs := Nat.lt_of_lt_of_le hXs hb.size
            clear dX dR dO dG hXs hb HPa2
            have dX := eX
            have dR := eR
            have dO := eO
            have dG := eG
            have hXs := eXs
            clear eX eR eO eG eXs
            have HFm := Lib.hid (fail_any R 3 110 A L C l _ _ c E wB dR.out)
            (try go_wp2_with fail)
            refine hK.out _ _ ?_ (fun hNew => ?_)
            · ((try dsimp only); exact dX.out)
            clear hK K hHeld
            have hHeld := hNew
            clear hNew
            (try simp only [Act.put, List.setIfInBounds_toArray, List.set_cons_zero, List.set_cons_succ])
            refine wpAnyH_ready (rs := [6]) (by kernel_rfl) (by simp) ?_
            refine AllReadyH.cons (o := { dst := some 38, op := Op.call { callee := Callee.value (Operand.func 85), args := #[Operand.tmp 34, Operand.tmp 37], argTypes := #[94, 25] }, type := 0, pos := "commit.go:91", after := #[{ on := 2, ground := Ground.data }, { on := 5, ground := Ground.data }, { on := 5, ground := Ground.chain }], guard := none }) rfl (fun K hK => ?_) ?_
            · go_simp
              refine HFm.out.mono ?_
              rintro e wC ⟨rfl, hR, hg⟩
              have eX := Lib.hid (range_grown dX.out hg hXs (by omega))
              have eR := Lib.hid hR
              have eO := Lib.hid (own_grown dO.out hg (fun e => by have := (dO.out.lt R e).1; omega))
              have eG := Lib.hid (grown_trans dG.out hg)
              have eXs := Nat.lt_of_lt_of_le hXs hg.size
              clear dX dR dO dG hXs hR hg HFm
              have dX := eX
              have dR := eR
              have dO := eO
              have dG := eG
              have hXs := eXs
              clear eX eR eO eG eXs
              (try go_wp2_with fail)
              refine hK.out _ _ ?_ (fun hNew => ?_)
              · ((try dsimp only); exact dX.out)
              clear hK K hHeld
              have hHeld := hNew
              clear hNew
              (try simp only [Act.put, List.setIfInBounds_toArray, List.set_cons_zero, List.set_cons_succ])
              refine wpAnyH_done (by kernel_rfl) ?_ _
              refine NoPanic.normal ?_
              clear hHeld
              have hn := new_id wC p 37
              rw [HDP.out] at hn
              have HN : Hid (∀ j u, (bv p)[j]? = some u → (wC.alloc (.cells DP.toArray 37)).cell? ((⟨wC.heap.size, 0, none⟩ : Addr).add j) = some u) := Lib.hid (fun j u hj => hn j u (by rw [← HDP.out]; exact hj))
              have hA := (Below.refl wC.heap.size wC).alloc (Nat.le_refl _) (.cells DP.toArray 37)
              have aO := Lib.hid (own_keep dO.out hA)
              have aR := Lib.hid (dR.out.below hA)
              have aG : Hid (w.grownBy (wC.alloc (.cells DP.toArray 37)) (some R)) := Lib.hid (grown_trans dG.out ⟨hA.os, hA.tape, hA.output, hA.size, fun i hi _ => hA.block i hi⟩)
              have aB : Hid (w.heap.size ≤ (wC.alloc (.cells DP.toArray 37)).heap.size) := Lib.hid aG.out.size
              have HBp : Hid ((bv p).length = 32) := Lib.hid (by rw [HDP.out]; exact HBl.out)
              clear hn hA dO dR dG
              go_wp2_with (first
                | (refine wpList_load_mid rfl _ _ rfl X 0 rfl DP _ dX.out Try.underlying37 rfl HSz1.out ?_)
                | (refine wpList_build_id _ rfl (.tmp 40) rfl DP rfl HBl.out ?_)
                | (at_builtin; refine wpList_append_id _ rfl (.tmp 39) (.tmp 41) rfl w.heap.size (.slice Ai k Ci) k ids rfl aO.out wC.heap.size p rfl HN.out HBp.out (by omega) aB.out ?_))
              intro A9 C9 wE hoE hgE
              have eB : Below w.heap.size (wC.alloc (.cells DP.toArray 37)) wE := (Below.refl _ _).grown hgE aB.out (fun j hj => (aO.out.lt j hj).1)
              have eR := Lib.hid (aR.out.belowB eB hRl HAB.out)
              have eG : Hid (w.grownBy wE (some R)) := Lib.hid ⟨eB.os.trans aG.out.os, eB.tape.trans aG.out.tape, eB.output.trans aG.out.output, Nat.le_trans aG.out.size eB.size, fun i hi hne => (eB.block i hi).trans (aG.out.block i hi hne)⟩
              have eO := Lib.hid hoE
              clear hoE hgE eB aO aR aG aB HN
              go_wp2_with fail
              go_roundw
              case rel => exact ⟨k + 1, A9, C9, ids ++ [p], _, _, by go_num, rfl, by omega, Lib.hid (by simp [HIl.out]), Lib.hid (fun y hy => by
                rcases List.mem_append.1 hy with hy | hy
                · exact HI32.out y hy
                · rw [List.mem_singleton.1 hy]; exact HPl.out), Lib.hid (by rw [show m - (k + 1) = j by omega]; exact HP2.out), eO, eR, eG⟩
              case measure => simp [intOf]; omega
            exact AllReadyH.nil
          exact AllReadyH.nil
        · have hd : (fr == 0) = false := by simp [h0]
          rw [if_neg h0] at hp
          have HP2 := Lib.hid hp
          clear hp h0 HP
          go_wp2_with fail
          refine HOk.out.mono ?_
          rintro e w3 ⟨rfl, rfl⟩
          clear HOk
          go_wp2_with fail
          go_ret
          unfold ParRet
          rw [← HP2.out]
          dsimp only
          exact ⟨HI32.out, HR.out, HG.out, Ai, Ci, by rw [HIl.out]; rfl, by rw [HIl.out]; exact HO.out⟩
      · have hp := HP.out
        rw [show m - k = 0 by omega, pL] at hp
        have HP2 := Lib.hid hp
        clear hp HP
        go_wp2_with fail
        go_ret
        unfold ParRet
        rw [← HP2.out]
        dsimp only
        exact ⟨HI32.out, HR.out, HG.out, Ai, Ci, by rw [HIl.out]; rfl, by rw [HIl.out]; exact HO.out⟩
  · have hd8 : ¬ (8 : Int) < (m : Int) := by omega
    have hF := HF2.out
    rw [if_neg h8] at hF
    rw [← hF] at hR
    have HR := Lib.hid hR
    have HG := Lib.hid hg
    clear hR hg HNu hF HF2
    go_wp2_with fail
    go_loopw [4, 5] (fun s4 s5 wr => ∃ (k : Nat) (Ai : Option Addr) (Ci : Nat) (ids : List (List Int)) (fr : Int) (ar : Nat), s5 = .int .i64 k ∧ s4 = .slice Ai k Ci ∧ k ≤ m ∧ Hid (ids.length = k) ∧ Hid (∀ x ∈ ids, x.length = 32) ∧ Hid (pL l L (m - k) fr ar ids = pa f l at' L) ∧ Hid (wr.ownsRow w.heap.size 37 32 (.slice Ai k Ci) k (idsV ids)) ∧ Hid (Rdr wr R 3 110 A L C l ar fr E) ∧ Hid (w.grownBy wr (some R))) (fun _ s5 _ => m - (intOf s5).toNat)
    case atStart => exact ⟨0, none, 0, [], F2, A1, rfl, rfl, by omega, Lib.hid rfl, Lib.hid (by simp), Lib.hid (by rw [HPa.out]; rfl), Lib.hid ⟨by simp [idsV], .inl ⟨rfl, rfl⟩⟩, HR, HG⟩
    case round =>
      clear HR HG
      obtain ⟨k, Ai, Ci, ids, fr, ar, rfl, rfl, hk, HIl, HI32, HP, HO, HR, HG⟩ := hrel
      by_cases hkm : k < m
      · have HOk := Lib.hid (ok_any R 3 110 A L C l ar fr E wr HR.out)
        have hp := HP.out
        obtain ⟨j, hj⟩ : ∃ j, m - k = j + 1 := ⟨m - k - 1, by omega⟩
        rw [hj, pL] at hp
        by_cases h0 : fr = 0
        · have hd : (fr == 0) = true := by simp [h0]
          rw [if_pos h0] at hp
          have HP2 := Lib.hid hp
          have HId := Lib.hid (id_r R 3 110 A L C l ar fr E wr HR.out)
          obtain ⟨p, hpp⟩ : ∃ p, p = idv (tkL fr l ar L 32) := ⟨_, rfl⟩
          rw [← hpp] at HId HP2
          have hpl : p.length = 32 := by
            rw [hpp]
            refine idv_len _ ?_
            unfold tkL
            split
            · rw [List.length_take]; omega
            · simp
          have HPl := Lib.hid hpl
          clear hp h0 hpp hpl HP
          go_wp2_with fail
          refine HOk.out.mono ?_
          rintro e w3 ⟨rfl, rfl⟩
          clear HOk
          go_wp2_with fail
          refine HId.out.mono ?_
          rintro e w4 ⟨rfl, hR4, hg4⟩
          have hbA := (Below.refl w4.heap.size w4).alloc (Nat.le_refl _) (.cells ZI 37)
          have hrow := row_new w4 ZI 37
          rw [HZl.out] at hrow
          have hbl : (bv p).length = 32 := by rw [bv_len, HPl.out]
          have hRw := HR.out.row.lt
          have hszg := hg4.size
          have hwg := HG.out.size
          have hapt : ∀ x, A = some x → 0 < L → x.block ≠ w4.heap.size := fun x hx h0 => by have := HAB.out x hx h0; omega
          have HSz2 : Hid ((Try.prog.info? 37).map (·.size) = some (bv p).toArray.size) := Lib.hid (by rw [List.size_toArray, hbl]; kernel_rfl)
          have HSz1 : Hid ((Try.prog.info? 37).map (·.size) = some (bv p).length) := Lib.hid (by rw [hbl]; kernel_rfl)
          have HOne := Lib.hid (all_oneCell_toArray (bv_one p))
          have HTh : Hid ((w4.alloc (.cells ZI 37)).there w4.heap.size 0 (bv p).toArray.size) := Lib.hid (fun j hj => by
            rw [List.size_toArray, hbl] at hj
            rw [Nat.zero_add]
            exact ⟨by rw [hrow.cell hj]; rfl, hrow.frozen _⟩)
          have HX5 : Hid (((w4.alloc (.cells ZI 37)).setCells w4.heap.size 0 (bv p)).rangeAt w4.heap.size 0 (bv p)) := Lib.hid (fun j v hj => by
            have hl := (List.getElem?_eq_some_iff.1 hj).1
            rw [Nat.zero_add, (row_lay hrow 0 (bv p)).cell (by omega), layF, if_pos (by omega)]
            simp [hj, List.getD])
          have HR5 := Lib.hid (Rdr.laid (X := w4.heap.size) (by omega) (bv p) 0 _ hapt (hR4.below hbA))
          have HO4 := own_grown HO.out hg4 (fun e => by have := (HO.out.lt R e).1; omega)
          have HO5 := Lib.hid (own_grown (own_keep HO4 hbA) (grown_cells _ w4.heap.size (bv p) 0) (fun e => by have := (HO4.lt _ e).2; omega))
          have HG5 : Hid (w.grownBy ((w4.alloc (.cells ZI 37)).setCells w4.heap.size 0 (bv p)) (some R)) := Lib.hid (by
            have h1 := grown_trans HG.out hg4
            have h2 : w4.grownBy (w4.alloc (.cells ZI 37)) (some R) := ⟨hbA.os, hbA.tape, hbA.output, hbA.size, fun i hi _ => hbA.block i hi⟩
            exact grown_laid (by omega) (bv p) 0 _ (grown_trans h1 h2))
          have hX5 : w4.heap.size < ((w4.alloc (.cells ZI 37)).setCells w4.heap.size 0 (bv p)).heap.size := (row_lay hrow 0 (bv p)).lt
          have hRX : R < w4.heap.size := hR4.row.lt
          have hwX : w.heap.size ≤ w4.heap.size := by omega
          have HBl := Lib.hid hbl
          clear hbA hrow hR4 hg4 hapt HO4 HO HR HG HId hRw hszg hwg hbl
          generalize hDP : bv p = DP at *
          have HDP := Lib.hid hDP
          clear hDP
          go_upto_region 9 with (refine wpList_store_mid rfl _ _ _ rfl w4.heap.size 0 DP.toArray rfl rfl HTh.out HSz2.out HOne.out ?_)
          change Code.wp _ _ _ _ ((w4.alloc (.cells ZI 37)).setCells w4.heap.size 0 DP)
          clear HTh HSz2 HOne
          generalize (w4.alloc (.cells ZI 37)).setCells w4.heap.size 0 DP = w5 at *
          generalize hX : w4.heap.size = X at *
          clear hX
          have HRi := rdids_of_own (World.ownsRow.drew HO5.out) HI32.out (by omega) HIl.out
          have HPa2 := Lib.hid (parent_any p HPl.out Ai k Ci ids w5.drew HRi)
          rw [HDP.out] at HPa2
          obtain ⟨c, hc⟩ : ∃ c, c = cp p ids := ⟨_, rfl⟩
          rw [← hc] at HPa2 HP2
          have dX : Hid (w5.drew.rangeAt X 0 DP) := Lib.hid HX5.out
          have dR := Lib.hid (HR5.out.drewN 1)
          have dO := Lib.hid HO5.out.drew
          have dG : Hid (w.grownBy w5.drew (some R)) := Lib.hid ⟨HG5.out.os, HG5.out.tape, HG5.out.output, HG5.out.size, HG5.out.block⟩
          have hXs : X < w5.drew.heap.size := hX5
          clear hc HRi HX5 HR5 HO5 HG5 hX5
          refine wp_region_noPanic ?_
          refine wp_region_held_drew (S := (fun wS => wS.rangeAt X 0 DP)) (by kernel_rfl) ?_ (fun hHeld => ?_)
          · ((try dsimp only); exact dX.out)
          refine wpAnyH_take (i := 0) (oi := { dst := some 32, op := Op.move (Operand.tmp 0), type := 108, pos := "commit.go:91", after := #[], guard := none }) (v := ?_) rfl (by kernel_rfl) (by kernel_rfl) (by kernel_rfl) (fun _ _ _ h => h) (Or.inl ⟨by rfl, ?_⟩) (by assumption) ?_
          rotate_left 1
          · ((intro w hSw; (try dsimp only at hSw); go_simp) <;> with_reducible rfl)
          (try simp only [Act.put, List.setIfInBounds_toArray, List.set_cons_zero, List.set_cons_succ])
          refine wpAnyH_take (i := 1) (oi := { dst := some 33, op := Op.nilCheck (Operand.tmp 32), type := 0, pos := "commit.go:91", after := #[{ on := 0, ground := Ground.data }], guard := none }) (v := ?_) rfl (by kernel_rfl) (by kernel_rfl) (by kernel_rfl) (fun _ _ _ h => h) (Or.inl ⟨by rfl, ?_⟩) (by assumption) ?_
          rotate_left 1
          · ((intro w hSw; (try dsimp only at hSw); go_simp) <;> with_reducible rfl)
          (try simp only [Act.put, List.setIfInBounds_toArray, List.set_cons_zero, List.set_cons_succ])
          refine wpAnyH_take (i := 2) (oi := { dst := some 34, op := Op.fieldAddr 110 (Operand.tmp 33) 0, type := 0, pos := "commit.go:91", after := #[{ on := 1, ground := Ground.data }], guard := none }) (v := ?_) rfl (by kernel_rfl) (by kernel_rfl) (by kernel_rfl) (fun _ _ _ h => h) (Or.inl ⟨by rfl, ?_⟩) (by assumption) ?_
          rotate_left 1
          · ((intro w hSw; (try dsimp only at hSw); go_simp) <;> with_reducible rfl)
          (try simp only [Act.put, List.setIfInBounds_toArray, List.set_cons_zero, List.set_cons_succ])
          refine' wpAnyH_take (i := 3) (oi := { dst := some 35, op := Op.load 37 (Operand.tmp 6), type := 37, pos := "commit.go:91", after := #[], guard := none }) (v := _) rfl (by kernel_rfl) (by kernel_rfl) (by kernel_rfl) (fun _ _ _ h => h) (yieldsIf_load_mid (by rfl) _ _ rfl _ _ rfl DP _ (fun w hSw => hSw) Try.underlying37 rfl HSz1.out) (by assumption) ?_
          (try simp only [Act.put, List.setIfInBounds_toArray, List.set_cons_zero, List.set_cons_succ])
          refine wpAnyH_take (i := 4) (oi := { dst := some 36, op := Op.move (Operand.tmp 4), type := 38, pos := "commit.go:91", after := #[], guard := none }) (v := ?_) rfl (by kernel_rfl) (by kernel_rfl) (by kernel_rfl) (fun _ _ _ h => h) (Or.inl ⟨by rfl, ?_⟩) (by assumption) ?_
          rotate_left 1
          · ((intro w hSw; (try dsimp only at hSw); go_simp) <;> with_reducible rfl)
          (try simp only [Act.put, List.setIfInBounds_toArray, List.set_cons_zero, List.set_cons_succ])
          refine wpAnyH_ready (rs := [5]) (by kernel_rfl) (by simp) ?_
          refine AllReadyH.cons (o := { dst := some 37, op := Op.call { callee := Callee.value (Operand.func 87), args := #[Operand.tmp 35, Operand.tmp 36], argTypes := #[37, 38] }, type := 25, pos := "commit.go:91", after := #[{ on := 3, ground := Ground.data }, { on := 4, ground := Ground.data }], guard := none }) rfl (fun K hK => ?_) ?_
          · go_simp
            refine HPa2.out.mono ?_
            rintro e wB ⟨rfl, hb⟩
            have eX := Lib.hid (range_below hb dX.out hXs)
            have eR := Lib.hid (dR.out.below hb)
            have eO := Lib.hid (own_keep dO.out hb)
            have eG : Hid (w.grownBy wB (some R)) := Lib.hid (grown_trans dG.out ⟨hb.os, hb.tape, hb.output, hb.size, fun i hi _ => hb.block i hi⟩)
            have eXs := Nat.lt_of_lt_of_le hXs hb.size
            clear dX dR dO dG hXs hb HPa2
            have dX := eX
            have dR := eR
            have dO := eO
            have dG := eG
            have hXs := eXs
            clear eX eR eO eG eXs
            have HFm := Lib.hid (fail_any R 3 110 A L C l _ _ c E wB dR.out)
            (try go_wp2_with fail)
            refine hK.out _ _ ?_ (fun hNew => ?_)
            · ((try dsimp only); exact dX.out)
            clear hK K hHeld
            have hHeld := hNew
            clear hNew
            (try simp only [Act.put, List.setIfInBounds_toArray, List.set_cons_zero, List.set_cons_succ])
            refine wpAnyH_ready (rs := [6]) (by kernel_rfl) (by simp) ?_
            refine AllReadyH.cons (o := { dst := some 38, op := Op.call { callee := Callee.value (Operand.func 85), args := #[Operand.tmp 34, Operand.tmp 37], argTypes := #[94, 25] }, type := 0, pos := "commit.go:91", after := #[{ on := 2, ground := Ground.data }, { on := 5, ground := Ground.data }, { on := 5, ground := Ground.chain }], guard := none }) rfl (fun K hK => ?_) ?_
            · go_simp
              refine HFm.out.mono ?_
              rintro e wC ⟨rfl, hR, hg⟩
              have eX := Lib.hid (range_grown dX.out hg hXs (by omega))
              have eR := Lib.hid hR
              have eO := Lib.hid (own_grown dO.out hg (fun e => by have := (dO.out.lt R e).1; omega))
              have eG := Lib.hid (grown_trans dG.out hg)
              have eXs := Nat.lt_of_lt_of_le hXs hg.size
              clear dX dR dO dG hXs hR hg HFm
              have dX := eX
              have dR := eR
              have dO := eO
              have dG := eG
              have hXs := eXs
              clear eX eR eO eG eXs
              (try go_wp2_with fail)
              refine hK.out _ _ ?_ (fun hNew => ?_)
              · ((try dsimp only); exact dX.out)
              clear hK K hHeld
              have hHeld := hNew
              clear hNew
              (try simp only [Act.put, List.setIfInBounds_toArray, List.set_cons_zero, List.set_cons_succ])
              refine wpAnyH_done (by kernel_rfl) ?_ _
              refine NoPanic.normal ?_
              clear hHeld
              have hn := new_id wC p 37
              rw [HDP.out] at hn
              have HN : Hid (∀ j u, (bv p)[j]? = some u → (wC.alloc (.cells DP.toArray 37)).cell? ((⟨wC.heap.size, 0, none⟩ : Addr).add j) = some u) := Lib.hid (fun j u hj => hn j u (by rw [← HDP.out]; exact hj))
              have hA := (Below.refl wC.heap.size wC).alloc (Nat.le_refl _) (.cells DP.toArray 37)
              have aO := Lib.hid (own_keep dO.out hA)
              have aR := Lib.hid (dR.out.below hA)
              have aG : Hid (w.grownBy (wC.alloc (.cells DP.toArray 37)) (some R)) := Lib.hid (grown_trans dG.out ⟨hA.os, hA.tape, hA.output, hA.size, fun i hi _ => hA.block i hi⟩)
              have aB : Hid (w.heap.size ≤ (wC.alloc (.cells DP.toArray 37)).heap.size) := Lib.hid aG.out.size
              have HBp : Hid ((bv p).length = 32) := Lib.hid (by rw [HDP.out]; exact HBl.out)
              clear hn hA dO dR dG
              go_wp2_with (first
                | (refine wpList_load_mid rfl _ _ rfl X 0 rfl DP _ dX.out Try.underlying37 rfl HSz1.out ?_)
                | (refine wpList_build_id _ rfl (.tmp 40) rfl DP rfl HBl.out ?_)
                | (at_builtin; refine wpList_append_id _ rfl (.tmp 39) (.tmp 41) rfl w.heap.size (.slice Ai k Ci) k ids rfl aO.out wC.heap.size p rfl HN.out HBp.out (by omega) aB.out ?_))
              intro A9 C9 wE hoE hgE
              have eB : Below w.heap.size (wC.alloc (.cells DP.toArray 37)) wE := (Below.refl _ _).grown hgE aB.out (fun j hj => (aO.out.lt j hj).1)
              have eR := Lib.hid (aR.out.belowB eB hRl HAB.out)
              have eG : Hid (w.grownBy wE (some R)) := Lib.hid ⟨eB.os.trans aG.out.os, eB.tape.trans aG.out.tape, eB.output.trans aG.out.output, Nat.le_trans aG.out.size eB.size, fun i hi hne => (eB.block i hi).trans (aG.out.block i hi hne)⟩
              have eO := Lib.hid hoE
              clear hoE hgE eB aO aR aG aB HN
              go_wp2_with fail
              go_roundw
              case rel => exact ⟨k + 1, A9, C9, ids ++ [p], _, _, by go_num, rfl, by omega, Lib.hid (by simp [HIl.out]), Lib.hid (fun y hy => by
                rcases List.mem_append.1 hy with hy | hy
                · exact HI32.out y hy
                · rw [List.mem_singleton.1 hy]; exact HPl.out), Lib.hid (by rw [show m - (k + 1) = j by omega]; exact HP2.out), eO, eR, eG⟩
              case measure => simp [intOf]; omega
            exact AllReadyH.nil
          exact AllReadyH.nil
        · have hd : (fr == 0) = false := by simp [h0]
          rw [if_neg h0] at hp
          have HP2 := Lib.hid hp
          clear hp h0 HP
          go_wp2_with fail
          refine HOk.out.mono ?_
          rintro e w3 ⟨rfl, rfl⟩
          clear HOk
          go_wp2_with fail
          go_ret
          unfold ParRet
          rw [← HP2.out]
          dsimp only
          exact ⟨HI32.out, HR.out, HG.out, Ai, Ci, by rw [HIl.out]; rfl, by rw [HIl.out]; exact HO.out⟩
      · have hp := HP.out
        rw [show m - k = 0 by omega, pL] at hp
        have HP2 := Lib.hid hp
        clear hp HP
        go_wp2_with fail
        go_ret
        unfold ParRet
        rw [← HP2.out]
        dsimp only
        exact ⟨HI32.out, HR.out, HG.out, Ai, Ci, by rw [HIl.out]; rfl, by rw [HIl.out]; exact HO.out⟩
end Go.Proofs.Ytmcmapgllaopmaa.Cd
end
