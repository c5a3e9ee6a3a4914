/- Texts of one's own, merged: CdIdx, CdPar, CdPars, CdParents, CdCommit, CdPc, CdFin, CdObj, CdCb, CdCuId, CdRParse. -/
import Derived.Test.YtmcmapgllaopmaaMb

section
namespace Go.Proofs.Ytmcmapgllaopmaa.Cd
open Go.RowKit
set_option linter.unusedVariables false
/-- a row of Ids that is read -/
structure RdIds (w : World) (A : Option Addr) (n C : Nat) (l : List (List Int)) : Prop where
  cap : n ≤ C
  max : C ≤ 9223372036854775807
  big : n ≤ 1000000
  len : l.length = n
  ids : ∀ x ∈ l, x.length = 32
  cell : 0 < n → ∃ g o, A = some ⟨g, o, Option.none⟩ ∧ g < w.heap.size ∧ ∀ i, i < n → w.rangeAt g (o + i * 32) (bv (l.getD i []))
theorem RdIds.below {w w' : World} {A : Option Addr} {n C : Nat} {l : List (List Int)} (h : RdIds w A n C l) (hb : Below w.heap.size w w') : RdIds w' A n C l :=
  ⟨h.cap, h.max, h.big, h.len, h.ids, fun h0 => by
    obtain ⟨g, o, h1, h2, h3⟩ := h.cell h0
    exact ⟨g, o, h1, Nat.lt_of_lt_of_le h2 hb.size, fun i hi => range_below hb (h3 i hi) h2⟩⟩
theorem getD_mem {l : List (List Int)} {k : Nat} (h : k < l.length) : l.getD k [] ∈ l := by
  rw [List.getD_eq_getElem?_getD, List.getElem?_eq_getElem h]; exact List.getElem_mem h
set_option maxRecDepth 100000 in
theorem index_ids (A : Option Addr) (n C : Nat) (l : List (List Int)) (p : List Int) (hp : p.length = 32) (w : World) (h : RdIds w A n C l) :
    Calls Try.prog 107 #[.slice A n C, .agg (bv p).toArray] w fun e w' => ∃ j : Int, e = .returned (.int .i64 j) ∧ decide (0 ≤ j) = decide (p ∈ l) ∧ Below w.heap.size w w' := by
  have HL := Lib.hid (show (Try.prog.info? 37).map (·.size) = some (bv p).length by rw [bv, List.length_map, hp]; kernel_rfl)
  have HR : Hid ((w.alloc (.cells (bv p).toArray 37)).rangeAt w.heap.size 0 (bv p)) := Lib.hid (fun j v hj => by rw [Nat.zero_add, World.cell?_alloc_new]; simpa using hj)
  have hbA := (Below.refl w.heap.size w).alloc (Nat.le_refl _) (.cells (bv p).toArray 37)
  have HI := Lib.hid (h.below hbA)
  have HB0 := Lib.hid hbA
  have hsz := al_lt w (.cells (bv p).toArray 37)
  have hbig := h.big
  have hcap := h.cap
  have hmax := h.max
  have HP := Lib.hid hp
  clear hbA h hp
  generalize hDP : bv p = DP at *
  have HD := Lib.hid hDP
  clear hDP
  go_enter Try.func107, Try.ntmps107
  go_wp2_with fail
  generalize w.alloc (.cells DP.toArray 37) = w0 at *
  generalize hX : w.heap.size = X at *
  have HX := Lib.hid hX
  clear hX
  go_loopw [8] (fun s wr => ∃ k : Nat, s = .int .i64 k ∧ k ≤ n ∧ Hid (∀ i, i < k → l.getD i [] ≠ p) ∧ Hid (Below w0.heap.size w0 wr)) (fun s _ => n - (intOf s).toNat)
  case atStart => exact ⟨0, rfl, by omega, Lib.hid (fun i hi => absurd hi (by omega)), Lib.hid (Below.refl _ _)⟩
  case round =>
    obtain ⟨k, rfl, hk, HN, HB⟩ := hrel
    by_cases hlt : k < n
    · obtain ⟨g, o, rfl, hg, hc⟩ := HI.out.cell (by omega)
      have hql := HI.out.ids _ (getD_mem (k := k) (by have := HI.out.len; omega))
      have HS2 := Lib.hid (range_below HB.out (hc k hlt) hg)
      have HS1 := Lib.hid (range_below HB.out HR.out hsz)
      have HL2 := Lib.hid (show (Try.prog.info? 37).map (·.size) = some (bv (l.getD k [])).length by rw [bv, List.length_map, hql]; kernel_rfl)
      have heq := fun W => ids_eq p (l.getD k []) HP.out hql W
      rw [HD.out] at heq
      have hk0 : (0 : Int) ≤ (k : Int) := by omega
      have hk1 : (k : Int) < (n : Int) := by omega
      clear hc hql
      by_cases hpq : p = l.getD k []
      · rw [decide_eq_true hpq] at heq
        have HM : Hid (decide (p ∈ l) = true) := Lib.hid (decide_eq_true (by rw [hpq]; exact getD_mem (by have := HI.out.len; omega)))
        clear hpq
        generalize bv (l.getD k []) = DQ at *
        go_wp2_with fail
        refine wp_region_noPanic ?_
        refine wp_region_held_drew (S := (fun wS => wS.rangeAt X 0 DP ∧ wS.rangeAt g (o + k * 32) DQ)) (by kernel_rfl) ?_ (fun hHeld => ?_)
        · ((try dsimp only); exact ⟨HS1.out, HS2.out⟩)
        refine' wpAnyH_take (i := 0) (oi := { dst := some 11, op := Op.load 37 (Operand.tmp 3), type := 37, pos := "slices.go:98", after := #[], guard := none }) (v := _) rfl (by kernel_rfl) (by kernel_rfl) (by kernel_rfl) (fun _ _ _ h => h) (yieldsIf_load_mid (by rfl) _ _ rfl _ _ rfl DP _ (fun w hSw => hSw.1) Try.underlying37 rfl HL.out) (by assumption) ?_
        (try simp only [Act.put, List.setIfInBounds_toArray, List.set_cons_zero, List.set_cons_succ])
        refine wpAnyH_take (i := 1) (oi := { dst := some 12, op := Op.move (Operand.tmp 0), type := 38, pos := "slices.go:98", after := #[], guard := none }) (v := ?_) rfl (by kernel_rfl) (by kernel_rfl) (by kernel_rfl) (fun _ _ _ h => h) (Or.inl ⟨by rfl, ?_⟩) (by assumption) ?_
        rotate_left 1
        · ((intro w hSw; (try dsimp only at hSw); go_simp) <;> with_reducible rfl)
        (try simp only [Act.put, List.setIfInBounds_toArray, List.set_cons_zero, List.set_cons_succ])
        refine wpAnyH_take (i := 2) (oi := { dst := some 13, op := Op.move (Operand.tmp 5), type := 3, pos := "slices.go:98", after := #[], guard := none }) (v := ?_) rfl (by kernel_rfl) (by kernel_rfl) (by kernel_rfl) (fun _ _ _ h => h) (Or.inl ⟨by rfl, ?_⟩) (by assumption) ?_
        rotate_left 1
        · ((intro w hSw; (try dsimp only at hSw); go_simp) <;> with_reducible rfl)
        (try simp only [Act.put, List.setIfInBounds_toArray, List.set_cons_zero, List.set_cons_succ])
        refine wpAnyH_take (i := 3) (oi := { dst := some 14, op := Op.indexAddr 38 (Operand.tmp 12) (Operand.tmp 13), type := 0, pos := "slices.go:98", after := #[{ on := 1, ground := Ground.data }, { on := 2, ground := Ground.data }], guard := none }) (v := ?_) rfl (by kernel_rfl) (by kernel_rfl) (by kernel_rfl) (fun _ _ _ h => h) (Or.inl ⟨by rfl, ?_⟩) (by assumption) ?_
        rotate_left 1
        · ((intro w hSw; (try dsimp only at hSw); go_simp) <;> with_reducible rfl)
        (try simp only [Act.put, List.setIfInBounds_toArray, List.set_cons_zero, List.set_cons_succ])
        refine' wpAnyH_take (i := 4) (oi := { dst := some 15, op := Op.load 37 (Operand.tmp 14), type := 37, pos := "slices.go:98", after := #[{ on := 3, ground := Ground.data }], guard := none }) (v := _) rfl (by kernel_rfl) (by kernel_rfl) (by kernel_rfl) (fun _ _ _ h => h) (yieldsIf_load_mid (by rfl) _ _ rfl _ _ rfl DQ _ (fun w hSw => hSw.2) Try.underlying37 rfl HL2.out) (by assumption) ?_
        (try simp only [Act.put, List.setIfInBounds_toArray, List.set_cons_zero, List.set_cons_succ])
        refine wpAnyH_take (i := 5) (oi := { dst := some 16, op := Op.binOp BinOp.eql 37 (Operand.tmp 11) (Operand.tmp 15) 37, type := 4, pos := "slices.go:98", after := #[{ on := 0, ground := Ground.data }, { on := 4, ground := Ground.data }], guard := none }) (v := ?_) rfl (by kernel_rfl) (by kernel_rfl) (by kernel_rfl) (fun _ _ _ h => h) (Or.inl ⟨by rfl, ?_⟩) (by assumption) ?_
        rotate_left 1
        · ((intro w hSw; (try dsimp only at hSw); go_simp) <;> with_reducible rfl)
        (try simp only [Act.put, List.setIfInBounds_toArray, List.set_cons_zero, List.set_cons_succ])
        refine wpAnyH_done (by kernel_rfl) ?_ _
        refine NoPanic.normal ?_
        skip
        go_wp2_with fail
        go_ret
        refine ⟨k, rfl, ?_, by rw [HX.out]; exact HB0.out.trans ((HB.out.mono (by omega)).drew)⟩
        rw [HM.out]
        exact decide_eq_true hk0
      · rw [decide_eq_false hpq] at heq
        have HM : Hid (l.getD k [] ≠ p) := Lib.hid (fun e => hpq e.symm)
        clear hpq
        generalize hDQ : bv (l.getD k []) = DQ at *
        clear hDQ
        go_wp2_with fail
        refine wp_region_noPanic ?_
        refine wp_region_held_drew (S := (fun wS => wS.rangeAt X 0 DP ∧ wS.rangeAt g (o + k * 32) DQ)) (by kernel_rfl) ?_ (fun hHeld => ?_)
        · ((try dsimp only); exact ⟨HS1.out, HS2.out⟩)
        refine' wpAnyH_take (i := 0) (oi := { dst := some 11, op := Op.load 37 (Operand.tmp 3), type := 37, pos := "slices.go:98", after := #[], guard := none }) (v := _) rfl (by kernel_rfl) (by kernel_rfl) (by kernel_rfl) (fun _ _ _ h => h) (yieldsIf_load_mid (by rfl) _ _ rfl _ _ rfl DP _ (fun w hSw => hSw.1) Try.underlying37 rfl HL.out) (by assumption) ?_
        (try simp only [Act.put, List.setIfInBounds_toArray, List.set_cons_zero, List.set_cons_succ])
        refine wpAnyH_take (i := 1) (oi := { dst := some 12, op := Op.move (Operand.tmp 0), type := 38, pos := "slices.go:98", after := #[], guard := none }) (v := ?_) rfl (by kernel_rfl) (by kernel_rfl) (by kernel_rfl) (fun _ _ _ h => h) (Or.inl ⟨by rfl, ?_⟩) (by assumption) ?_
        rotate_left 1
        · ((intro w hSw; (try dsimp only at hSw); go_simp) <;> with_reducible rfl)
        (try simp only [Act.put, List.setIfInBounds_toArray, List.set_cons_zero, List.set_cons_succ])
        refine wpAnyH_take (i := 2) (oi := { dst := some 13, op := Op.move (Operand.tmp 5), type := 3, pos := "slices.go:98", after := #[], guard := none }) (v := ?_) rfl (by kernel_rfl) (by kernel_rfl) (by kernel_rfl) (fun _ _ _ h => h) (Or.inl ⟨by rfl, ?_⟩) (by assumption) ?_
        rotate_left 1
        · ((intro w hSw; (try dsimp only at hSw); go_simp) <;> with_reducible rfl)
        (try simp only [Act.put, List.setIfInBounds_toArray, List.set_cons_zero, List.set_cons_succ])
        refine wpAnyH_take (i := 3) (oi := { dst := some 14, op := Op.indexAddr 38 (Operand.tmp 12) (Operand.tmp 13), type := 0, pos := "slices.go:98", after := #[{ on := 1, ground := Ground.data }, { on := 2, ground := Ground.data }], guard := none }) (v := ?_) rfl (by kernel_rfl) (by kernel_rfl) (by kernel_rfl) (fun _ _ _ h => h) (Or.inl ⟨by rfl, ?_⟩) (by assumption) ?_
        rotate_left 1
        · ((intro w hSw; (try dsimp only at hSw); go_simp) <;> with_reducible rfl)
        (try simp only [Act.put, List.setIfInBounds_toArray, List.set_cons_zero, List.set_cons_succ])
        refine' wpAnyH_take (i := 4) (oi := { dst := some 15, op := Op.load 37 (Operand.tmp 14), type := 37, pos := "slices.go:98", after := #[{ on := 3, ground := Ground.data }], guard := none }) (v := _) rfl (by kernel_rfl) (by kernel_rfl) (by kernel_rfl) (fun _ _ _ h => h) (yieldsIf_load_mid (by rfl) _ _ rfl _ _ rfl DQ _ (fun w hSw => hSw.2) Try.underlying37 rfl HL2.out) (by assumption) ?_
        (try simp only [Act.put, List.setIfInBounds_toArray, List.set_cons_zero, List.set_cons_succ])
        refine wpAnyH_take (i := 5) (oi := { dst := some 16, op := Op.binOp BinOp.eql 37 (Operand.tmp 11) (Operand.tmp 15) 37, type := 4, pos := "slices.go:98", after := #[{ on := 0, ground := Ground.data }, { on := 4, ground := Ground.data }], guard := none }) (v := ?_) rfl (by kernel_rfl) (by kernel_rfl) (by kernel_rfl) (fun _ _ _ h => h) (Or.inl ⟨by rfl, ?_⟩) (by assumption) ?_
        rotate_left 1
        · ((intro w hSw; (try dsimp only at hSw); go_simp) <;> with_reducible rfl)
        (try simp only [Act.put, List.setIfInBounds_toArray, List.set_cons_zero, List.set_cons_succ])
        refine wpAnyH_done (by kernel_rfl) ?_ _
        refine NoPanic.normal ?_
        skip
        go_wp2_with fail
        go_roundw
        case rel => exact ⟨k + 1, by go_num, by omega, Lib.hid (fun i hi => by
          rcases Nat.lt_or_ge i k with h1 | h1
          · exact HN.out i h1
          · rw [show i = k by omega]; exact HM.out), Lib.hid (HB.out.drew)⟩
        case measure => simp [intOf]; omega
    · have hkn : k = n := by omega
      subst hkn
      go_wp2_with fail
      go_ret
      refine ⟨-1, rfl, ?_, by rw [HX.out]; exact HB0.out.trans (HB.out.mono (by omega))⟩
      have hno : decide (p ∈ l) = false := decide_eq_false (fun hm => ?_)
      · rw [hno]; decide
      · obtain ⟨i, hi, e⟩ := List.mem_iff_getElem.1 hm
        refine HN.out i (by have := HI.out.len; omega) ?_
        rw [List.getD_eq_getElem?_getD, List.getElem?_eq_getElem hi]; exact e
end Go.Proofs.Ytmcmapgllaopmaa.Cd
end

section
namespace Go.Proofs.Ytmcmapgllaopmaa.Cd
open Go.RowKit
set_option linter.unusedVariables false
set_option maxRecDepth 100000 in
theorem contains_ids (A : Option Addr) (n C : Nat) (l : List (List Int)) (p : List Int) (hp : p.length = 32) (w : World) (h : RdIds w A n C l) (b : Bool) (hb : decide (p ∈ l) = b) :
    Calls Try.prog 102 #[.slice A n C, .agg (bv p).toArray] w fun e w' => e = .returned (.bool b) ∧ Below w.heap.size w w' := by
  have HL := Lib.hid (show (Try.prog.info? 37).map (·.size) = some (bv p).length by rw [bv, List.length_map, hp]; kernel_rfl)
  have HR : Hid ((w.alloc (.cells (bv p).toArray 37)).rangeAt w.heap.size 0 (bv p)) := Lib.hid (fun j v hj => by rw [Nat.zero_add, World.cell?_alloc_new]; simpa using hj)
  have hbA := (Below.refl w.heap.size w).alloc (Nat.le_refl _) (.cells (bv p).toArray 37)
  have HC := Lib.hid (index_ids A n C l p hp _ (h.below hbA))
  have HB0 := Lib.hid hbA
  have hsz := al_lt w (.cells (bv p).toArray 37)
  have HQ := Lib.hid hb
  clear hbA h hp hb
  generalize hDP : bv p = DP at *
  clear hDP
  go_enter Try.func102, Try.ntmps102
  go_wp2_with (refine wpList_load_mid rfl _ _ rfl w.heap.size 0 rfl DP _ HR.out Try.underlying37 rfl HL.out ?_)
  refine HC.out.mono ?_
  rintro e w1 ⟨j, rfl, hj, hb⟩
  rw [HQ.out] at hj
  have HB1 := Lib.hid (HB0.out.trans (hb.mono (Nat.le_of_lt hsz)))
  clear hb HC HR
  cases b
  · have HJ := Lib.hid hj
    clear hj
    go_wp2_with fail
    go_ret
    exact ⟨congrArg (fun b => Ending.returned (.bool b)) HJ.out, HB1.out⟩
  · have hd : 0 ≤ j := of_decide_eq_true hj
    clear hj
    go_wp2_with fail
    go_ret
    exact ⟨rfl, HB1.out⟩
/-- why a parent may not stand behind those ahead -/
def cp (p : List Int) (l : List (List Int)) : Int := if p = List.replicate 32 0 then 1 else if p ∈ l then 18 else 0
set_option maxRecDepth 100000 in
theorem parent_any (p : List Int) (hp : p.length = 32) (A : Option Addr) (n C : Nat) (l : List (List Int)) (w : World) (h : RdIds w A n C l) :
    Calls Try.prog 87 #[.agg (bv p).toArray, .slice A n C] w fun e w' => e = .returned (.int .i64 (cp p l)) ∧ Below w.heap.size w w' := by
  have HL := Lib.hid (show (Try.prog.info? 37).map (·.size) = some (bv p).length by rw [bv, List.length_map, hp]; kernel_rfl)
  have HR : Hid ((w.alloc (.cells (bv p).toArray 37)).rangeAt w.heap.size 0 (bv p)) := Lib.hid (fun j v hj => by rw [Nat.zero_add, World.cell?_alloc_new]; simpa using hj)
  have hbA := (Below.refl w.heap.size w).alloc (Nat.le_refl _) (.cells (bv p).toArray 37)
  have HC := Lib.hid (contains_ids A n C l p hp _ (h.below hbA) _ rfl)
  have HB0 := Lib.hid hbA
  have hsz := al_lt w (.cells (bv p).toArray 37)
  have hq : ∀ W, (Op.equalIn 10000 37 (.agg (bv p).toArray) (.agg #[.int .u8 0, .int .u8 0, .int .u8 0, .int .u8 0, .int .u8 0, .int .u8 0, .int .u8 0, .int .u8 0, .int .u8 0, .int .u8 0, .int .u8 0, .int .u8 0, .int .u8 0, .int .u8 0, .int .u8 0, .int .u8 0, .int .u8 0, .int .u8 0, .int .u8 0, .int .u8 0, .int .u8 0, .int .u8 0, .int .u8 0, .int .u8 0, .int .u8 0, .int .u8 0, .int .u8 0, .int .u8 0, .int .u8 0, .int .u8 0, .int .u8 0, .int .u8 0])).run Try.prog W = .ok (decide (p = List.replicate 32 0)) W := fun W => ids_none p hp W
  clear hbA h hp
  by_cases hz : p = List.replicate 32 0
  · have e1 : cp p l = 1 := if_pos hz
    rw [e1]
    rw [decide_eq_true hz] at hq
    clear e1 hz HC
    generalize hDP : bv p = DP at *
    clear hDP
    go_enter Try.func87, Try.ntmps87
    go_wp2_with (refine wpList_load_mid rfl _ _ rfl w.heap.size 0 rfl DP _ HR.out Try.underlying37 rfl HL.out ?_)
    go_ret
    exact ⟨rfl, HB0.out⟩
  · rw [decide_eq_false hz] at hq
    by_cases hm : p ∈ l
    · have e1 : cp p l = 18 := by unfold cp; rw [if_neg hz, if_pos hm]
      rw [e1]
      rw [decide_eq_true hm] at HC
      clear e1 hz hm
      generalize hDP : bv p = DP at *
      clear hDP
      go_enter Try.func87, Try.ntmps87
      go_wp2_with (refine wpList_load_mid rfl _ _ rfl w.heap.size 0 rfl DP _ HR.out Try.underlying37 rfl HL.out ?_)
      refine HC.out.mono ?_
      rintro e w1 ⟨rfl, hb⟩
      have HB1 := Lib.hid (HB0.out.trans (hb.mono (Nat.le_of_lt hsz)))
      clear hb HC HR
      go_wp2_with fail
      go_ret
      exact ⟨rfl, HB1.out⟩
    · have e1 : cp p l = 0 := by unfold cp; rw [if_neg hz, if_neg hm]
      rw [e1]
      rw [decide_eq_false hm] at HC
      clear e1 hz hm
      generalize hDP : bv p = DP at *
      clear hDP
      go_enter Try.func87, Try.ntmps87
      go_wp2_with (refine wpList_load_mid rfl _ _ rfl w.heap.size 0 rfl DP _ HR.out Try.underlying37 rfl HL.out ?_)
      refine HC.out.mono ?_
      rintro e w1 ⟨rfl, hb⟩
      have HB1 := Lib.hid (HB0.out.trans (hb.mono (Nat.le_of_lt hsz)))
      clear hb HC HR
      go_wp2_with fail
      go_ret
      exact ⟨rfl, HB1.out⟩
end Go.Proofs.Ytmcmapgllaopmaa.Cd
end

section
namespace Go.Proofs.Ytmcmapgllaopmaa.Cd
open Go.RowKit
set_option linter.unusedVariables false
def idsV (l : List (List Int)) : List Value := l.flatMap bv
theorem idsV_get : ∀ (l : List (List Int)), (∀ x ∈ l, x.length = 32) → ∀ i j, i < l.length → j < 32 → (idsV l)[i * 32 + j]? = (bv (l.getD i []))[j]?
  | [], _, i, j, hi, _ => absurd hi (by simp)
  | x :: l, h, 0, j, _, hj => by
    have hx : (bv x).length = 32 := by rw [bv_len, h x (List.mem_cons_self ..)]
    rw [idsV, List.flatMap_cons, List.getElem?_append_left (by omega)]
    simp
  | x :: l, h, i + 1, j, hi, hj => by
    have hx : (bv x).length = 32 := by rw [bv_len, h x (List.mem_cons_self ..)]
    rw [idsV, List.flatMap_cons, List.getElem?_append_right (by omega), show (i + 1) * 32 + j - (bv x).length = i * 32 + j by omega]
    exact idsV_get l (fun y hy => h y (List.mem_cons_of_mem _ hy)) i j (by simpa using hi) hj
theorem rdids_of_own {w : World} {B : Nat} {Ae : Option Addr} {n Ce : Nat} {l : List (List Int)} (h : w.ownsRow B 37 32 (.slice Ae n Ce) n (idsV l)) (hid : ∀ x ∈ l, x.length = 32) (hn : n ≤ 1000000) (he : l.length = n) : RdIds w Ae n Ce l := by
  rcases h.2 with ⟨hv, hz⟩ | ⟨g, cap, cur, hv, hb, hg, hnc, hcm, hcs, htake⟩
  · simp only [Value.slice.injEq] at hv
    obtain ⟨rfl, -, rfl⟩ := hv
    subst hz
    exact ⟨Nat.le_refl _, by omega, hn, he, hid, fun h => absurd h (by omega)⟩
  · simp only [Value.slice.injEq, true_and] at hv
    obtain ⟨rfl, rfl⟩ := hv
    have hcm2 := hcm
    unfold maxLen at hcm2
    refine ⟨hnc, by omega, hn, he, hid, fun h0 => ⟨g, 0, rfl, ?_, fun i hi j v hj => ?_⟩⟩
    · rcases Nat.lt_or_ge g w.heap.size with h | h
      · exact h
      · rw [Array.getElem?_eq_none h] at hg; simp at hg
    · have hx : (bv (l.getD i [])).length = 32 := by rw [bv_len, hid _ (getD_mem (by omega))]
      have hj2 : j < 32 := by have := (List.getElem?_eq_some_iff.1 hj).1; omega
      rw [Nat.zero_add, World.ownsRow.cellAt h _ (by omega), idsV_get l hid i j (by omega) hj2]
      exact hj
theorem info37 : (Try.prog.info? 37).map (fun i => (i.zero, i.size, i.bytes)) = some (some (.agg (bv (List.replicate 32 0)).toArray), 32, 32) := by kernel_rfl
theorem wpList_build_id (w : World) {ops : Array Oper} {rest : List Oper} {o : Oper} {a : Act} {Q : Exit → Act → World → Prop} (hgd : o.guard = none) (x : Operand)
    (ho : o.op = .buildSlice 38 1 #[(0, x)]) (cs : List Value) (hx : a.eval x = .agg cs.toArray) (hl : cs.length = 32)
    (h : wpList Try.prog ops Q rest (a.put o.dst (.slice (some ⟨w.heap.size, 0, none⟩) 1 1)) (w.alloc (.cells cs.toArray 37))) : wpList Try.prog ops Q (o :: rest) a w := by
  obtain ⟨i0, hi, hz0, hz1, hz2⟩ := info_parts info37
  refine wpList_buildSlice hgd 38 37 1 #[(0, x)] ho cs.toArray i0 _ Try.underlying38 hi hz0 (by rw [hz1]; decide) (by rw [hz1]; decide) ?_ h
  rw [hz1]
  have := Great.fill_whole (s := 32) (by decide) [Value.agg cs.toArray] ((Array.range (1 * 32)).map ((Value.agg (bv (List.replicate 32 0)).toArray).cells[· % (Value.agg (bv (List.replicate 32 0)).toArray).cells.size]!)) (by simp [Value.cells, hl]) (by simp)
  simpa [hx, Value.cells] using this
/-- one Id more behind a row of one's own -/
theorem wpList_append_id (w : World) {ops : Array Oper} {rest : List Oper} {o : Oper} {a : Act} {Q : Exit → Act → World → Prop} (hgd : o.guard = none) (s x : Operand)
    (ho : o.op = .call { callee := .builtin .append, args := #[s, x], argTypes := #[38, 38] })
    (B : Nat) (v : Value) (n : Nat) (d : List (List Int)) (hs : a.eval s = v) (hown : w.ownsRow B 37 32 v n (idsV d))
    (g : Nat) (y : List Int) (hx : a.eval x = .slice (some ⟨g, 0, none⟩) 1 1) (hy : ∀ j u, (bv y)[j]? = some u → w.cell? ((⟨g, 0, none⟩ : Addr).add j) = some u) (hyl : (bv y).length = 32)
    (hn : n ≤ 1000000) (hbase : B ≤ w.heap.size)
    (h : ∀ A' C' w', w'.ownsRow B 37 32 (.slice A' (n + 1) C') (n + 1) (idsV (d ++ [y])) → w.grownBy w' v.ownBlock → wpList Try.prog ops Q rest (a.put o.dst (.slice A' (n + 1) C')) w') : wpList Try.prog ops Q (o :: rest) a w := by
  refine wpList_plain hgd fun K hK => ?_
  obtain ⟨i0, hi, hz0, hz1, hz2⟩ := info_parts info37
  obtain ⟨v', w', hr, h2, h3, h4⟩ := run_append_own (P := Try.prog) w B 38 o.type 37 i0 (.agg (bv (List.replicate 32 0)).toArray) 32 32 Try.underlying38 hi hz0 hz1 hz2 (by simp [Value.cells, bv]) (by decide) v n (idsV d) hown ⟨g, 0, none⟩ 1 1 (bv y) (by rw [hyl]) hy (bv_one y) (by unfold maxLen; omega) (by omega) hbase
  obtain ⟨A', C', rfl⟩ := own_slice' h2
  unfold Oper.wp execOp
  simp only [ho, resolve, invoke, builtin, Sem.run_bind, Sem.run_pure, Result.andThen_ok, List.map_toArray, List.map_cons, List.map_nil, hs, hx, hr]
  exact hK _ _ (h A' C' w' (by rw [show idsV (d ++ [y]) = idsV d ++ bv y from by simp [idsV]]; exact h2) h3)
theorem new_id (w : World) (y : List Int) (t : TypeId) : ∀ j u, (bv y)[j]? = some u → (w.alloc (.cells (bv y).toArray t)).cell? ((⟨w.heap.size, 0, none⟩ : Addr).add j) = some u := by
  intro j u hj
  rw [show Addr.add ⟨w.heap.size, 0, none⟩ j = (⟨w.heap.size, j, none⟩ : Addr) from by unfold Addr.add; split <;> simp_all, World.cell?_alloc_new]
  simpa using hj
/-- the parents told: how many, where the reader is, what failed -/
def pL (l : List Int) (L : Nat) : Nat → Int → Nat → List (List Int) → Int × Nat × List (List Int)
  | 0, f, a, ids => (f, a, ids)
  | n + 1, f, a, ids => if f = 0 then pL l L n (fl (tkF f a L 32) (cp (idv (tkL f l a L 32)) ids)) (tkA f a L 32) (ids ++ [idv (tkL f l a L 32)]) else (f, a, ids)
def paM (f : Int) (l : List Int) (a L : Nat) : Nat := (nv (tkL f l a L 1)).toNat
def pa2 (f : Int) (l : List Int) (a L : Nat) : Int := if 8 < paM f l a L then fl (tkF f a L 1) 4 else tkF f a L 1
def pa (f : Int) (l : List Int) (a L : Nat) : Int × Nat × List (List Int) := pL l L (paM f l a L) (pa2 f l a L) (tkA f a L 1) []
end Go.Proofs.Ytmcmapgllaopmaa.Cd
end

section
namespace Go.Proofs.Ytmcmapgllaopmaa.Cd
open Go.RowKit
set_option linter.unusedVariables false
/-- the parents told, and the reader behind -/
def ParRet (R : Nat) (A : Option Addr) (L C : Nat) (l : List Int) (at' : Nat) (f : Int) (E : Nat → Value) (w : World) (e : Ending) (w' : World) : Prop :=
  (∀ x ∈ (pa f l at' L).2.2, x.length = 32) ∧ Rdr w' R 3 110 A L C l (pa f l at' L).2.1 (pa f l at' L).1 E ∧ w.grownBy w' (some R) ∧
  ∃ Ai Ci, e = .returned (.slice Ai (pa f l at' L).2.2.length Ci) ∧ w'.ownsRow w.heap.size 37 32 (.slice Ai (pa f l at' L).2.2.length Ci) (pa f l at' L).2.2.length (idsV (pa f l at' L).2.2)
set_option maxRecDepth 100000 in
set_option maxHeartbeats 4000000 in
theorem parents_any (R : Nat) (A : Option Addr) (L C : Nat) (l : List Int) (at' : Nat) (f : Int) (E : Nat → Value) (w : World) (h : Rdr w R 3 110 A L C l at' f E) :
    Calls Try.prog 88 #[.pointer (some ⟨R, 0, none⟩)] w (ParRet R A L C l at' f E w) := by
  have hRl := h.row.lt
  have HAB : Hid (∀ x, A = some x → 0 < L → x.block < w.heap.size) := Lib.hid (fun x hx h0 => (h.rd.cell x hx).1 h0)
  have HNu := Lib.hid (number_r R 3 110 A L C l at' f E 1 w h (by omega))
  obtain ⟨b0, b1⟩ := tkL_one f l at' L h.rd.len h.rd.byte
  have hm : nv (tkL f l at' L 1) = ((paM f l at' L : Nat) : Int) := by unfold paM; omega
  have hmb : paM f l at' L ≤ 255 := by omega
  have hpa : pa f l at' L = pL l L (paM f l at' L) (pa2 f l at' L) (tkA f at' L 1) [] := rfl
  have hpa2 : pa2 f l at' L = if 8 < paM f l at' L then fl (tkF f at' L 1) 4 else tkF f at' L 1 := rfl
  rw [show ((1 : Nat) : Int) = 1 from rfl] at HNu
  rw [hm] at HNu
  clear hm b0 b1 h
  generalize paM f l at' L = m at *
  generalize pa2 f l at' L = F2 at *
  have HPa := Lib.hid hpa
  have HF2 := Lib.hid hpa2
  clear hpa hpa2
  have hz := zero32
  have hZl : (bv (List.replicate 32 0)).toArray.size = 32 := by simp [bv]
  generalize (bv (List.replicate 32 0)).toArray = ZI at *
  have HZl := Lib.hid hZl
  clear hZl
  go_enter Try.func88, Try.ntmps88
  go_wp2_with fail
  refine HNu.out.mono ?_
  rintro e w1 ⟨rfl, hR, hg⟩
  generalize tkA f at' L 1 = A1 at *
  generalize tkF f at' L 1 = F1 at *
  by_cases h8 : 8 < m
  · have hd8 : (8 : Int) < (m : Int) := by omega
    have HFm := Lib.hid (fail_any R 3 110 A L C l A1 F1 4 E w1 hR)
    have HG1 := Lib.hid hg
    have hF := HF2.out
    rw [if_pos h8] at hF
    rw [← hF] at HFm
    clear hR hg HNu hF HF2
    go_wp2_with fail
    refine HFm.out.mono ?_
    rintro e w2 ⟨rfl, hR2, hg2⟩
    have HR := Lib.hid hR2
    have HG := Lib.hid (grown_trans HG1.out hg2)
    clear hR2 hg2 HFm HG1 hd8 h8
    go_wp2_with fail
    go_loopw [4, 5] (fun s4 s5 wr => ∃ (k : Nat) (Ai : Option Addr) (Ci : Nat) (ids : List (List Int)) (fr : Int) (ar : Nat), s5 = .int .i64 k ∧ s4 = .slice Ai k Ci ∧ k ≤ m ∧ Hid (ids.length = k) ∧ Hid (∀ x ∈ ids, x.length = 32) ∧ Hid (pL l L (m - k) fr ar ids = pa f l at' L) ∧ Hid (wr.ownsRow w.heap.size 37 32 (.slice Ai k Ci) k (idsV ids)) ∧ Hid (Rdr wr R 3 110 A L C l ar fr E) ∧ Hid (w.grownBy wr (some R))) (fun _ s5 _ => m - (intOf s5).toNat)
    case atStart => exact ⟨0, none, 0, [], F2, A1, rfl, rfl, by omega, Lib.hid rfl, Lib.hid (by simp), Lib.hid (by rw [HPa.out]; rfl), Lib.hid ⟨by simp [idsV], .inl ⟨rfl, rfl⟩⟩, HR, HG⟩
    case round =>
      clear HR HG
      obtain ⟨k, Ai, Ci, ids, fr, ar, rfl, rfl, hk, HIl, HI32, HP, HO, HR, HG⟩ := hrel
      by_cases hkm : k < m
      · have HOk := Lib.hid (ok_any R 3 110 A L C l ar fr E wr HR.out)
        have hp := HP.out
        obtain ⟨j, hj⟩ : ∃ j, m - k = j + 1 := ⟨m - k - 1, by omega⟩
        rw [hj, pL] at hp
        by_cases h0 : fr = 0
        · have hd : (fr == 0) = true := by simp [h0]
          rw [if_pos h0] at hp
          have HP2 := Lib.hid hp
          have HId := Lib.hid (id_r R 3 110 A L C l ar fr E wr HR.out)
          obtain ⟨p, hpp⟩ : ∃ p, p = idv (tkL fr l ar L 32) := ⟨_, rfl⟩
          rw [← hpp] at HId HP2
          have hpl : p.length = 32 := by
            rw [hpp]
            refine idv_len _ ?_
            unfold tkL
            split
            · rw [List.length_take]; omega
            · simp
          have HPl := Lib.hid hpl
          clear hp h0 hpp hpl HP
          go_wp2_with fail
          refine HOk.out.mono ?_
          rintro e w3 ⟨rfl, rfl⟩
          clear HOk
          go_wp2_with fail
          refine HId.out.mono ?_
          rintro e w4 ⟨rfl, hR4, hg4⟩
          have hbA := (Below.refl w4.heap.size w4).alloc (Nat.le_refl _) (.cells ZI 37)
          have hrow := row_new w4 ZI 37
          rw [HZl.out] at hrow
          have hbl : (bv p).length = 32 := by rw [bv_len, HPl.out]
          have hRw := HR.out.row.lt
          have hszg := hg4.size
          have hwg := HG.out.size
          have hapt : ∀ x, A = some x → 0 < L → x.block ≠ w4.heap.size := fun x hx h0 => by have := HAB.out x hx h0; omega
          have HSz2 : Hid ((Try.prog.info? 37).map (·.size) = some (bv p).toArray.size) := Lib.hid (by rw [List.size_toArray, hbl]; kernel_rfl)
          have HSz1 : Hid ((Try.prog.info? 37).map (·.size) = some (bv p).length) := Lib.hid (by rw [hbl]; kernel_rfl)
          have HOne := Lib.hid (all_oneCell_toArray (bv_one p))
          have HTh : Hid ((w4.alloc (.cells ZI 37)).there w4.heap.size 0 (bv p).toArray.size) := Lib.hid (fun j hj => by
            rw [List.size_toArray, hbl] at hj
            rw [Nat.zero_add]
            exact ⟨by rw [hrow.cell hj]; rfl, hrow.frozen _⟩)
          have HX5 : Hid (((w4.alloc (.cells ZI 37)).setCells w4.heap.size 0 (bv p)).rangeAt w4.heap.size 0 (bv p)) := Lib.hid (fun j v hj => by
            have hl := (List.getElem?_eq_some_iff.1 hj).1
            rw [Nat.zero_add, (row_lay hrow 0 (bv p)).cell (by omega), layF, if_pos (by omega)]
            simp [hj, List.getD])
          have HR5 := Lib.hid (Rdr.laid (X := w4.heap.size) (by omega) (bv p) 0 _ hapt (hR4.below hbA))
          have HO4 := own_grown HO.out hg4 (fun e => by have := (HO.out.lt R e).1; omega)
          have HO5 := Lib.hid (own_grown (own_keep HO4 hbA) (grown_cells _ w4.heap.size (bv p) 0) (fun e => by have := (HO4.lt _ e).2; omega))
          have HG5 : Hid (w.grownBy ((w4.alloc (.cells ZI 37)).setCells w4.heap.size 0 (bv p)) (some R)) := Lib.hid (by
            have h1 := grown_trans HG.out hg4
            have h2 : w4.grownBy (w4.alloc (.cells ZI 37)) (some R) := ⟨hbA.os, hbA.tape, hbA.output, hbA.size, fun i hi _ => hbA.block i hi⟩
            exact grown_laid (by omega) (bv p) 0 _ (grown_trans h1 h2))
          have hX5 : w4.heap.size < ((w4.alloc (.cells ZI 37)).setCells w4.heap.size 0 (bv p)).heap.size := (row_lay hrow 0 (bv p)).lt
          have hRX : R < w4.heap.size := hR4.row.lt
          have hwX : w.heap.size ≤ w4.heap.size := by omega
          have HBl := Lib.hid hbl
          clear hbA hrow hR4 hg4 hapt HO4 HO HR HG HId hRw hszg hwg hbl
          generalize hDP : bv p = DP at *
          have HDP := Lib.hid hDP
          clear hDP
          go_upto_region 9 with (refine wpList_store_mid rfl _ _ _ rfl w4.heap.size 0 DP.toArray rfl rfl HTh.out HSz2.out HOne.out ?_)
          change Code.wp _ _ _ _ ((w4.alloc (.cells ZI 37)).setCells w4.heap.size 0 DP)
          clear HTh HSz2 HOne
          generalize (w4.alloc (.cells ZI 37)).setCells w4.heap.size 0 DP = w5 at *
          generalize hX : w4.heap.size = X at *
          clear hX
          have HRi := rdids_of_own (World.ownsRow.drew HO5.out) HI32.out (by omega) HIl.out
          have HPa2 := Lib.hid (parent_any p HPl.out Ai k Ci ids w5.drew HRi)
          rw [HDP.out] at HPa2
          obtain ⟨c, hc⟩ : ∃ c, c = cp p ids := ⟨_, rfl⟩
          rw [← hc] at HPa2 HP2
          have dX : Hid (w5.drew.rangeAt X 0 DP) := Lib.hid HX5.out
          have dR := Lib.hid (HR5.out.drewN 1)
          have dO := Lib.hid HO5.out.drew
          have dG : Hid (w.grownBy w5.drew (some R)) := Lib.hid ⟨HG5.out.os, HG5.out.tape, HG5.out.output, HG5.out.size, HG5.out.block⟩
          have hXs : X < w5.drew.heap.size := hX5
          clear hc HRi HX5 HR5 HO5 HG5 hX5
          refine wp_region_noPanic ?_
          refine wp_region_held_drew (S := (fun wS => wS.rangeAt X 0 DP)) (by kernel_rfl) ?_ (fun hHeld => ?_)
          · ((try dsimp only); exact dX.out)
          refine wpAnyH_take (i := 0) (oi := { dst := some 32, op := Op.move (Operand.tmp 0), type := 108, pos := "commit.go:91", after := #[], guard := none }) (v := ?_) rfl (by kernel_rfl) (by kernel_rfl) (by kernel_rfl) (fun _ _ _ h => h) (Or.inl ⟨by rfl, ?_⟩) (by assumption) ?_
          rotate_left 1
          · ((intro w hSw; (try dsimp only at hSw); go_simp) <;> with_reducible rfl)
          (try simp only [Act.put, List.setIfInBounds_toArray, List.set_cons_zero, List.set_cons_succ])
          refine wpAnyH_take (i := 1) (oi := { dst := some 33, op := Op.nilCheck (Operand.tmp 32), type := 0, pos := "commit.go:91", after := #[{ on := 0, ground := Ground.data }], guard := none }) (v := ?_) rfl (by kernel_rfl) (by kernel_rfl) (by kernel_rfl) (fun _ _ _ h => h) (Or.inl ⟨by rfl, ?_⟩) (by assumption) ?_
          rotate_left 1
          · ((intro w hSw; (try dsimp only at hSw); go_simp) <;> with_reducible rfl)
          (try simp only [Act.put, List.setIfInBounds_toArray, List.set_cons_zero, List.set_cons_succ])
          refine wpAnyH_take (i := 2) (oi := { dst := some 34, op := Op.fieldAddr 110 (Operand.tmp 33) 0, type := 0, pos := "commit.go:91", after := #[{ on := 1, ground := Ground.data }], guard := none }) (v := ?_) rfl (by kernel_rfl) (by kernel_rfl) (by kernel_rfl) (fun _ _ _ h => h) (Or.inl ⟨by rfl, ?_⟩) (by assumption) ?_
          rotate_left 1
          · ((intro w hSw; (try dsimp only at hSw); go_simp) <;> with_reducible rfl)
          (try simp only [Act.put, List.setIfInBounds_toArray, List.set_cons_zero, List.set_cons_succ])
          refine' wpAnyH_take (i := 3) (oi := { dst := some 35, op := Op.load 37 (Operand.tmp 6), type := 37, pos := "commit.go:91", after := #[], guard := none }) (v := _) rfl (by kernel_rfl) (by kernel_rfl) (by kernel_rfl) (fun _ _ _ h => h) (yieldsIf_load_mid (by rfl) _ _ rfl _ _ rfl DP _ (fun w hSw => hSw) Try.underlying37 rfl HSz1.out) (by assumption) ?_
          (try simp only [Act.put, List.setIfInBounds_toArray, List.set_cons_zero, List.set_cons_succ])
          refine wpAnyH_take (i := 4) (oi := { dst := some 36, op := Op.move (Operand.tmp 4), type := 38, pos := "commit.go:91", after := #[], guard := none }) (v := ?_) rfl (by kernel_rfl) (by kernel_rfl) (by kernel_rfl) (fun _ _ _ h => h) (Or.inl ⟨by rfl, ?_⟩) (by assumption) ?_
          rotate_left 1
          · ((intro w hSw; (try dsimp only at hSw); go_simp) <;> with_reducible rfl)
          (try simp only [Act.put, List.setIfInBounds_toArray, List.set_cons_zero, List.set_cons_succ])
          refine wpAnyH_ready (rs := [5]) (by kernel_rfl) (by simp) ?_
          refine AllReadyH.cons (o := { dst := some 37, op := Op.call { callee := Callee.value (Operand.func 87), args := #[Operand.tmp 35, Operand.tmp 36], argTypes := #[37, 38] }, type := 25, pos := "commit.go:91", after := #[{ on := 3, ground := Ground.data }, { on := 4, ground := Ground.data }], guard := none }) rfl (fun K hK => ?_) ?_
          · go_simp
            refine HPa2.out.mono ?_
            rintro e wB ⟨rfl, hb⟩
            have eX := Lib.hid (range_below hb dX.out hXs)
            have eR := Lib.hid (dR.out.below hb)
            have eO := Lib.hid (own_keep dO.out hb)
            have eG : Hid (w.grownBy wB (some R)) := Lib.hid (grown_trans dG.out ⟨hb.os, hb.tape, hb.output, hb.size, fun i hi _ => hb.block i hi⟩)
            have eXs := Nat.lt_of_lt_of_le hXs hb.size
            clear dX dR dO dG hXs hb HPa2
            have dX := eX
            have dR := eR
            have dO := eO
            have dG := eG
            have hXs := eXs
            clear eX eR eO eG eXs
            have HFm := Lib.hid (fail_any R 3 110 A L C l _ _ c E wB dR.out)
            (try go_wp2_with fail)
            refine hK.out _ _ ?_ (fun hNew => ?_)
            · ((try dsimp only); exact dX.out)
            clear hK K hHeld
            have hHeld := hNew
            clear hNew
            (try simp only [Act.put, List.setIfInBounds_toArray, List.set_cons_zero, List.set_cons_succ])
            refine wpAnyH_ready (rs := [6]) (by kernel_rfl) (by simp) ?_
            refine AllReadyH.cons (o := { dst := some 38, op := Op.call { callee := Callee.value (Operand.func 85), args := #[Operand.tmp 34, Operand.tmp 37], argTypes := #[94, 25] }, type := 0, pos := "commit.go:91", after := #[{ on := 2, ground := Ground.data }, { on := 5, ground := Ground.data }, { on := 5, ground := Ground.chain }], guard := none }) rfl (fun K hK => ?_) ?_
            · go_simp
              refine HFm.out.mono ?_
              rintro e wC ⟨rfl, hR, hg⟩
              have eX := Lib.hid (range_grown dX.out hg hXs (by omega))
              have eR := Lib.hid hR
              have eO := Lib.hid (own_grown dO.out hg (fun e => by have := (dO.out.lt R e).1; omega))
              have eG := Lib.hid (grown_trans dG.out hg)
              have eXs := Nat.lt_of_lt_of_le hXs hg.size
              clear dX dR dO dG hXs hR hg HFm
              have dX := eX
              have dR := eR
              have dO := eO
              have dG := eG
              have hXs := eXs
              clear eX eR eO eG eXs
              (try go_wp2_with fail)
              refine hK.out _ _ ?_ (fun hNew => ?_)
              · ((try dsimp only); exact dX.out)
              clear hK K hHeld
              have hHeld := hNew
              clear hNew
              (try simp only [Act.put, List.setIfInBounds_toArray, List.set_cons_zero, List.set_cons_succ])
              refine wpAnyH_done (by kernel_rfl) ?_ _
              refine NoPanic.normal ?_
              clear hHeld
              have hn := new_id wC p 37
              rw [HDP.out] at hn
              have HN : Hid (∀ j u, (bv p)[j]? = some u → (wC.alloc (.cells DP.toArray 37)).cell? ((⟨wC.heap.size, 0, none⟩ : Addr).add j) = some u) := Lib.hid (fun j u hj => hn j u (by rw [← HDP.out]; exact hj))
              have hA := (Below.refl wC.heap.size wC).alloc (Nat.le_refl _) (.cells DP.toArray 37)
              have aO := Lib.hid (own_keep dO.out hA)
              have aR := Lib.hid (dR.out.below hA)
              have aG : Hid (w.grownBy (wC.alloc (.cells DP.toArray 37)) (some R)) := Lib.hid (grown_trans dG.out ⟨hA.os, hA.tape, hA.output, hA.size, fun i hi _ => hA.block i hi⟩)
              have aB : Hid (w.heap.size ≤ (wC.alloc (.cells DP.toArray 37)).heap.size) := Lib.hid aG.out.size
              have HBp : Hid ((bv p).length = 32) := Lib.hid (by rw [HDP.out]; exact HBl.out)
              clear hn hA dO dR dG
              go_wp2_with (first
                | (refine wpList_load_mid rfl _ _ rfl X 0 rfl DP _ dX.out Try.underlying37 rfl HSz1.out ?_)
                | (refine wpList_build_id _ rfl (.tmp 40) rfl DP rfl HBl.out ?_)
                | (at_builtin; refine wpList_append_id _ rfl (.tmp 39) (.tmp 41) rfl w.heap.size (.slice Ai k Ci) k ids rfl aO.out wC.heap.size p rfl HN.out HBp.out (by omega) aB.out ?_))
              intro A9 C9 wE hoE hgE
              have eB : Below w.heap.size (wC.alloc (.cells DP.toArray 37)) wE := (Below.refl _ _).grown hgE aB.out (fun j hj => (aO.out.lt j hj).1)
              have eR := Lib.hid (aR.out.belowB eB hRl HAB.out)
              have eG : Hid (w.grownBy wE (some R)) := Lib.hid ⟨eB.os.trans aG.out.os, eB.tape.trans aG.out.tape, eB.output.trans aG.out.output, Nat.le_trans aG.out.size eB.size, fun i hi hne => (eB.block i hi).trans (aG.out.block i hi hne)⟩
              have eO := Lib.hid hoE
              clear hoE hgE eB aO aR aG aB HN
              go_wp2_with fail
              go_roundw
              case rel => exact ⟨k + 1, A9, C9, ids ++ [p], _, _, by go_num, rfl, by omega, Lib.hid (by simp [HIl.out]), Lib.hid (fun y hy => by
                rcases List.mem_append.1 hy with hy | hy
                · exact HI32.out y hy
                · rw [List.mem_singleton.1 hy]; exact HPl.out), Lib.hid (by rw [show m - (k + 1) = j by omega]; exact HP2.out), eO, eR, eG⟩
              case measure => simp [intOf]; omega
            exact AllReadyH.nil
          exact AllReadyH.nil
        · have hd : (fr == 0) = false := by simp [h0]
          rw [if_neg h0] at hp
          have HP2 := Lib.hid hp
          clear hp h0 HP
          go_wp2_with fail
          refine HOk.out.mono ?_
          rintro e w3 ⟨rfl, rfl⟩
          clear HOk
          go_wp2_with fail
          go_ret
          unfold ParRet
          rw [← HP2.out]
          dsimp only
          exact ⟨HI32.out, HR.out, HG.out, Ai, Ci, by rw [HIl.out]; rfl, by rw [HIl.out]; exact HO.out⟩
      · have hp := HP.out
        rw [show m - k = 0 by omega, pL] at hp
        have HP2 := Lib.hid hp
        clear hp HP
        go_wp2_with fail
        go_ret
        unfold ParRet
        rw [← HP2.out]
        dsimp only
        exact ⟨HI32.out, HR.out, HG.out, Ai, Ci, by rw [HIl.out]; rfl, by rw [HIl.out]; exact HO.out⟩
  · have hd8 : ¬ (8 : Int) < (m : Int) := by omega
    have hF := HF2.out
    rw [if_neg h8] at hF
    rw [← hF] at hR
    have HR := Lib.hid hR
    have HG := Lib.hid hg
    clear hR hg HNu hF HF2
    go_wp2_with fail
    go_loopw [4, 5] (fun s4 s5 wr => ∃ (k : Nat) (Ai : Option Addr) (Ci : Nat) (ids : List (List Int)) (fr : Int) (ar : Nat), s5 = .int .i64 k ∧ s4 = .slice Ai k Ci ∧ k ≤ m ∧ Hid (ids.length = k) ∧ Hid (∀ x ∈ ids, x.length = 32) ∧ Hid (pL l L (m - k) fr ar ids = pa f l at' L) ∧ Hid (wr.ownsRow w.heap.size 37 32 (.slice Ai k Ci) k (idsV ids)) ∧ Hid (Rdr wr R 3 110 A L C l ar fr E) ∧ Hid (w.grownBy wr (some R))) (fun _ s5 _ => m - (intOf s5).toNat)
    case atStart => exact ⟨0, none, 0, [], F2, A1, rfl, rfl, by omega, Lib.hid rfl, Lib.hid (by simp), Lib.hid (by rw [HPa.out]; rfl), Lib.hid ⟨by simp [idsV], .inl ⟨rfl, rfl⟩⟩, HR, HG⟩
    case round =>
      clear HR HG
      obtain ⟨k, Ai, Ci, ids, fr, ar, rfl, rfl, hk, HIl, HI32, HP, HO, HR, HG⟩ := hrel
      by_cases hkm : k < m
      · have HOk := Lib.hid (ok_any R 3 110 A L C l ar fr E wr HR.out)
        have hp := HP.out
        obtain ⟨j, hj⟩ : ∃ j, m - k = j + 1 := ⟨m - k - 1, by omega⟩
        rw [hj, pL] at hp
        by_cases h0 : fr = 0
        · have hd : (fr == 0) = true := by simp [h0]
          rw [if_pos h0] at hp
          have HP2 := Lib.hid hp
          have HId := Lib.hid (id_r R 3 110 A L C l ar fr E wr HR.out)
          obtain ⟨p, hpp⟩ : ∃ p, p = idv (tkL fr l ar L 32) := ⟨_, rfl⟩
          rw [← hpp] at HId HP2
          have hpl : p.length = 32 := by
            rw [hpp]
            refine idv_len _ ?_
            unfold tkL
            split
            · rw [List.length_take]; omega
            · simp
          have HPl := Lib.hid hpl
          clear hp h0 hpp hpl HP
          go_wp2_with fail
          refine HOk.out.mono ?_
          rintro e w3 ⟨rfl, rfl⟩
          clear HOk
          go_wp2_with fail
          refine HId.out.mono ?_
          rintro e w4 ⟨rfl, hR4, hg4⟩
          have hbA := (Below.refl w4.heap.size w4).alloc (Nat.le_refl _) (.cells ZI 37)
          have hrow := row_new w4 ZI 37
          rw [HZl.out] at hrow
          have hbl : (bv p).length = 32 := by rw [bv_len, HPl.out]
          have hRw := HR.out.row.lt
          have hszg := hg4.size
          have hwg := HG.out.size
          have hapt : ∀ x, A = some x → 0 < L → x.block ≠ w4.heap.size := fun x hx h0 => by have := HAB.out x hx h0; omega
          have HSz2 : Hid ((Try.prog.info? 37).map (·.size) = some (bv p).toArray.size) := Lib.hid (by rw [List.size_toArray, hbl]; kernel_rfl)
          have HSz1 : Hid ((Try.prog.info? 37).map (·.size) = some (bv p).length) := Lib.hid (by rw [hbl]; kernel_rfl)
          have HOne := Lib.hid (all_oneCell_toArray (bv_one p))
          have HTh : Hid ((w4.alloc (.cells ZI 37)).there w4.heap.size 0 (bv p).toArray.size) := Lib.hid (fun j hj => by
            rw [List.size_toArray, hbl] at hj
            rw [Nat.zero_add]
            exact ⟨by rw [hrow.cell hj]; rfl, hrow.frozen _⟩)
          have HX5 : Hid (((w4.alloc (.cells ZI 37)).setCells w4.heap.size 0 (bv p)).rangeAt w4.heap.size 0 (bv p)) := Lib.hid (fun j v hj => by
            have hl := (List.getElem?_eq_some_iff.1 hj).1
            rw [Nat.zero_add, (row_lay hrow 0 (bv p)).cell (by omega), layF, if_pos (by omega)]
            simp [hj, List.getD])
          have HR5 := Lib.hid (Rdr.laid (X := w4.heap.size) (by omega) (bv p) 0 _ hapt (hR4.below hbA))
          have HO4 := own_grown HO.out hg4 (fun e => by have := (HO.out.lt R e).1; omega)
          have HO5 := Lib.hid (own_grown (own_keep HO4 hbA) (grown_cells _ w4.heap.size (bv p) 0) (fun e => by have := (HO4.lt _ e).2; omega))
          have HG5 : Hid (w.grownBy ((w4.alloc (.cells ZI 37)).setCells w4.heap.size 0 (bv p)) (some R)) := Lib.hid (by
            have h1 := grown_trans HG.out hg4
            have h2 : w4.grownBy (w4.alloc (.cells ZI 37)) (some R) := ⟨hbA.os, hbA.tape, hbA.output, hbA.size, fun i hi _ => hbA.block i hi⟩
            exact grown_laid (by omega) (bv p) 0 _ (grown_trans h1 h2))
          have hX5 : w4.heap.size < ((w4.alloc (.cells ZI 37)).setCells w4.heap.size 0 (bv p)).heap.size := (row_lay hrow 0 (bv p)).lt
          have hRX : R < w4.heap.size := hR4.row.lt
          have hwX : w.heap.size ≤ w4.heap.size := by omega
          have HBl := Lib.hid hbl
          clear hbA hrow hR4 hg4 hapt HO4 HO HR HG HId hRw hszg hwg hbl
          generalize hDP : bv p = DP at *
          have HDP := Lib.hid hDP
          clear hDP
          go_upto_region 9 with (refine wpList_store_mid rfl _ _ _ rfl w4.heap.size 0 DP.toArray rfl rfl HTh.out HSz2.out HOne.out ?_)
          change Code.wp _ _ _ _ ((w4.alloc (.cells ZI 37)).setCells w4.heap.size 0 DP)
          clear HTh HSz2 HOne
          generalize (w4.alloc (.cells ZI 37)).setCells w4.heap.size 0 DP = w5 at *
          generalize hX : w4.heap.size = X at *
          clear hX
          have HRi := rdids_of_own (World.ownsRow.drew HO5.out) HI32.out (by omega) HIl.out
          have HPa2 := Lib.hid (parent_any p HPl.out Ai k Ci ids w5.drew HRi)
          rw [HDP.out] at HPa2
          obtain ⟨c, hc⟩ : ∃ c, c = cp p ids := ⟨_, rfl⟩
          rw [← hc] at HPa2 HP2
          have dX : Hid (w5.drew.rangeAt X 0 DP) := Lib.hid HX5.out
          have dR := Lib.hid (HR5.out.drewN 1)
          have dO := Lib.hid HO5.out.drew
          have dG : Hid (w.grownBy w5.drew (some R)) := Lib.hid ⟨HG5.out.os, HG5.out.tape, HG5.out.output, HG5.out.size, HG5.out.block⟩
          have hXs : X < w5.drew.heap.size := hX5
          clear hc HRi HX5 HR5 HO5 HG5 hX5
          refine wp_region_noPanic ?_
          refine wp_region_held_drew (S := (fun wS => wS.rangeAt X 0 DP)) (by kernel_rfl) ?_ (fun hHeld => ?_)
          · ((try dsimp only); exact dX.out)
          refine wpAnyH_take (i := 0) (oi := { dst := some 32, op := Op.move (Operand.tmp 0), type := 108, pos := "commit.go:91", after := #[], guard := none }) (v := ?_) rfl (by kernel_rfl) (by kernel_rfl) (by kernel_rfl) (fun _ _ _ h => h) (Or.inl ⟨by rfl, ?_⟩) (by assumption) ?_
          rotate_left 1
          · ((intro w hSw; (try dsimp only at hSw); go_simp) <;> with_reducible rfl)
          (try simp only [Act.put, List.setIfInBounds_toArray, List.set_cons_zero, List.set_cons_succ])
          refine wpAnyH_take (i := 1) (oi := { dst := some 33, op := Op.nilCheck (Operand.tmp 32), type := 0, pos := "commit.go:91", after := #[{ on := 0, ground := Ground.data }], guard := none }) (v := ?_) rfl (by kernel_rfl) (by kernel_rfl) (by kernel_rfl) (fun _ _ _ h => h) (Or.inl ⟨by rfl, ?_⟩) (by assumption) ?_
          rotate_left 1
          · ((intro w hSw; (try dsimp only at hSw); go_simp) <;> with_reducible rfl)
          (try simp only [Act.put, List.setIfInBounds_toArray, List.set_cons_zero, List.set_cons_succ])
          refine wpAnyH_take (i := 2) (oi := { dst := some 34, op := Op.fieldAddr 110 (Operand.tmp 33) 0, type := 0, pos := "commit.go:91", after := #[{ on := 1, ground := Ground.data }], guard := none }) (v := ?_) rfl (by kernel_rfl) (by kernel_rfl) (by kernel_rfl) (fun _ _ _ h => h) (Or.inl ⟨by rfl, ?_⟩) (by assumption) ?_
          rotate_left 1
          · ((intro w hSw; (try dsimp only at hSw); go_simp) <;> with_reducible rfl)
          (try simp only [Act.put, List.setIfInBounds_toArray, List.set_cons_zero, List.set_cons_succ])
          refine' wpAnyH_take (i := 3) (oi := { dst := some 35, op := Op.load 37 (Operand.tmp 6), type := 37, pos := "commit.go:91", after := #[], guard := none }) (v := _) rfl (by kernel_rfl) (by kernel_rfl) (by kernel_rfl) (fun _ _ _ h => h) (yieldsIf_load_mid (by rfl) _ _ rfl _ _ rfl DP _ (fun w hSw => hSw) Try.underlying37 rfl HSz1.out) (by assumption) ?_
          (try simp only [Act.put, List.setIfInBounds_toArray, List.set_cons_zero, List.set_cons_succ])
          refine wpAnyH_take (i := 4) (oi := { dst := some 36, op := Op.move (Operand.tmp 4), type := 38, pos := "commit.go:91", after := #[], guard := none }) (v := ?_) rfl (by kernel_rfl) (by kernel_rfl) (by kernel_rfl) (fun _ _ _ h => h) (Or.inl ⟨by rfl, ?_⟩) (by assumption) ?_
          rotate_left 1
          · ((intro w hSw; (try dsimp only at hSw); go_simp) <;> with_reducible rfl)
          (try simp only [Act.put, List.setIfInBounds_toArray, List.set_cons_zero, List.set_cons_succ])
          refine wpAnyH_ready (rs := [5]) (by kernel_rfl) (by simp) ?_
          refine AllReadyH.cons (o := { dst := some 37, op := Op.call { callee := Callee.value (Operand.func 87), args := #[Operand.tmp 35, Operand.tmp 36], argTypes := #[37, 38] }, type := 25, pos := "commit.go:91", after := #[{ on := 3, ground := Ground.data }, { on := 4, ground := Ground.data }], guard := none }) rfl (fun K hK => ?_) ?_
          · go_simp
            refine HPa2.out.mono ?_
            rintro e wB ⟨rfl, hb⟩
            have eX := Lib.hid (range_below hb dX.out hXs)
            have eR := Lib.hid (dR.out.below hb)
            have eO := Lib.hid (own_keep dO.out hb)
            have eG : Hid (w.grownBy wB (some R)) := Lib.hid (grown_trans dG.out ⟨hb.os, hb.tape, hb.output, hb.size, fun i hi _ => hb.block i hi⟩)
            have eXs := Nat.lt_of_lt_of_le hXs hb.size
            clear dX dR dO dG hXs hb HPa2
            have dX := eX
            have dR := eR
            have dO := eO
            have dG := eG
            have hXs := eXs
            clear eX eR eO eG eXs
            have HFm := Lib.hid (fail_any R 3 110 A L C l _ _ c E wB dR.out)
            (try go_wp2_with fail)
            refine hK.out _ _ ?_ (fun hNew => ?_)
            · ((try dsimp only); exact dX.out)
            clear hK K hHeld
            have hHeld := hNew
            clear hNew
            (try simp only [Act.put, List.setIfInBounds_toArray, List.set_cons_zero, List.set_cons_succ])
            refine wpAnyH_ready (rs := [6]) (by kernel_rfl) (by simp) ?_
            refine AllReadyH.cons (o := { dst := some 38, op := Op.call { callee := Callee.value (Operand.func 85), args := #[Operand.tmp 34, Operand.tmp 37], argTypes := #[94, 25] }, type := 0, pos := "commit.go:91", after := #[{ on := 2, ground := Ground.data }, { on := 5, ground := Ground.data }, { on := 5, ground := Ground.chain }], guard := none }) rfl (fun K hK => ?_) ?_
            · go_simp
              refine HFm.out.mono ?_
              rintro e wC ⟨rfl, hR, hg⟩
              have eX := Lib.hid (range_grown dX.out hg hXs (by omega))
              have eR := Lib.hid hR
              have eO := Lib.hid (own_grown dO.out hg (fun e => by have := (dO.out.lt R e).1; omega))
              have eG := Lib.hid (grown_trans dG.out hg)
              have eXs := Nat.lt_of_lt_of_le hXs hg.size
              clear dX dR dO dG hXs hR hg HFm
              have dX := eX
              have dR := eR
              have dO := eO
              have dG := eG
              have hXs := eXs
              clear eX eR eO eG eXs
              (try go_wp2_with fail)
              refine hK.out _ _ ?_ (fun hNew => ?_)
              · ((try dsimp only); exact dX.out)
              clear hK K hHeld
              have hHeld := hNew
              clear hNew
              (try simp only [Act.put, List.setIfInBounds_toArray, List.set_cons_zero, List.set_cons_succ])
              refine wpAnyH_done (by kernel_rfl) ?_ _
              refine NoPanic.normal ?_
              clear hHeld
              have hn := new_id wC p 37
              rw [HDP.out] at hn
              have HN : Hid (∀ j u, (bv p)[j]? = some u → (wC.alloc (.cells DP.toArray 37)).cell? ((⟨wC.heap.size, 0, none⟩ : Addr).add j) = some u) := Lib.hid (fun j u hj => hn j u (by rw [← HDP.out]; exact hj))
              have hA := (Below.refl wC.heap.size wC).alloc (Nat.le_refl _) (.cells DP.toArray 37)
              have aO := Lib.hid (own_keep dO.out hA)
              have aR := Lib.hid (dR.out.below hA)
              have aG : Hid (w.grownBy (wC.alloc (.cells DP.toArray 37)) (some R)) := Lib.hid (grown_trans dG.out ⟨hA.os, hA.tape, hA.output, hA.size, fun i hi _ => hA.block i hi⟩)
              have aB : Hid (w.heap.size ≤ (wC.alloc (.cells DP.toArray 37)).heap.size) := Lib.hid aG.out.size
              have HBp : Hid ((bv p).length = 32) := Lib.hid (by rw [HDP.out]; exact HBl.out)
              clear hn hA dO dR dG
              go_wp2_with (first
                | (refine wpList_load_mid rfl _ _ rfl X 0 rfl DP _ dX.out Try.underlying37 rfl HSz1.out ?_)
                | (refine wpList_build_id _ rfl (.tmp 40) rfl DP rfl HBl.out ?_)
                | (at_builtin; refine wpList_append_id _ rfl (.tmp 39) (.tmp 41) rfl w.heap.size (.slice Ai k Ci) k ids rfl aO.out wC.heap.size p rfl HN.out HBp.out (by omega) aB.out ?_))
              intro A9 C9 wE hoE hgE
              have eB : Below w.heap.size (wC.alloc (.cells DP.toArray 37)) wE := (Below.refl _ _).grown hgE aB.out (fun j hj => (aO.out.lt j hj).1)
              have eR := Lib.hid (aR.out.belowB eB hRl HAB.out)
              have eG : Hid (w.grownBy wE (some R)) := Lib.hid ⟨eB.os.trans aG.out.os, eB.tape.trans aG.out.tape, eB.output.trans aG.out.output, Nat.le_trans aG.out.size eB.size, fun i hi hne => (eB.block i hi).trans (aG.out.block i hi hne)⟩
              have eO := Lib.hid hoE
              clear hoE hgE eB aO aR aG aB HN
              go_wp2_with fail
              go_roundw
              case rel => exact ⟨k + 1, A9, C9, ids ++ [p], _, _, by go_num, rfl, by omega, Lib.hid (by simp [HIl.out]), Lib.hid (fun y hy => by
                rcases List.mem_append.1 hy with hy | hy
                · exact HI32.out y hy
                · rw [List.mem_singleton.1 hy]; exact HPl.out), Lib.hid (by rw [show m - (k + 1) = j by omega]; exact HP2.out), eO, eR, eG⟩
              case measure => simp [intOf]; omega
            exact AllReadyH.nil
          exact AllReadyH.nil
        · have hd : (fr == 0) = false := by simp [h0]
          rw [if_neg h0] at hp
          have HP2 := Lib.hid hp
          clear hp h0 HP
          go_wp2_with fail
          refine HOk.out.mono ?_
          rintro e w3 ⟨rfl, rfl⟩
          clear HOk
          go_wp2_with fail
          go_ret
          unfold ParRet
          rw [← HP2.out]
          dsimp only
          exact ⟨HI32.out, HR.out, HG.out, Ai, Ci, by rw [HIl.out]; rfl, by rw [HIl.out]; exact HO.out⟩
      · have hp := HP.out
        rw [show m - k = 0 by omega, pL] at hp
        have HP2 := Lib.hid hp
        clear hp HP
        go_wp2_with fail
        go_ret
        unfold ParRet
        rw [← HP2.out]
        dsimp only
        exact ⟨HI32.out, HR.out, HG.out, Ai, Ci, by rw [HIl.out]; rfl, by rw [HIl.out]; exact HO.out⟩
end Go.Proofs.Ytmcmapgllaopmaa.Cd
end

section
namespace Go.Proofs.Ytmcmapgllaopmaa.Cd
open Go.RowKit
set_option linter.unusedVariables false
def cm (tree : List Int) (ps : Value) (au : ByteArray) (tm : Int) (ms : ByteArray) : List Value := bv tree ++ [ps, .string au, .int .i64 tm, .string ms]
/-- the commit's cells, by their index -/
def cmF (tr : List Int) (ps : Value) (au : ByteArray) (tm : Int) (ms : ByteArray) : Nat → Value := fun j => if j = 32 then ps else if j = 33 then .string au else if j = 34 then .int .i64 tm else if j = 35 then .string ms else .int .u8 (tr.getD j 0)
theorem cmF_start (ZC : Array Value) (h34 : ZC.getD 34 undef = .int .i64 0) (h35 : ZC.getD 35 undef = .string ByteArray.empty) (tr : List Int) (hl : tr.length = 32) (ps : Value) (au : ByteArray) (j : Nat) (hj : j < 36) :
    (if j = 33 then Value.string au else if j = 32 then ps else layF (fun i => ZC.getD i undef) 0 (bv tr) j) = cmF tr ps au 0 ByteArray.empty j := by
  unfold cmF
  by_cases e2 : j = 32
  · subst e2; simp
  · by_cases e3 : j = 33
    · subst e3; simp
    · rw [if_neg e3, if_neg e2, if_neg e2, if_neg e3, layF, bv_len]
      by_cases e4 : j = 34
      · subst e4; rw [if_neg (by omega)]; simpa using h34
      · by_cases e5 : j = 35
        · subst e5; rw [if_neg (by omega)]; simpa using h35
        · rw [if_pos (by omega), if_neg e4, if_neg e5, Nat.sub_zero]
          simp [bv, List.getD, show j < tr.length by omega]
theorem cmF_time (tr : List Int) (ps : Value) (au : ByteArray) (tm tm' : Int) (ms : ByteArray) (j : Nat) : (if j = 34 then Value.int .i64 tm' else cmF tr ps au tm ms j) = cmF tr ps au tm' ms j := by
  unfold cmF
  by_cases e : j = 34
  · subst e; simp
  · simp [e]
theorem cmF_msg (tr : List Int) (ps : Value) (au : ByteArray) (tm : Int) (ms ms' : ByteArray) (j : Nat) : (if j = 35 then Value.string ms' else cmF tr ps au tm ms j) = cmF tr ps au tm ms' j := by
  unfold cmF
  by_cases e : j = 35
  · subst e; simp
  · simp [e]
theorem cm_len (tr : List Int) (ps : Value) (au : ByteArray) (tm : Int) (ms : ByteArray) (hl : tr.length = 32) : (cm tr ps au tm ms).length = 36 := by simp [cm, bv_len, hl]
theorem cm_get (tr : List Int) (ps : Value) (au : ByteArray) (tm : Int) (ms : ByteArray) (hl : tr.length = 32) (j : Nat) (hj : j < 36) : (cm tr ps au tm ms)[j]? = some (cmF tr ps au tm ms j) := by
  unfold cm cmF
  by_cases h : j < 32
  · rw [List.getElem?_append_left (by rw [bv_len]; omega), if_neg (by omega), if_neg (by omega), if_neg (by omega), if_neg (by omega)]
    simp [bv, List.getD, show j < tr.length by omega]
  · rw [List.getElem?_append_right (by rw [bv_len]; omega), bv_len, hl]
    rcases (show j = 32 ∨ j = 33 ∨ j = 34 ∨ j = 35 by omega) with rfl | rfl | rfl | rfl <;> rfl
theorem cm_one (tr : List Int) (ps : Value) (au : ByteArray) (tm : Int) (ms : ByteArray) (hp : ps.oneCell' = true) : ∀ v ∈ cm tr ps au tm ms, v.oneCell' = true := by
  intro v hv
  unfold cm at hv
  rcases List.mem_append.1 hv with h | h
  · exact bv_one _ v h
  · simp only [List.mem_cons, List.not_mem_nil, or_false] at h
    rcases h with rfl | rfl | rfl | rfl
    · exact hp
    · rfl
    · rfl
    · rfl
/-- a time out of bytes -/
def tv (l : List Int) : Int := l.foldl (fun x c => bits .or .i64 (wrap64 (x * 256)) c) 0
theorem tv_step (l : List Int) (k : Nat) (h : k < l.length) : tv (l.take (k + 1)) = bits .or .i64 (wrap64 (tv (l.take k) * 256)) (l.getD k 0) := by
  unfold tv
  rw [List.take_succ_eq_append_getElem h, List.foldl_append]
  simp only [List.foldl_cons, List.foldl_nil, List.getD, List.getElem?_eq_getElem h, Option.getD_some]
/-- what the bytes of a commit say, one behind the other -/
def cT (f : Int) (l : List Int) (a L : Nat) : List Int := idv (tkL f l a L 32)
def cF2 (f : Int) (l : List Int) (a L : Nat) : Int := if cT f l a L = List.replicate 32 0 then fl (tkF f a L 32) 1 else tkF f a L 32
def cQ (f : Int) (l : List Int) (a L : Nat) : Int × Nat × List (List Int) := pa (cF2 f l a L) l (tkA f a L 32) L
def cAu (f : Int) (l : List Int) (a L : Nat) : ByteArray := txS (cQ f l a L).1 l (cQ f l a L).2.1 L 2 1000
def cA4 (f : Int) (l : List Int) (a L : Nat) : Nat := txA (cQ f l a L).1 l (cQ f l a L).2.1 L 2 1000
def cF4 (f : Int) (l : List Int) (a L : Nat) : Int := txF (cQ f l a L).1 l (cQ f l a L).2.1 L 2 1000
def cB (f : Int) (l : List Int) (a L : Nat) : List Int := tkL (cF4 f l a L) l (cA4 f l a L) L 8
def cA5 (f : Int) (l : List Int) (a L : Nat) : Nat := tkA (cF4 f l a L) (cA4 f l a L) L 8
def cF5 (f : Int) (l : List Int) (a L : Nat) : Int := tkF (cF4 f l a L) (cA4 f l a L) L 8
def cMs (f : Int) (l : List Int) (a L : Nat) : ByteArray := txS (cF5 f l a L) l (cA5 f l a L) L 2 1000
def cA6 (f : Int) (l : List Int) (a L : Nat) : Nat := txA (cF5 f l a L) l (cA5 f l a L) L 2 1000
def cF6 (f : Int) (l : List Int) (a L : Nat) : Int := txF (cF5 f l a L) l (cA5 f l a L) L 2 1000
def cF7 (f : Int) (l : List Int) (a L : Nat) : Int := enF (cF6 f l a L) (cA6 f l a L) L
/-- the commit told, and the reader behind -/
def CmRet (R : Nat) (A : Option Addr) (L C : Nat) (l : List Int) (at' : Nat) (f : Int) (E : Nat → Value) (w : World) (e : Ending) (w' : World) : Prop :=
  (∀ x ∈ (cQ f l at' L).2.2, x.length = 32) ∧ Rdr w' R 3 110 A L C l (cA6 f l at' L) (cF7 f l at' L) E ∧ w.grownBy w' (some R) ∧
  ∃ Ai Ci, e = .returned (.agg (cm (cT f l at' L) (.slice Ai (cQ f l at' L).2.2.length Ci) (cAu f l at' L) (tv (cB f l at' L)) (cMs f l at' L)).toArray) ∧ w'.ownsRow w.heap.size 37 32 (.slice Ai (cQ f l at' L).2.2.length Ci) (cQ f l at' L).2.2.length (idsV (cQ f l at' L).2.2)
set_option maxRecDepth 100000 in
theorem zeroCm (w : World) : (zeroValue 40).run Try.prog w = .ok (.agg (cm (List.replicate 32 0) (.slice none 0 0) ByteArray.empty 0 ByteArray.empty).toArray) w := by rfl
set_option maxRecDepth 100000 in
set_option maxHeartbeats 4000000 in
theorem commit_r (R : Nat) (A : Option Addr) (L C : Nat) (l : List Int) (at' : Nat) (f0 : Int) (E : Nat → Value) (w : World) (h : Rdr w R 3 110 A L C l at' f0 E) :
    Calls Try.prog 54 #[.pointer (some ⟨R, 0, none⟩)] w (CmRet R A L C l at' f0 E w) := by
  have hz := zeroCm
  have hZl : (cm (List.replicate 32 0) (.slice none 0 0) ByteArray.empty 0 ByteArray.empty).toArray.size = 36 := by simp [cm, bv]
  have HZ34 : Hid ((cm (List.replicate 32 0) (.slice none 0 0) ByteArray.empty 0 ByteArray.empty).toArray.getD 34 undef = .int .i64 0) := Lib.hid rfl
  have HZ35 : Hid ((cm (List.replicate 32 0) (.slice none 0 0) ByteArray.empty 0 ByteArray.empty).toArray.getD 35 undef = .string ByteArray.empty) := Lib.hid rfl
  generalize (cm (List.replicate 32 0) (.slice none 0 0) ByteArray.empty 0 ByteArray.empty).toArray = ZC at *
  have HZl := Lib.hid hZl
  have HR0 := Lib.hid h
  clear hZl h
  go_enter Try.func54, Try.ntmps54
  go_upto_region 2 with (fail)
  have hX1 : (w.alloc (.cells ZC 40)).heap.size = w.heap.size + 1 := by show (w.heap.push _).size = _; simp
  have hb1 := (Below.refl w.heap.size w).alloc (Nat.le_refl _) (.cells ZC 40)
  have hb2 := hb1.alloc (Nat.le_of_lt (al_lt w _)) (.cells ZC 40)
  have hro := row_new w ZC 40
  have hrx := row_new (w.alloc (.cells ZC 40)) ZC 40
  rw [HZl.out] at hro hrx
  have HO := Lib.hid (World.rowIs.alloc hro (.cells ZC 40))
  have HX := Lib.hid hrx
  have HR := Lib.hid (HR0.out.below hb2)
  have HG : Hid (w.grownBy ((w.alloc (.cells ZC 40)).alloc (.cells ZC 40)) (some R)) := Lib.hid ⟨hb2.os, hb2.tape, hb2.output, hb2.size, fun i hi _ => hb2.block i hi⟩
  have hRl := HR0.out.row.lt
  have HAB : Hid (∀ x, A = some x → 0 < L → x.block < w.heap.size) := Lib.hid (fun x hx h0 => (HR0.out.rd.cell x hx).1 h0)
  clear hb1 hb2 hro hrx HR0
  rw [hX1] at HX
  (try rw [hX1])
  generalize (w.alloc (.cells ZC 40)).alloc (.cells ZC 40) = w2 at *
  clear hX1
  obtain ⟨X, hX⟩ : ∃ X, X = w.heap.size + 1 := ⟨_, rfl⟩
  rw [← hX] at HX ⊢
  obtain ⟨O, hO⟩ : ∃ O, O = w.heap.size := ⟨_, rfl⟩
  rw [← hO] at HO HAB hRl hX ⊢
  have HOw := Lib.hid hO
  have HXO := Lib.hid hX
  have hRX : R < X := by omega
  have hOX : O < X := by omega
  clear hX hO
  have HId := Lib.hid (id_r R 3 110 A L C l at' f0 E w2 HR.out)
  obtain ⟨tr, htr⟩ : ∃ tr, tr = idv (tkL f0 l at' L 32) := ⟨_, rfl⟩
  rw [← htr] at HId
  have htl : tr.length = 32 := by
    rw [htr]
    refine idv_len _ ?_
    unfold tkL
    split
    · rw [List.length_take]; omega
    · simp
  have HTr := Lib.hid htr
  have hbl : (bv tr).length = 32 := by rw [bv_len, htl]
  have hq : ∀ W, (Op.equalIn 10000 37 (.agg (bv tr).toArray) (.agg #[.int .u8 0, .int .u8 0, .int .u8 0, .int .u8 0, .int .u8 0, .int .u8 0, .int .u8 0, .int .u8 0, .int .u8 0, .int .u8 0, .int .u8 0, .int .u8 0, .int .u8 0, .int .u8 0, .int .u8 0, .int .u8 0, .int .u8 0, .int .u8 0, .int .u8 0, .int .u8 0, .int .u8 0, .int .u8 0, .int .u8 0, .int .u8 0, .int .u8 0, .int .u8 0, .int .u8 0, .int .u8 0, .int .u8 0, .int .u8 0, .int .u8 0, .int .u8 0])).run Try.prog W = .ok (decide (tr = List.replicate 32 0)) W := fun W => ids_none tr htl W
  have HSz2 : Hid ((Try.prog.info? 37).map (·.size) = some (bv tr).toArray.size) := Lib.hid (by rw [List.size_toArray, hbl]; kernel_rfl)
  have HSz1 : Hid ((Try.prog.info? 37).map (·.size) = some (bv tr).length) := Lib.hid (by rw [hbl]; kernel_rfl)
  have HOne := Lib.hid (all_oneCell_toArray (bv_one tr))
  have HBl := Lib.hid hbl
  clear htr hbl
  go_wp2_with fail
  refine HId.out.mono ?_
  rintro e w3 ⟨rfl, hR3, hg3⟩
  have HX3 := Lib.hid (World.rowIs.of_block HX.out (hg3.block X HX.out.lt (fun e => by have := Option.some.inj e; omega)))
  have HO3 := Lib.hid (World.rowIs.of_block HO.out (hg3.block O HO.out.lt (fun e => by have := Option.some.inj e; omega)))
  have HTh : Hid (w3.there X 0 (bv tr).toArray.size) := Lib.hid (fun j hj => by
    rw [List.size_toArray, HBl.out] at hj
    rw [Nat.zero_add]
    exact ⟨by rw [HX3.out.cell (show j < 36 by omega)]; rfl, HX3.out.frozen _⟩)
  have HX4 := Lib.hid (row_lay HX3.out 0 (bv tr))
  have HO4 := Lib.hid (row_apart (b := O) (E := X) (by omega) (bv tr) 0 w3 HO3.out)
  have HR4 := Lib.hid (Rdr.laid (X := X) (by omega) (bv tr) 0 _ (fun x hx h0 => by have := HAB.out x hx h0; omega) hR3)
  have HG4 : Hid (w.grownBy (w3.setCells X 0 (bv tr)) (some R)) := Lib.hid (grown_laid (by have := HOw.out; omega) (bv tr) 0 _ (grown_trans HG.out hg3))
  have HRg : Hid ((w3.setCells X 0 (bv tr)).rangeAt X 0 (bv tr)) := Lib.hid (fun j v hj => by
    have hl := (List.getElem?_eq_some_iff.1 hj).1
    have hl2 := HBl.out
    rw [Nat.zero_add, HX4.out.cell (by omega), layF, if_pos (by omega)]
    simp [hj, List.getD])
  clear HX HO HR HG HId hR3 hg3 HX3 HO3
  generalize hDI : bv tr = DI at *
  have HDI := Lib.hid hDI
  clear hDI
  go_upto_region 3 with (refine wpList_store_mid rfl _ _ _ rfl X 0 DI.toArray rfl rfl HTh.out HSz2.out HOne.out ?_)
  change Code.wp _ _ _ _ (w3.setCells X 0 DI)
  generalize w3.setCells X 0 DI = w4 at *
  clear HTh HSz2 HOne
  by_cases hz0 : tr = List.replicate 32 0
  · rw [decide_eq_true hz0] at hq
    have H2 : Hid (fl (tkF f0 at' L 32) 1 = if tr = List.replicate 32 0 then fl (tkF f0 at' L 32) 1 else tkF f0 at' L 32) := Lib.hid (by rw [if_pos hz0])
    have HFm := Lib.hid (fail_any R 3 110 A L C l _ _ 1 E w4 HR4.out)
    clear hz0
    go_wp2_with (refine wpList_load_mid rfl _ _ rfl X 0 rfl DI _ HRg.out Try.underlying37 rfl HSz1.out ?_)
    refine HFm.out.mono ?_
    rintro e w5 ⟨rfl, hR5, hg5⟩
    have HX5 := Lib.hid (World.rowIs.of_block HX4.out (hg5.block X HX4.out.lt (fun e => by have := Option.some.inj e; omega)))
    have HO5 := Lib.hid (World.rowIs.of_block HO4.out (hg5.block O HO4.out.lt (fun e => by have := Option.some.inj e; omega)))
    obtain ⟨F2, hF2⟩ : ∃ F2, F2 = fl (tkF f0 at' L 32) 1 := ⟨_, rfl⟩
    obtain ⟨A1, hA1⟩ : ∃ A1, A1 = tkA f0 at' L 32 := ⟨_, rfl⟩
    rw [← hF2, ← hA1] at hR5
    have HE2 := Lib.hid (H2.out.symm.trans hF2.symm)
    have HA1 := Lib.hid hA1
    have HR5 := Lib.hid hR5
    have HG5 := Lib.hid (grown_trans HG4.out hg5)
    clear hR5 hg5 HFm HX4 HO4 HR4 HG4 hF2 hA1 HRg hq
    have HPs := Lib.hid (parents_any R A L C l A1 F2 E w5 HR5.out)
    have hs5 := HX5.out.lt
    go_wp2_with fail
    refine HPs.out.mono ?_
    rintro e w6 ⟨h32, hR6, hg6, Ai, Ci, rfl, ho6⟩
    obtain ⟨q, hqq⟩ : ∃ q, q = pa F2 l A1 L := ⟨_, rfl⟩
    rw [← hqq] at h32 hR6 ho6 ⊢
    have HQ := Lib.hid hqq
    have H32 := Lib.hid h32
    have HX6 := Lib.hid (World.rowIs.of_block HX5.out (hg6.block X HX5.out.lt (fun e => by have := Option.some.inj e; omega)))
    have HO6 := Lib.hid (World.rowIs.of_block HO5.out (hg6.block O HO5.out.lt (fun e => by have := Option.some.inj e; omega)))
    have hc : w6.cell? ⟨X, 32, none⟩ = some _ := HX6.out.cell (i := 32) (by omega)
    have hf : w6.frozen? ⟨X, 32, none⟩ = false := HX6.out.frozen _
    have HX7 := Lib.hid (HX6.out.set 32 (.slice Ai q.2.2.length Ci))
    have HO7 := Lib.hid (HO6.out.setOther (a := ⟨X, 32, none⟩) (fun e => by have : X = O := e.symm ▸ rfl; omega) (.slice Ai q.2.2.length Ci))
    have HR7 := Lib.hid (Rdr.setX hR6 X 32 (.slice Ai q.2.2.length Ci) (by omega) (fun x hx h0 => by have := HAB.out x hx h0; omega))
    have HOw7 := Lib.hid (own_grown ho6 (grown_set w6 X 32 (.slice Ai q.2.2.length Ci)) (fun e => by have := (ho6.lt X e).1; omega))
    have HG7 : Hid (w.grownBy (w6.setCell ⟨X, 32, none⟩ (.slice Ai q.2.2.length Ci)) (some R)) := Lib.hid (by
      have h1 := grown_trans HG5.out hg6
      have h2 := grown_set w6 X 32 (.slice Ai q.2.2.length Ci)
      exact ⟨h2.os.trans h1.os, h2.tape.trans h1.tape, h2.output.trans h1.output, Nat.le_trans h1.size h2.size, fun i hi hne => (h2.block i (Nat.lt_of_lt_of_le hi h1.size) (fun e => by have := Option.some.inj e; have := HOw.out; omega)).trans (h1.block i hi hne)⟩)
    clear hqq h32 HPs hR6 hg6 ho6 HX6 HO6 HX5 HO5 HR5 HG5
    go_upto_region 6 with (fail)
    generalize w6.setCell ⟨X, 32, none⟩ (.slice Ai q.2.2.length Ci) = w7 at *
    have HTx := Lib.hid (text_r R 3 110 A L C l q.2.1 q.1 E 2 1000 w7 HR7.out (by omega))
    rw [show ((2 : Nat) : Int) = 2 from rfl, show ((1000 : Nat) : Int) = 1000 from rfl] at HTx
    go_wp2_with fail
    refine HTx.out.mono ?_
    rintro e w8 ⟨rfl, hR8, hg8⟩
    obtain ⟨au, hau⟩ : ∃ au, au = txS q.1 l q.2.1 L 2 1000 := ⟨_, rfl⟩
    rw [← hau]
    have HAu := Lib.hid hau
    have HX8 := Lib.hid (World.rowIs.of_block HX7.out (hg8.block X HX7.out.lt (fun e => by have := Option.some.inj e; omega)))
    have HO8 := Lib.hid (World.rowIs.of_block HO7.out (hg8.block O HO7.out.lt (fun e => by have := Option.some.inj e; omega)))
    have HOw8 := Lib.hid (own_grown HOw7.out hg8 (fun e => by have := (HOw7.out.lt R e).1; omega))
    have hc : w8.cell? ⟨X, 33, none⟩ = some _ := HX8.out.cell (i := 33) (by omega)
    have hf : w8.frozen? ⟨X, 33, none⟩ = false := HX8.out.frozen _
    have HX9 := Lib.hid (HX8.out.set 33 (.string au))
    have HO9 := Lib.hid (HO8.out.setOther (a := ⟨X, 33, none⟩) (fun e => by have : X = O := e.symm ▸ rfl; omega) (.string au))
    have HR9 := Lib.hid (Rdr.setX hR8 X 33 (.string au) (by omega) (fun x hx h0 => by have := HAB.out x hx h0; omega))
    have HOw9 := Lib.hid (own_grown HOw8.out (grown_set w8 X 33 (.string au)) (fun e => by have := (HOw8.out.lt X e).1; omega))
    have HG9 : Hid (w.grownBy (w8.setCell ⟨X, 33, none⟩ (.string au)) (some R)) := Lib.hid (by
      have h1 := grown_trans HG7.out hg8
      have h2 := grown_set w8 X 33 (.string au)
      exact ⟨h2.os.trans h1.os, h2.tape.trans h1.tape, h2.output.trans h1.output, Nat.le_trans h1.size h2.size, fun i hi hne => (h2.block i (Nat.lt_of_lt_of_le hi h1.size) (fun e => by have := Option.some.inj e; have := HOw.out; omega)).trans (h1.block i hi hne)⟩)
    clear hau HTx hR8 hg8 HX7 HO7 HOw7 HR7 HG7 HX8 HO8 HOw8
    go_upto_region 7 with (fail)
    generalize w8.setCell ⟨X, 33, none⟩ (.string au) = w9 at *
    obtain ⟨A4, hA4⟩ : ∃ A4, A4 = txA q.1 l q.2.1 L 2 1000 := ⟨_, rfl⟩
    obtain ⟨F4, hF4⟩ : ∃ F4, F4 = txF q.1 l q.2.1 L 2 1000 := ⟨_, rfl⟩
    rw [← hA4, ← hF4] at HR9
    have HA4 := Lib.hid hA4
    have HF4 := Lib.hid hF4
    clear hA4 hF4
    have HTk := Lib.hid (take_any R 3 110 A L C l A4 F4 E 8 w9 HR9.out (by omega))
    rw [show ((8 : Nat) : Int) = 8 from rfl] at HTk
    go_wp2_with fail
    refine HTk.out.mono ?_
    rintro e wt ⟨At, Ct, rfl, hrd, hne, hRt, hgt⟩
    obtain ⟨T, hT⟩ : ∃ T, T = tkL F4 l A4 L 8 := ⟨_, rfl⟩
    obtain ⟨A5, hA5⟩ : ∃ A5, A5 = tkA F4 A4 L 8 := ⟨_, rfl⟩
    obtain ⟨F5, hF5⟩ : ∃ F5, F5 = tkF F4 A4 L 8 := ⟨_, rfl⟩
    rw [← hT] at hrd hne ⊢
    rw [← hA5, ← hF5] at hRt
    have HT := Lib.hid hT
    have HA5 := Lib.hid hA5
    have HF5 := Lib.hid hF5
    have HRd := Lib.hid hrd
    have HRt := Lib.hid hRt
    have HNX := Lib.hid (hne X (fun x hx h0 => by have := HAB.out x hx h0; omega))
    have HXt := Lib.hid (World.rowIs.of_block HX9.out (hgt.block X HX9.out.lt (fun e => by have := Option.some.inj e; omega)))
    have HOt := Lib.hid (World.rowIs.of_block HO9.out (hgt.block O HO9.out.lt (fun e => by have := Option.some.inj e; omega)))
    have HOwt := Lib.hid (own_grown HOw9.out hgt (fun e => by have := (HOw9.out.lt R e).1; omega))
    have HGt := Lib.hid (grown_trans HG9.out hgt)
    have HXc : Hid (wt.rowIs X 40 36 (cmF tr (.slice Ai q.2.2.length Ci) au 0 ByteArray.empty)) := Lib.hid (HXt.out.congr (fun j hj => by rw [← HDI.out]; exact cmF_start ZC HZ34.out HZ35.out tr htl _ au j hj))
    have hcap := hrd.cap
    have hmax := hrd.max
    clear hT hA5 hF5 hrd hne hRt hgt HX9 HO9 HOw9 HG9 HR9 HXt HTk hc hf
    go_wp2_with fail
    go_loopw [32] (fun s wr => ∃ k : Nat, s = .int .i64 k ∧ k ≤ T.length ∧ Hid (wr.rowIs X 40 36 (cmF tr (.slice Ai q.2.2.length Ci) au (tv (T.take k)) ByteArray.empty)) ∧ Hid (wr.rowIs O 40 36 (fun i => ZC.getD i undef)) ∧ Hid (Rdr wr R 3 110 A L C l A5 F5 E) ∧ Hid (wr.ownsRow w5.heap.size 37 32 (.slice Ai q.2.2.length Ci) q.2.2.length (idsV q.2.2)) ∧ Hid (RdB wr At T.length Ct T) ∧ Hid (w.grownBy wr (some R))) (fun s _ => T.length - (intOf s).toNat)
    case atStart => exact ⟨0, rfl, Nat.zero_le _, HXc, HOt, HRt, HOwt, HRd, HGt⟩
    case round =>
      clear HXc HOt HRt HOwt HRd HGt
      obtain ⟨k, rfl, hk, HXk, HOk, HRk, HOwk, HRd, HGk⟩ := hrel
      by_cases hlt : k < T.length
      · obtain ⟨g, o, rfl, hgl, hcc⟩ := HRd.out.at (by omega)
        have hc1 : wr.cell? ⟨g, o + k, none⟩ = some (.int .u8 (T.getD k 0)) := hcc k hlt
        have hc2 : wr.cell? ⟨X, 34, none⟩ = some (.int .i64 (tv (T.take k))) := HXk.out.cell (i := 34) (by omega)
        have hf2 : wr.frozen? ⟨X, 34, none⟩ = false := HXk.out.frozen _
        have hb := HRd.out.byte k hlt
        have hb0 := hb.1
        have hb1 := hb.2
        have hst := tv_step T k hlt
        have HX2 := Lib.hid ((HXk.out.set 34 (.int .i64 (tv (T.take (k + 1))))).congr (fun j _ => cmF_time tr _ au _ _ ByteArray.empty j))
        have HO2 := Lib.hid (HOk.out.setOther (a := ⟨X, 34, none⟩) (fun e => by have : X = O := e.symm ▸ rfl; omega) (.int .i64 (tv (T.take (k + 1)))))
        have HR2 := Lib.hid (Rdr.setX HRk.out X 34 (.int .i64 (tv (T.take (k + 1)))) (by omega) (fun x hx h0 => by have := HAB.out x hx h0; omega))
        have HOw2 := Lib.hid (own_grown HOwk.out (grown_set wr X 34 (.int .i64 (tv (T.take (k + 1))))) (fun e => by have := (HOwk.out.lt X e).1; omega))
        have HRd2 := Lib.hid (HRd.out.grown (grown_set wr X 34 (.int .i64 (tv (T.take (k + 1))))) HNX.out)
        have HG2 : Hid (w.grownBy (wr.setCell ⟨X, 34, none⟩ (.int .i64 (tv (T.take (k + 1))))) (some R)) := Lib.hid (by
          have h1 := HGk.out
          have h2 := grown_set wr X 34 (.int .i64 (tv (T.take (k + 1))))
          exact ⟨h2.os.trans h1.os, h2.tape.trans h1.tape, h2.output.trans h1.output, Nat.le_trans h1.size h2.size, fun i hi hne => (h2.block i (Nat.lt_of_lt_of_le hi h1.size) (fun e => by have := Option.some.inj e; have := HOw.out; omega)).trans (h1.block i hi hne)⟩)
        rw [hst] at HX2 HO2 HR2 HOw2 HRd2 HG2
        have HSt := Lib.hid hst
        have hk0 : (0 : Int) ≤ (k : Int) := by omega
        have hkl : (k : Int) < (T.length : Int) := by omega
        clear hst hcc hb HXk HOk HRk HOwk HRd HGk
        generalize hY : tv (T.take k) = Y at *
        generalize T.getD k 0 = c at *
        clear hY
        go_wp2_with fail
        go_roundw
        case rel => exact ⟨k + 1, by go_num, by omega, by rw [HSt.out]; exact HX2, HO2, HR2, HOw2, HRd2, HG2⟩
        case measure => simp [intOf]; omega
      · have hkT : k = T.length := by omega
        have hd : decide ((k : Int) < (T.length : Int)) = false := by simp; omega
        have HXe : Hid (wr.rowIs X 40 36 (cmF tr (.slice Ai q.2.2.length Ci) au (tv T) ByteArray.empty)) := Lib.hid (by
          have h := HXk.out
          rw [hkT, List.take_length] at h
          exact h)
        clear HXk hkT
        have HMx := Lib.hid (text_r R 3 110 A L C l A5 F5 E 2 1000 wr HRk.out (by omega))
        rw [show ((2 : Nat) : Int) = 2 from rfl, show ((1000 : Nat) : Int) = 1000 from rfl] at HMx
        go_wp2_with fail
        refine HMx.out.mono ?_
        rintro e w11 ⟨rfl, hR11, hg11⟩
        obtain ⟨ms, hms⟩ : ∃ ms, ms = txS F5 l A5 L 2 1000 := ⟨_, rfl⟩
        obtain ⟨A6, hA6⟩ : ∃ A6, A6 = txA F5 l A5 L 2 1000 := ⟨_, rfl⟩
        obtain ⟨F6, hF6⟩ : ∃ F6, F6 = txF F5 l A5 L 2 1000 := ⟨_, rfl⟩
        rw [← hms]
        rw [← hA6, ← hF6] at hR11
        have HMs := Lib.hid hms
        have HA6 := Lib.hid hA6
        have HF6 := Lib.hid hF6
        have HX11 := Lib.hid (World.rowIs.of_block HXe.out (hg11.block X HXe.out.lt (fun e => by have := Option.some.inj e; omega)))
        have HO11 := Lib.hid (World.rowIs.of_block HOk.out (hg11.block O HOk.out.lt (fun e => by have := Option.some.inj e; omega)))
        have HOw11 := Lib.hid (own_grown HOwk.out hg11 (fun e => by have := (HOwk.out.lt R e).1; omega))
        have hc : w11.cell? ⟨X, 35, none⟩ = some _ := HX11.out.cell (i := 35) (by omega)
        have hf : w11.frozen? ⟨X, 35, none⟩ = false := HX11.out.frozen _
        have HX12 := Lib.hid ((HX11.out.set 35 (.string ms)).congr (fun j _ => cmF_msg tr _ au _ _ ms j))
        have HO12 := Lib.hid (HO11.out.setOther (a := ⟨X, 35, none⟩) (fun e => by have : X = O := e.symm ▸ rfl; omega) (.string ms))
        have HR12 := Lib.hid (Rdr.setX hR11 X 35 (.string ms) (by omega) (fun x hx h0 => by have := HAB.out x hx h0; omega))
        have HOw12 := Lib.hid (own_grown HOw11.out (grown_set w11 X 35 (.string ms)) (fun e => by have := (HOw11.out.lt X e).1; omega))
        have HG12 : Hid (w.grownBy (w11.setCell ⟨X, 35, none⟩ (.string ms)) (some R)) := Lib.hid (by
          have h1 := grown_trans HGk.out hg11
          have h2 := grown_set w11 X 35 (.string ms)
          exact ⟨h2.os.trans h1.os, h2.tape.trans h1.tape, h2.output.trans h1.output, Nat.le_trans h1.size h2.size, fun i hi hne => (h2.block i (Nat.lt_of_lt_of_le hi h1.size) (fun e => by have := Option.some.inj e; have := HOw.out; omega)).trans (h1.block i hi hne)⟩)
        clear hms hA6 hF6 hR11 hg11 HX11 HO11 HOw11 HXe HOk HRk HOwk HRd HGk HMx
        go_upto_region 13 with (fail)
        generalize w11.setCell ⟨X, 35, none⟩ (.string ms) = w12 at *
        have HEn := Lib.hid (end_any R 3 110 A L C l A6 F6 E w12 HR12.out)
        clear hc hf
        go_wp2_with fail
        refine HEn.out.mono ?_
        rintro e w13 ⟨rfl, hR13, hg13⟩
        have HX13 := HX12.out.of_block (hg13.block X HX12.out.lt (fun e => by have := Option.some.inj e; omega))
        have HO13 := HO12.out.of_block (hg13.block O HO12.out.lt (fun e => by have := Option.some.inj e; omega))
        have HOw13 := own_grown HOw12.out hg13 (fun e => by have := (HOw12.out.lt R e).1; omega)
        have hg14 := grown_trans HG12.out hg13
        have hcl : (cm tr (.slice Ai q.2.2.length Ci) au (tv T) ms).length = 36 := cm_len tr _ au _ ms htl
        have hc1 := cm_one tr (.slice Ai q.2.2.length Ci) au (tv T) ms rfl
        have HLd : Hid (w13.rangeAt X 0 (cm tr (.slice Ai q.2.2.length Ci) au (tv T) ms)) := Lib.hid (fun j v hj => by
          have hl := (List.getElem?_eq_some_iff.1 hj).1
          rw [hcl] at hl
          rw [Nat.zero_add, HX13.cell hl, ← hj, cm_get tr _ au _ ms htl j hl])
        have HLt : Hid (w13.there O 0 (cm tr (.slice Ai q.2.2.length Ci) au (tv T) ms).toArray.size) := Lib.hid (fun j hj => by
          rw [List.size_toArray, hcl] at hj
          rw [Nat.zero_add]
          exact ⟨by rw [HO13.cell hj]; rfl, HO13.frozen _⟩)
        have HLs : Hid ((Try.prog.info? 40).map (·.size) = some (cm tr (.slice Ai q.2.2.length Ci) au (tv T) ms).length) := Lib.hid (by rw [hcl]; kernel_rfl)
        have HLs2 : Hid ((Try.prog.info? 40).map (·.size) = some (cm tr (.slice Ai q.2.2.length Ci) au (tv T) ms).toArray.size) := Lib.hid (by rw [List.size_toArray]; exact HLs.out)
        have HLo := Lib.hid (all_oneCell_toArray hc1)
        have HSt := Lib.hid (row_stored HO13 (cm tr (.slice Ai q.2.2.length Ci) au (tv T) ms) hcl)
        have HRz := Lib.hid (Rdr.laid (X := O) (by have := HOw.out; omega) (cm tr (.slice Ai q.2.2.length Ci) au (tv T) ms) 0 w13 (fun x hx h0 => by have := HAB.out x hx h0; omega) hR13)
        have HGz := Lib.hid (grown_laid (a := w) (E := O) (by have := HOw.out; omega) (cm tr (.slice Ai q.2.2.length Ci) au (tv T) ms) 0 w13 hg14)
        have HOz := Lib.hid (own_grown HOw13 (grown_cells w13 O (cm tr (.slice Ai q.2.2.length Ci) au (tv T) ms) 0) (fun e => by have := (HOw13.lt O e).1; omega))
        clear hR13 hg13 hg14 HX13 HO13 HOw13 hcl hc1 HX12 HO12 HR12 HOw12 HG12 HEn
        generalize hCM : cm tr (.slice Ai q.2.2.length Ci) au (tv T) ms = CM at *
        have HCM := Lib.hid hCM
        clear hCM
        go_wp2_with (first
          | (refine wpList_load_mid rfl _ _ rfl X 0 rfl CM _ HLd.out Try.underlying40 rfl HLs.out ?_)
          | (refine wpList_store_mid rfl _ _ _ rfl O 0 CM.toArray rfl rfl HLt.out HLs2.out HLo.out ?_))
        refine bodyPost_ret (results_cell_row rfl _ _ O _ _ _ _ rfl HSt.out Try.underlying40 rfl HLs2.out) rfl ?_
        have e2 : cF2 f0 l at' L = F2 := by unfold cF2 cT; rw [← HTr.out]; exact HE2.out
        have eQ : cQ f0 l at' L = q := by unfold cQ; rw [e2, ← HA1.out]; exact HQ.out.symm
        have eAu : cAu f0 l at' L = au := by unfold cAu; rw [eQ]; exact HAu.out.symm
        have e4 : cA4 f0 l at' L = A4 := by unfold cA4; rw [eQ]; exact HA4.out.symm
        have eF4 : cF4 f0 l at' L = F4 := by unfold cF4; rw [eQ]; exact HF4.out.symm
        have eB : cB f0 l at' L = T := by unfold cB; rw [eF4, e4]; exact HT.out.symm
        have e5 : cA5 f0 l at' L = A5 := by unfold cA5; rw [eF4, e4]; exact HA5.out.symm
        have eF5 : cF5 f0 l at' L = F5 := by unfold cF5; rw [eF4, e4]; exact HF5.out.symm
        have eMs : cMs f0 l at' L = ms := by unfold cMs; rw [eF5, e5]; exact HMs.out.symm
        have e6 : cA6 f0 l at' L = A6 := by unfold cA6; rw [eF5, e5]; exact HA6.out.symm
        have eF6 : cF6 f0 l at' L = F6 := by unfold cF6; rw [eF5, e5]; exact HF6.out.symm
        have eF7 : cF7 f0 l at' L = enF F6 A6 L := by unfold cF7; rw [eF6, e6]
        unfold CmRet
        rw [eQ, eAu, eB, eMs, e6, eF7, show cT f0 l at' L = tr from HTr.out.symm]
        exact ⟨H32.out, HRz.out, HGz.out, Ai, Ci, by rw [HCM.out], own_base HOz.out (by have := HOw.out; omega)⟩
  · rw [decide_eq_false hz0] at hq
    have H2 : Hid (tkF f0 at' L 32 = if tr = List.replicate 32 0 then fl (tkF f0 at' L 32) 1 else tkF f0 at' L 32) := Lib.hid (by rw [if_neg hz0])
    clear hz0
    obtain ⟨F2, hF2⟩ : ∃ F2, F2 = tkF f0 at' L 32 := ⟨_, rfl⟩
    obtain ⟨A1, hA1⟩ : ∃ A1, A1 = tkA f0 at' L 32 := ⟨_, rfl⟩
    have hR5 := HR4.out
    rw [← hF2, ← hA1] at hR5
    have HE2 := Lib.hid (H2.out.symm.trans hF2.symm)
    have HA1 := Lib.hid hA1
    have HR5 := Lib.hid hR5
    have HF2 := Lib.hid hF2
    have HX5 := HX4
    have HO5 := HO4
    have HG5 := HG4
    clear hR5 hF2 hA1 HX4 HO4 HR4 HG4
    go_wp2_with (refine wpList_load_mid rfl _ _ rfl X 0 rfl DI _ HRg.out Try.underlying37 rfl HSz1.out ?_)
    clear HRg hq
    have HPs := Lib.hid (parents_any R A L C l A1 F2 E w4 HR5.out)
    have hs5 := HX5.out.lt
    refine HPs.out.mono ?_
    rintro e w6 ⟨h32, hR6, hg6, Ai, Ci, rfl, ho6⟩
    obtain ⟨q, hqq⟩ : ∃ q, q = pa F2 l A1 L := ⟨_, rfl⟩
    rw [← hqq] at h32 hR6 ho6 ⊢
    have HQ := Lib.hid hqq
    have H32 := Lib.hid h32
    have HX6 := Lib.hid (World.rowIs.of_block HX5.out (hg6.block X HX5.out.lt (fun e => by have := Option.some.inj e; omega)))
    have HO6 := Lib.hid (World.rowIs.of_block HO5.out (hg6.block O HO5.out.lt (fun e => by have := Option.some.inj e; omega)))
    have hc : w6.cell? ⟨X, 32, none⟩ = some _ := HX6.out.cell (i := 32) (by omega)
    have hf : w6.frozen? ⟨X, 32, none⟩ = false := HX6.out.frozen _
    have HX7 := Lib.hid (HX6.out.set 32 (.slice Ai q.2.2.length Ci))
    have HO7 := Lib.hid (HO6.out.setOther (a := ⟨X, 32, none⟩) (fun e => by have : X = O := e.symm ▸ rfl; omega) (.slice Ai q.2.2.length Ci))
    have HR7 := Lib.hid (Rdr.setX hR6 X 32 (.slice Ai q.2.2.length Ci) (by omega) (fun x hx h0 => by have := HAB.out x hx h0; omega))
    have HOw7 := Lib.hid (own_grown ho6 (grown_set w6 X 32 (.slice Ai q.2.2.length Ci)) (fun e => by have := (ho6.lt X e).1; omega))
    have HG7 : Hid (w.grownBy (w6.setCell ⟨X, 32, none⟩ (.slice Ai q.2.2.length Ci)) (some R)) := Lib.hid (by
      have h1 := grown_trans HG5.out hg6
      have h2 := grown_set w6 X 32 (.slice Ai q.2.2.length Ci)
      exact ⟨h2.os.trans h1.os, h2.tape.trans h1.tape, h2.output.trans h1.output, Nat.le_trans h1.size h2.size, fun i hi hne => (h2.block i (Nat.lt_of_lt_of_le hi h1.size) (fun e => by have := Option.some.inj e; have := HOw.out; omega)).trans (h1.block i hi hne)⟩)
    clear hqq h32 HPs hR6 hg6 ho6 HX6 HO6 HX5 HO5 HR5 HG5
    go_upto_region 6 with (fail)
    generalize w6.setCell ⟨X, 32, none⟩ (.slice Ai q.2.2.length Ci) = w7 at *
    have HTx := Lib.hid (text_r R 3 110 A L C l q.2.1 q.1 E 2 1000 w7 HR7.out (by omega))
    rw [show ((2 : Nat) : Int) = 2 from rfl, show ((1000 : Nat) : Int) = 1000 from rfl] at HTx
    go_wp2_with fail
    refine HTx.out.mono ?_
    rintro e w8 ⟨rfl, hR8, hg8⟩
    obtain ⟨au, hau⟩ : ∃ au, au = txS q.1 l q.2.1 L 2 1000 := ⟨_, rfl⟩
    rw [← hau]
    have HAu := Lib.hid hau
    have HX8 := Lib.hid (World.rowIs.of_block HX7.out (hg8.block X HX7.out.lt (fun e => by have := Option.some.inj e; omega)))
    have HO8 := Lib.hid (World.rowIs.of_block HO7.out (hg8.block O HO7.out.lt (fun e => by have := Option.some.inj e; omega)))
    have HOw8 := Lib.hid (own_grown HOw7.out hg8 (fun e => by have := (HOw7.out.lt R e).1; omega))
    have hc : w8.cell? ⟨X, 33, none⟩ = some _ := HX8.out.cell (i := 33) (by omega)
    have hf : w8.frozen? ⟨X, 33, none⟩ = false := HX8.out.frozen _
    have HX9 := Lib.hid (HX8.out.set 33 (.string au))
    have HO9 := Lib.hid (HO8.out.setOther (a := ⟨X, 33, none⟩) (fun e => by have : X = O := e.symm ▸ rfl; omega) (.string au))
    have HR9 := Lib.hid (Rdr.setX hR8 X 33 (.string au) (by omega) (fun x hx h0 => by have := HAB.out x hx h0; omega))
    have HOw9 := Lib.hid (own_grown HOw8.out (grown_set w8 X 33 (.string au)) (fun e => by have := (HOw8.out.lt X e).1; omega))
    have HG9 : Hid (w.grownBy (w8.setCell ⟨X, 33, none⟩ (.string au)) (some R)) := Lib.hid (by
      have h1 := grown_trans HG7.out hg8
      have h2 := grown_set w8 X 33 (.string au)
      exact ⟨h2.os.trans h1.os, h2.tape.trans h1.tape, h2.output.trans h1.output, Nat.le_trans h1.size h2.size, fun i hi hne => (h2.block i (Nat.lt_of_lt_of_le hi h1.size) (fun e => by have := Option.some.inj e; have := HOw.out; omega)).trans (h1.block i hi hne)⟩)
    clear hau HTx hR8 hg8 HX7 HO7 HOw7 HR7 HG7 HX8 HO8 HOw8
    go_upto_region 7 with (fail)
    generalize w8.setCell ⟨X, 33, none⟩ (.string au) = w9 at *
    obtain ⟨A4, hA4⟩ : ∃ A4, A4 = txA q.1 l q.2.1 L 2 1000 := ⟨_, rfl⟩
    obtain ⟨F4, hF4⟩ : ∃ F4, F4 = txF q.1 l q.2.1 L 2 1000 := ⟨_, rfl⟩
    rw [← hA4, ← hF4] at HR9
    have HA4 := Lib.hid hA4
    have HF4 := Lib.hid hF4
    clear hA4 hF4
    have HTk := Lib.hid (take_any R 3 110 A L C l A4 F4 E 8 w9 HR9.out (by omega))
    rw [show ((8 : Nat) : Int) = 8 from rfl] at HTk
    go_wp2_with fail
    refine HTk.out.mono ?_
    rintro e wt ⟨At, Ct, rfl, hrd, hne, hRt, hgt⟩
    obtain ⟨T, hT⟩ : ∃ T, T = tkL F4 l A4 L 8 := ⟨_, rfl⟩
    obtain ⟨A5, hA5⟩ : ∃ A5, A5 = tkA F4 A4 L 8 := ⟨_, rfl⟩
    obtain ⟨F5, hF5⟩ : ∃ F5, F5 = tkF F4 A4 L 8 := ⟨_, rfl⟩
    rw [← hT] at hrd hne ⊢
    rw [← hA5, ← hF5] at hRt
    have HT := Lib.hid hT
    have HA5 := Lib.hid hA5
    have HF5 := Lib.hid hF5
    have HRd := Lib.hid hrd
    have HRt := Lib.hid hRt
    have HNX := Lib.hid (hne X (fun x hx h0 => by have := HAB.out x hx h0; omega))
    have HXt := Lib.hid (World.rowIs.of_block HX9.out (hgt.block X HX9.out.lt (fun e => by have := Option.some.inj e; omega)))
    have HOt := Lib.hid (World.rowIs.of_block HO9.out (hgt.block O HO9.out.lt (fun e => by have := Option.some.inj e; omega)))
    have HOwt := Lib.hid (own_grown HOw9.out hgt (fun e => by have := (HOw9.out.lt R e).1; omega))
    have HGt := Lib.hid (grown_trans HG9.out hgt)
    have HXc : Hid (wt.rowIs X 40 36 (cmF tr (.slice Ai q.2.2.length Ci) au 0 ByteArray.empty)) := Lib.hid (HXt.out.congr (fun j hj => by rw [← HDI.out]; exact cmF_start ZC HZ34.out HZ35.out tr htl _ au j hj))
    have hcap := hrd.cap
    have hmax := hrd.max
    clear hT hA5 hF5 hrd hne hRt hgt HX9 HO9 HOw9 HG9 HR9 HXt HTk hc hf
    go_wp2_with fail
    go_loopw [32] (fun s wr => ∃ k : Nat, s = .int .i64 k ∧ k ≤ T.length ∧ Hid (wr.rowIs X 40 36 (cmF tr (.slice Ai q.2.2.length Ci) au (tv (T.take k)) ByteArray.empty)) ∧ Hid (wr.rowIs O 40 36 (fun i => ZC.getD i undef)) ∧ Hid (Rdr wr R 3 110 A L C l A5 F5 E) ∧ Hid (wr.ownsRow w4.heap.size 37 32 (.slice Ai q.2.2.length Ci) q.2.2.length (idsV q.2.2)) ∧ Hid (RdB wr At T.length Ct T) ∧ Hid (w.grownBy wr (some R))) (fun s _ => T.length - (intOf s).toNat)
    case atStart => exact ⟨0, rfl, Nat.zero_le _, HXc, HOt, HRt, HOwt, HRd, HGt⟩
    case round =>
      clear HXc HOt HRt HOwt HRd HGt
      obtain ⟨k, rfl, hk, HXk, HOk, HRk, HOwk, HRd, HGk⟩ := hrel
      by_cases hlt : k < T.length
      · obtain ⟨g, o, rfl, hgl, hcc⟩ := HRd.out.at (by omega)
        have hc1 : wr.cell? ⟨g, o + k, none⟩ = some (.int .u8 (T.getD k 0)) := hcc k hlt
        have hc2 : wr.cell? ⟨X, 34, none⟩ = some (.int .i64 (tv (T.take k))) := HXk.out.cell (i := 34) (by omega)
        have hf2 : wr.frozen? ⟨X, 34, none⟩ = false := HXk.out.frozen _
        have hb := HRd.out.byte k hlt
        have hb0 := hb.1
        have hb1 := hb.2
        have hst := tv_step T k hlt
        have HX2 := Lib.hid ((HXk.out.set 34 (.int .i64 (tv (T.take (k + 1))))).congr (fun j _ => cmF_time tr _ au _ _ ByteArray.empty j))
        have HO2 := Lib.hid (HOk.out.setOther (a := ⟨X, 34, none⟩) (fun e => by have : X = O := e.symm ▸ rfl; omega) (.int .i64 (tv (T.take (k + 1)))))
        have HR2 := Lib.hid (Rdr.setX HRk.out X 34 (.int .i64 (tv (T.take (k + 1)))) (by omega) (fun x hx h0 => by have := HAB.out x hx h0; omega))
        have HOw2 := Lib.hid (own_grown HOwk.out (grown_set wr X 34 (.int .i64 (tv (T.take (k + 1))))) (fun e => by have := (HOwk.out.lt X e).1; omega))
        have HRd2 := Lib.hid (HRd.out.grown (grown_set wr X 34 (.int .i64 (tv (T.take (k + 1))))) HNX.out)
        have HG2 : Hid (w.grownBy (wr.setCell ⟨X, 34, none⟩ (.int .i64 (tv (T.take (k + 1))))) (some R)) := Lib.hid (by
          have h1 := HGk.out
          have h2 := grown_set wr X 34 (.int .i64 (tv (T.take (k + 1))))
          exact ⟨h2.os.trans h1.os, h2.tape.trans h1.tape, h2.output.trans h1.output, Nat.le_trans h1.size h2.size, fun i hi hne => (h2.block i (Nat.lt_of_lt_of_le hi h1.size) (fun e => by have := Option.some.inj e; have := HOw.out; omega)).trans (h1.block i hi hne)⟩)
        rw [hst] at HX2 HO2 HR2 HOw2 HRd2 HG2
        have HSt := Lib.hid hst
        have hk0 : (0 : Int) ≤ (k : Int) := by omega
        have hkl : (k : Int) < (T.length : Int) := by omega
        clear hst hcc hb HXk HOk HRk HOwk HRd HGk
        generalize hY : tv (T.take k) = Y at *
        generalize T.getD k 0 = c at *
        clear hY
        go_wp2_with fail
        go_roundw
        case rel => exact ⟨k + 1, by go_num, by omega, by rw [HSt.out]; exact HX2, HO2, HR2, HOw2, HRd2, HG2⟩
        case measure => simp [intOf]; omega
      · have hkT : k = T.length := by omega
        have hd : decide ((k : Int) < (T.length : Int)) = false := by simp; omega
        have HXe : Hid (wr.rowIs X 40 36 (cmF tr (.slice Ai q.2.2.length Ci) au (tv T) ByteArray.empty)) := Lib.hid (by
          have h := HXk.out
          rw [hkT, List.take_length] at h
          exact h)
        clear HXk hkT
        have HMx := Lib.hid (text_r R 3 110 A L C l A5 F5 E 2 1000 wr HRk.out (by omega))
        rw [show ((2 : Nat) : Int) = 2 from rfl, show ((1000 : Nat) : Int) = 1000 from rfl] at HMx
        go_wp2_with fail
        refine HMx.out.mono ?_
        rintro e w11 ⟨rfl, hR11, hg11⟩
        obtain ⟨ms, hms⟩ : ∃ ms, ms = txS F5 l A5 L 2 1000 := ⟨_, rfl⟩
        obtain ⟨A6, hA6⟩ : ∃ A6, A6 = txA F5 l A5 L 2 1000 := ⟨_, rfl⟩
        obtain ⟨F6, hF6⟩ : ∃ F6, F6 = txF F5 l A5 L 2 1000 := ⟨_, rfl⟩
        rw [← hms]
        rw [← hA6, ← hF6] at hR11
        have HMs := Lib.hid hms
        have HA6 := Lib.hid hA6
        have HF6 := Lib.hid hF6
        have HX11 := Lib.hid (World.rowIs.of_block HXe.out (hg11.block X HXe.out.lt (fun e => by have := Option.some.inj e; omega)))
        have HO11 := Lib.hid (World.rowIs.of_block HOk.out (hg11.block O HOk.out.lt (fun e => by have := Option.some.inj e; omega)))
        have HOw11 := Lib.hid (own_grown HOwk.out hg11 (fun e => by have := (HOwk.out.lt R e).1; omega))
        have hc : w11.cell? ⟨X, 35, none⟩ = some _ := HX11.out.cell (i := 35) (by omega)
        have hf : w11.frozen? ⟨X, 35, none⟩ = false := HX11.out.frozen _
        have HX12 := Lib.hid ((HX11.out.set 35 (.string ms)).congr (fun j _ => cmF_msg tr _ au _ _ ms j))
        have HO12 := Lib.hid (HO11.out.setOther (a := ⟨X, 35, none⟩) (fun e => by have : X = O := e.symm ▸ rfl; omega) (.string ms))
        have HR12 := Lib.hid (Rdr.setX hR11 X 35 (.string ms) (by omega) (fun x hx h0 => by have := HAB.out x hx h0; omega))
        have HOw12 := Lib.hid (own_grown HOw11.out (grown_set w11 X 35 (.string ms)) (fun e => by have := (HOw11.out.lt X e).1; omega))
        have HG12 : Hid (w.grownBy (w11.setCell ⟨X, 35, none⟩ (.string ms)) (some R)) := Lib.hid (by
          have h1 := grown_trans HGk.out hg11
          have h2 := grown_set w11 X 35 (.string ms)
          exact ⟨h2.os.trans h1.os, h2.tape.trans h1.tape, h2.output.trans h1.output, Nat.le_trans h1.size h2.size, fun i hi hne => (h2.block i (Nat.lt_of_lt_of_le hi h1.size) (fun e => by have := Option.some.inj e; have := HOw.out; omega)).trans (h1.block i hi hne)⟩)
        clear hms hA6 hF6 hR11 hg11 HX11 HO11 HOw11 HXe HOk HRk HOwk HRd HGk HMx
        go_upto_region 13 with (fail)
        generalize w11.setCell ⟨X, 35, none⟩ (.string ms) = w12 at *
        have HEn := Lib.hid (end_any R 3 110 A L C l A6 F6 E w12 HR12.out)
        clear hc hf
        go_wp2_with fail
        refine HEn.out.mono ?_
        rintro e w13 ⟨rfl, hR13, hg13⟩
        have HX13 := HX12.out.of_block (hg13.block X HX12.out.lt (fun e => by have := Option.some.inj e; omega))
        have HO13 := HO12.out.of_block (hg13.block O HO12.out.lt (fun e => by have := Option.some.inj e; omega))
        have HOw13 := own_grown HOw12.out hg13 (fun e => by have := (HOw12.out.lt R e).1; omega)
        have hg14 := grown_trans HG12.out hg13
        have hcl : (cm tr (.slice Ai q.2.2.length Ci) au (tv T) ms).length = 36 := cm_len tr _ au _ ms htl
        have hc1 := cm_one tr (.slice Ai q.2.2.length Ci) au (tv T) ms rfl
        have HLd : Hid (w13.rangeAt X 0 (cm tr (.slice Ai q.2.2.length Ci) au (tv T) ms)) := Lib.hid (fun j v hj => by
          have hl := (List.getElem?_eq_some_iff.1 hj).1
          rw [hcl] at hl
          rw [Nat.zero_add, HX13.cell hl, ← hj, cm_get tr _ au _ ms htl j hl])
        have HLt : Hid (w13.there O 0 (cm tr (.slice Ai q.2.2.length Ci) au (tv T) ms).toArray.size) := Lib.hid (fun j hj => by
          rw [List.size_toArray, hcl] at hj
          rw [Nat.zero_add]
          exact ⟨by rw [HO13.cell hj]; rfl, HO13.frozen _⟩)
        have HLs : Hid ((Try.prog.info? 40).map (·.size) = some (cm tr (.slice Ai q.2.2.length Ci) au (tv T) ms).length) := Lib.hid (by rw [hcl]; kernel_rfl)
        have HLs2 : Hid ((Try.prog.info? 40).map (·.size) = some (cm tr (.slice Ai q.2.2.length Ci) au (tv T) ms).toArray.size) := Lib.hid (by rw [List.size_toArray]; exact HLs.out)
        have HLo := Lib.hid (all_oneCell_toArray hc1)
        have HSt := Lib.hid (row_stored HO13 (cm tr (.slice Ai q.2.2.length Ci) au (tv T) ms) hcl)
        have HRz := Lib.hid (Rdr.laid (X := O) (by have := HOw.out; omega) (cm tr (.slice Ai q.2.2.length Ci) au (tv T) ms) 0 w13 (fun x hx h0 => by have := HAB.out x hx h0; omega) hR13)
        have HGz := Lib.hid (grown_laid (a := w) (E := O) (by have := HOw.out; omega) (cm tr (.slice Ai q.2.2.length Ci) au (tv T) ms) 0 w13 hg14)
        have HOz := Lib.hid (own_grown HOw13 (grown_cells w13 O (cm tr (.slice Ai q.2.2.length Ci) au (tv T) ms) 0) (fun e => by have := (HOw13.lt O e).1; omega))
        clear hR13 hg13 hg14 HX13 HO13 HOw13 hcl hc1 HX12 HO12 HR12 HOw12 HG12 HEn
        generalize hCM : cm tr (.slice Ai q.2.2.length Ci) au (tv T) ms = CM at *
        have HCM := Lib.hid hCM
        clear hCM
        go_wp2_with (first
          | (refine wpList_load_mid rfl _ _ rfl X 0 rfl CM _ HLd.out Try.underlying40 rfl HLs.out ?_)
          | (refine wpList_store_mid rfl _ _ _ rfl O 0 CM.toArray rfl rfl HLt.out HLs2.out HLo.out ?_))
        refine bodyPost_ret (results_cell_row rfl _ _ O _ _ _ _ rfl HSt.out Try.underlying40 rfl HLs2.out) rfl ?_
        have e2 : cF2 f0 l at' L = F2 := by unfold cF2 cT; rw [← HTr.out]; exact HE2.out
        have eQ : cQ f0 l at' L = q := by unfold cQ; rw [e2, ← HA1.out]; exact HQ.out.symm
        have eAu : cAu f0 l at' L = au := by unfold cAu; rw [eQ]; exact HAu.out.symm
        have e4 : cA4 f0 l at' L = A4 := by unfold cA4; rw [eQ]; exact HA4.out.symm
        have eF4 : cF4 f0 l at' L = F4 := by unfold cF4; rw [eQ]; exact HF4.out.symm
        have eB : cB f0 l at' L = T := by unfold cB; rw [eF4, e4]; exact HT.out.symm
        have e5 : cA5 f0 l at' L = A5 := by unfold cA5; rw [eF4, e4]; exact HA5.out.symm
        have eF5 : cF5 f0 l at' L = F5 := by unfold cF5; rw [eF4, e4]; exact HF5.out.symm
        have eMs : cMs f0 l at' L = ms := by unfold cMs; rw [eF5, e5]; exact HMs.out.symm
        have e6 : cA6 f0 l at' L = A6 := by unfold cA6; rw [eF5, e5]; exact HA6.out.symm
        have eF6 : cF6 f0 l at' L = F6 := by unfold cF6; rw [eF5, e5]; exact HF6.out.symm
        have eF7 : cF7 f0 l at' L = enF F6 A6 L := by unfold cF7; rw [eF6, e6]
        unfold CmRet
        rw [eQ, eAu, eB, eMs, e6, eF7, show cT f0 l at' L = tr from HTr.out.symm]
        exact ⟨H32.out, HRz.out, HGz.out, Ai, Ci, by rw [HCM.out], own_base HOz.out (by have := HOw.out; omega)⟩
end Go.Proofs.Ytmcmapgllaopmaa.Cd
end

section
namespace Go.Proofs.Ytmcmapgllaopmaa.Cd
open Go.RowKit
set_option linter.unusedVariables false
theorem results_cell2 {P : Program} {fn : Func} {p q : Tmp} {ty : TypeId} (h : fn.results = #[.cell p ty, .tmp q]) (tmps : Array Value) (w : World) (g : Nat) (t : TypeId) (cs : Array Value) (fr : Nat × Nat) (d : TypeDesc)
    (hp : tmps.getD p undef = .pointer (some ⟨g, 0, none⟩)) (hg : w.heap[g]? = some (.cells cs t fr))
    (hu : P.underlying ty = some d) (hd : (match d with | .struct _ | .array _ _ => true | _ => false) = true) (hi : (P.info? ty).map (·.size) = some cs.size) (v : Value) (hv : tmps.getD q undef = v) :
    (results fn tmps).run P w = .ok (.tuple #[.agg cs, v]) w := by
  have hp' : tmps[p]?.getD undef = .pointer (some ⟨g, 0, none⟩) := by simpa using hp
  have hv' : tmps[q]?.getD undef = v := by simpa using hv
  simp [results, h, hp', hv', asAddr, run_loadVar_row w g t ty cs fr d hg hu hd hi]
/-- no commit -/
def cm0 : List Value := cm (List.replicate 32 0) (.slice none 0 0) ByteArray.empty 0 ByteArray.empty
/-- what ParseCommit hands back -/
def PcRet (l : List Int) (L : Nat) (w : World) (e : Ending) (w' : World) : Prop :=
  Below w.heap.size w w' ∧
  ((cF7 0 l 0 L ≠ 0 ∧ e = .returned (.tuple #[.agg cm0.toArray, .int .i64 (cF7 0 l 0 L)])) ∨
   (cF7 0 l 0 L = 0 ∧ (∀ x ∈ (cQ 0 l 0 L).2.2, x.length = 32) ∧ ∃ Ai Ci, e = .returned (.tuple #[.agg (cm (cT 0 l 0 L) (.slice Ai (cQ 0 l 0 L).2.2.length Ci) (cAu 0 l 0 L) (tv (cB 0 l 0 L)) (cMs 0 l 0 L)).toArray, .int .i64 0]) ∧ w'.ownsRow w.heap.size 37 32 (.slice Ai (cQ 0 l 0 L).2.2.length Ci) (cQ 0 l 0 L).2.2.length (idsV (cQ 0 l 0 L).2.2)))
theorem step_store_mid {ops : Array Oper} {o : Oper} {a : Act} {w : World} {K : Act → World → Prop} {Q : Exit → Act → World → Prop} {E : Prop} (hgd : o.guard = none) (ty : TypeId) (x y : Operand) (ho : o.op = .store ty x y)
    (b off : Nat) (cells : Array Value) (hx : a.eval x = .pointer (some ⟨b, off, none⟩)) (hy : a.eval y = .agg cells)
    (ht : w.there b off cells.size) (hi : (Try.prog.info? ty).map (·.size) = some cells.size) (h1 : cells.all (·.oneCell') = true)
    (h : K (a.put o.dst undef) (w.setCells b off cells.toList)) : if Region.wanted o (yielded ops a.tmps) = true then Oper.wp Try.prog o a w K Q else E := by
  have hw : Region.wanted o (yielded ops a.tmps) = true := by simp [Region.wanted, hgd]
  rw [if_pos hw]
  exact wp_store_mid ty x y ho b off cells hx hy ht hi h1 h
/-- a pointer's block's cells, all of them, stored: what the store and the result ask -/
structure Fin (w0 : World) (B : Nat) (w : World) (O : Nat) (ty : TypeId) (D : List Value) : Prop where
  there : w.there O 0 D.toArray.size
  size : (Try.prog.info? ty).map (·.size) = some D.toArray.size
  one : D.toArray.all (·.oneCell') = true
  stored : (w.setCells O 0 D).heap[O]? = some (.cells D.toArray ty (0, 0))
  bel : Below B w0 (w.setCells O 0 D)
theorem below_cells {B O : Nat} {w0 : World} (hO : B ≤ O) : ∀ (vs : List Value) (o : Nat) (w : World), Below B w0 w → Below B w0 (w.setCells O o vs)
  | [], _, _, h => h
  | v :: vs, o, w, h => below_cells hO vs (o + 1) _ (h.setCell (p := ⟨O, o, none⟩) hO v)
theorem Fin.mk' {w0 w : World} {B O : Nat} {D : List Value} {f : Nat → Value} (hl : D.length = 36) (h1 : ∀ v ∈ D, v.oneCell' = true) (hr : w.rowIs O 40 36 f) (hb : Below B w0 w) (hO : B ≤ O) : Fin w0 B w O 40 D :=
  ⟨fun j hj => by
    rw [List.size_toArray, hl] at hj
    rw [Nat.zero_add]
    exact ⟨by rw [hr.cell hj]; rfl, hr.frozen _⟩, by rw [List.size_toArray, hl]; kernel_rfl, all_oneCell_toArray h1, row_stored hr D hl, below_cells hO D 0 w hb⟩
theorem _root_.Go.World.rangeAt.lt_of {w : World} {b o : Nat} {cs : List Value} (h : w.rangeAt b o cs) (h0 : 0 < cs.length) : b < w.heap.size := by
  obtain ⟨v, hv⟩ : ∃ v, cs[0]? = some v := ⟨cs[0], List.getElem?_eq_getElem h0⟩
  have := h 0 v hv
  exact block_lt_of_cell this
theorem cm0_len : cm0.length = 36 := by simp [cm0, cm, bv]
theorem cm0_one : ∀ v ∈ cm0, v.oneCell' = true := cm_one _ _ _ _ _ rfl
set_option maxRecDepth 100000 in
set_option maxHeartbeats 2000000 in
theorem parseCommit_any (A : Option Addr) (L C : Nat) (l : List Int) (w : World) (h : RdB w A L C l) :
    Calls Try.prog 19 #[.slice A L C] w (PcRet l L w) := by
  have hz : ∀ w : World, (zeroValue 40).run Try.prog w = .ok (.agg cm0.toArray) w := zeroCm
  have hZl : cm0.toArray.size = 36 := by rw [List.size_toArray, cm0_len]
  have HZ0 := Lib.hid (show cm0.toArray.toList = cm0 by simp)
  generalize hZC : cm0.toArray = ZC at *
  have HZC := Lib.hid hZC
  have HZl := Lib.hid hZl
  have HRd := Lib.hid h
  have HB0 := Lib.hid (Below.refl w.heap.size w)
  clear hZl h hZC
  go_enter Try.func19, Try.ntmps19
  go_upto_region 1 with (fail)
  have hro := row_new w ZC 40
  rw [HZl.out] at hro
  have HO1 := Lib.hid hro
  have hX1 : (w.alloc (.cells ZC 40)).heap.size = w.heap.size + 1 := by show (w.heap.push _).size = _; simp
  have HB1 := Lib.hid (HB0.out.alloc (Nat.le_refl _) (.cells ZC 40))
  have HRd1 := Lib.hid (HRd.out.below HB1.out)
  have HLt : Hid (∀ x, A = some x → 0 < L → x.block < w.heap.size) := Lib.hid (fun x hx h0 => (HRd.out.cell x hx).1 h0)
  clear hro HB0 HRd
  generalize w.alloc (.cells ZC 40) = w1 at *
  go_upto_region 2 with (fail)
  have HB2 := Lib.hid (HB1.out.alloc (show w.heap.size ≤ w1.heap.size by omega) (.cells #[.slice A L C, .int .i64 0, .int .i64 0] 110))
  have HO2 := Lib.hid (World.rowIs.alloc HO1.out (.cells #[.slice A L C, .int .i64 0, .int .i64 0] 110))
  have hr2 := row_new w1 #[.slice A L C, .int .i64 0, .int .i64 0] 110
  have HR2 : Hid (Rdr (w1.alloc (.cells #[.slice A L C, .int .i64 0, .int .i64 0] 110)) w1.heap.size 3 110 A L C l 0 0 (fun _ => undef)) := Lib.hid ⟨hr2.congr (fun j hj => by
      match j, hj with
      | 0, _ => rfl
      | 1, _ => rfl
      | 2, _ => rfl), by decide, HRd1.out.below ((Below.refl w1.heap.size w1).alloc (Nat.le_refl _) _), fun x hx h0 => by have := HLt.out x hx h0; omega, Nat.zero_le _⟩
  clear hr2 HO1 HB1 HRd1
  obtain ⟨R, hR⟩ : ∃ R, R = w.heap.size + 1 := ⟨_, rfl⟩
  obtain ⟨O, hO⟩ : ∃ O, O = w.heap.size := ⟨_, rfl⟩
  rw [hX1, ← hR] at HR2
  rw [← hR]
  rw [← hO] at HO2 HLt ⊢
  have hRO : O < R := by omega
  clear hX1
  generalize w1.alloc (.cells #[.slice A L C, .int .i64 0, .int .i64 0] 110) = w2 at *
  have HOw := Lib.hid hO
  clear hR hO
  have HCm := Lib.hid (commit_r R A L C l 0 0 (fun _ => undef) w2 HR2.out)
  have hRs := HR2.out.row.lt
  clear HR2
  go_wp2_with fail
  refine HCm.out.mono ?_
  rintro e w3 ⟨h32, hR3, hg3, Ai, Ci, rfl, ho3⟩
  have HB3 : Hid (Below w.heap.size w w3) := Lib.hid (HB2.out.grown hg3 (by have := HOw.out; omega) (fun k hk => by have := Option.some.inj hk; have := HOw.out; omega))
  have HO3 := Lib.hid (World.rowIs.of_block HO2.out (hg3.block O HO2.out.lt (fun e => by have := Option.some.inj e; omega)))
  have hw2 : w2.heap.size ≤ w3.heap.size := hg3.size
  obtain ⟨q, hq⟩ : ∃ q, q = cQ 0 l 0 L := ⟨_, rfl⟩
  obtain ⟨F, hF⟩ : ∃ F, F = cF7 0 l 0 L := ⟨_, rfl⟩
  rw [← hF] at hR3
  have HQ := Lib.hid hq
  rw [← hq] at h32 ho3 ⊢
  have hcl : (cm (cT 0 l 0 L) (.slice Ai q.2.2.length Ci) (cAu 0 l 0 L) (tv (cB 0 l 0 L)) (cMs 0 l 0 L)).length = 36 := cm_len _ _ _ _ _ (by
    unfold cT
    refine idv_len _ ?_
    unfold tkL
    split
    · rw [List.length_take]; omega
    · simp)
  have hco := cm_one (cT 0 l 0 L) (.slice Ai q.2.2.length Ci) (cAu 0 l 0 L) (tv (cB 0 l 0 L)) (cMs 0 l 0 L) rfl
  generalize hCM : cm (cT 0 l 0 L) (.slice Ai q.2.2.length Ci) (cAu 0 l 0 L) (tv (cB 0 l 0 L)) (cMs 0 l 0 L) = CM at *
  have HCM := Lib.hid hCM
  have H32 := Lib.hid h32
  have hxr := row_new w3 ZC 40
  rw [HZl.out] at hxr
  have hb4 := HB3.out.alloc (show w.heap.size ≤ w3.heap.size by have := HOw.out; omega) (.cells ZC 40)
  have hb34 := (Below.refl w3.heap.size w3).alloc (Nat.le_refl _) (.cells ZC 40)
  have HFx := Lib.hid (Fin.mk' hcl hco hxr hb4 (show w.heap.size ≤ w3.heap.size by have := HOw.out; omega))
  have HXr : Hid (((w3.alloc (.cells ZC 40)).setCells w3.heap.size 0 CM).rangeAt w3.heap.size 0 CM) := Lib.hid (World.rangeAt_setCells_same _ _ _ _ (by have := HFx.out.there; rwa [List.size_toArray] at this))
  have HO4 := Lib.hid (row_apart (b := O) (E := w3.heap.size) (by have := HO3.out.lt; omega) CM 0 _ (HO3.out.alloc (.cells ZC 40)))
  have HR4 := Lib.hid (Rdr.laid (X := w3.heap.size) (by omega) CM 0 _ (fun x hx h0 => by have := HLt.out x hx h0; have := HO3.out.lt; omega) (hR3.below hb34))
  have HOx := Lib.hid (own_grown (own_keep ho3 hb34) (grown_cells _ w3.heap.size CM 0) (fun e => by have := (ho3.lt _ e).2; omega))
  have HSz : Hid ((Try.prog.info? 40).map (·.size) = some CM.length) := Lib.hid (by rw [hcl]; kernel_rfl)
  have HCl := Lib.hid hcl
  have HCo := Lib.hid hco
  have hOX : O < w3.heap.size := HO3.out.lt
  clear h32 hR3 hg3 hq hcl hco hCM ho3 hxr hb4 hb34 HB2 HO2 HO3 HB3 HCm
  go_upto_region 3 with (refine wpList_store_mid rfl _ _ _ rfl w3.heap.size 0 CM.toArray rfl rfl HFx.out.there HFx.out.size HFx.out.one ?_)
  change Code.wp _ _ _ _ ((w3.alloc (.cells ZC 40)).setCells w3.heap.size 0 CM)
  have HBx := Lib.hid HFx.out.bel
  have hXs := HO4.out.lt
  have hXl : w3.heap.size < ((w3.alloc (.cells ZC 40)).setCells w3.heap.size 0 CM).heap.size := HXr.out.lt_of (by rw [HCl.out]; decide)
  clear HFx
  generalize (w3.alloc (.cells ZC 40)).setCells w3.heap.size 0 CM = w4 at *
  have ho2 : O ≤ w3.heap.size := Nat.le_of_lt hOX
  have hR3 : R < w3.heap.size := by omega
  generalize w3.heap.size = X at *
  have HOk := Lib.hid (ok_any R 3 110 A L C l _ F _ w4 HR4.out)
  by_cases h0 : F = 0
  · have hd : (F == 0) = true := by simp [h0]
    have HFo := Lib.hid (Fin.mk' HCl.out HCo.out HO4.out HBx.out (show w.heap.size ≤ O by have := HOw.out; omega))
    have HOz := Lib.hid (own_grown HOx.out (grown_cells w4 O CM 0) (fun e => by have := (HOx.out.lt O e).1; omega))
    have H0 := Lib.hid (hF.symm.trans h0)
    clear hF h0
    go_wp2_with fail
    refine HOk.out.mono ?_
    rintro e w5 ⟨rfl, rfl⟩
    clear HOk
    go_wp2_with (first
      | (refine wpList_load_mid rfl _ _ rfl X 0 rfl CM _ HXr.out Try.underlying40 rfl HSz.out ?_)
      | (refine wpList_store_mid rfl _ _ _ rfl O 0 CM.toArray rfl rfl HFo.out.there HFo.out.size HFo.out.one ?_))
    refine bodyPost_ret (results_cell2 rfl _ _ O _ _ _ _ rfl HFo.out.stored Try.underlying40 rfl HFo.out.size (.int .i64 0) rfl) rfl ?_
    refine ⟨HFo.out.bel, .inr ⟨H0.out, by rw [← HQ.out]; exact H32.out, Ai, Ci, by rw [← HQ.out, HCM.out], ?_⟩⟩
    rw [← HQ.out]
    exact own_base HOz.out (by have := HOw.out; omega)
  · have hd : (F == 0) = false := by simp [h0]
    have HFz := Lib.hid (Fin.mk' cm0_len cm0_one (World.rowIs.drew HO4.out) HBx.out.drew (show w.heap.size ≤ O by have := HOw.out; omega))
    have HcF : Hid (w4.drew.cell? ⟨R, 2, none⟩ = some (.int .i64 F)) := Lib.hid HR4.out.c2
    have HcF2 : Hid ((w4.drew.setCells O 0 cm0.toArray.toList).cell? ⟨R, 2, none⟩ = some (.int .i64 F)) := Lib.hid (Rdr.laid (X := O) (by omega) cm0 0 _ (fun x hx h0 => by have := HLt.out x hx h0; omega) (HR4.out.drewN 1)).c2
    have H0 : Hid (cF7 0 l 0 L ≠ 0) := Lib.hid (fun e => h0 (hF.trans e))
    have HF := Lib.hid hF
    clear hF h0
    go_wp2_with fail
    refine HOk.out.mono ?_
    rintro e w5 ⟨rfl, rfl⟩
    clear HOk
    go_wp2_with fail
    refine wp_region_noPanic ?_
    refine wp_region_held_drew (S := (fun wS => wS.cell? ⟨R, 2, none⟩ = some (.int .i64 F))) (by kernel_rfl) ?_ (fun hHeld => ?_)
    · ((try dsimp only); exact HcF.out)
    refine wpAnyH_take (i := 0) (oi := { dst := some 17, op := Op.build 40 #[], type := 40, pos := "commit.go:58", after := #[], guard := none }) (v := ?_) rfl (by kernel_rfl) (by kernel_rfl) (by kernel_rfl) (fun _ _ _ h => h) (Or.inl ⟨by rfl, ?_⟩) (by assumption) ?_
    rotate_left 1
    · ((intro w hSw; (try dsimp only at hSw); go_simp) <;> with_reducible rfl)
    (try simp only [Act.put, List.setIfInBounds_toArray, List.set_cons_zero, List.set_cons_succ])
    refine wpAnyH_take (i := 1) (oi := { dst := some 18, op := Op.move (Operand.tmp 4), type := 108, pos := "commit.go:58", after := #[{ on := 6, ground := Ground.gcOnly Departure.lateStores }], guard := none }) (v := ?_) rfl (by kernel_rfl) (by kernel_rfl) (by kernel_rfl) (fun _ _ _ h => h) (Or.inl ⟨by rfl, ?_⟩) (by assumption) ?_
    rotate_left 1
    · ((intro w hSw; (try dsimp only at hSw); go_simp) <;> with_reducible rfl)
    (try simp only [Act.put, List.setIfInBounds_toArray, List.set_cons_zero, List.set_cons_succ])
    refine wpAnyH_take (i := 2) (oi := { dst := some 19, op := Op.nilCheck (Operand.tmp 18), type := 0, pos := "commit.go:58", after := #[{ on := 1, ground := Ground.data }, { on := 6, ground := Ground.gcOnly Departure.lateStores }], guard := none }) (v := ?_) rfl (by kernel_rfl) (by kernel_rfl) (by kernel_rfl) (fun _ _ _ h => h) (Or.inl ⟨by rfl, ?_⟩) (by assumption) ?_
    rotate_left 1
    · ((intro w hSw; (try dsimp only at hSw); go_simp) <;> with_reducible rfl)
    (try simp only [Act.put, List.setIfInBounds_toArray, List.set_cons_zero, List.set_cons_succ])
    refine wpAnyH_take (i := 3) (oi := { dst := some 20, op := Op.fieldAddr 110 (Operand.tmp 19) 0, type := 0, pos := "commit.go:58", after := #[{ on := 2, ground := Ground.data }, { on := 6, ground := Ground.gcOnly Departure.lateStores }], guard := none }) (v := ?_) rfl (by kernel_rfl) (by kernel_rfl) (by kernel_rfl) (fun _ _ _ h => h) (Or.inl ⟨by rfl, ?_⟩) (by assumption) ?_
    rotate_left 1
    · ((intro w hSw; (try dsimp only at hSw); go_simp) <;> with_reducible rfl)
    (try simp only [Act.put, List.setIfInBounds_toArray, List.set_cons_zero, List.set_cons_succ])
    refine wpAnyH_take (i := 4) (oi := { dst := some 21, op := Op.fieldAddr 94 (Operand.tmp 20) 2, type := 0, pos := "commit.go:58", after := #[{ on := 3, ground := Ground.data }, { on := 6, ground := Ground.gcOnly Departure.lateStores }], guard := none }) (v := ?_) rfl (by kernel_rfl) (by kernel_rfl) (by kernel_rfl) (fun _ _ _ h => h) (Or.inl ⟨by rfl, ?_⟩) (by assumption) ?_
    rotate_left 1
    · ((intro w hSw; (try dsimp only at hSw); go_simp) <;> with_reducible rfl)
    (try simp only [Act.put, List.setIfInBounds_toArray, List.set_cons_zero, List.set_cons_succ])
    refine wpAnyH_take (i := 5) (oi := { dst := some 22, op := Op.load 25 (Operand.tmp 21), type := 25, pos := "commit.go:58", after := #[{ on := 4, ground := Ground.data }, { on := 6, ground := Ground.gcOnly Departure.lateStores }], guard := none }) (v := ?_) rfl (by kernel_rfl) (by kernel_rfl) (by kernel_rfl) (fun _ _ _ h => h) (Or.inl ⟨by rfl, ?_⟩) (by assumption) ?_
    rotate_left 1
    · ((intro w hSw; (try dsimp only at hSw); go_simp) <;> with_reducible rfl)
    (try simp only [Act.put, List.setIfInBounds_toArray, List.set_cons_zero, List.set_cons_succ])
    refine wpAnyH_ready (rs := [6]) (by kernel_rfl) (by simp) ?_
    refine AllReadyH.cons (o := { dst := none, op := Op.store 40 (Operand.tmp 2) (Operand.tmp 17), type := 0, pos := "commit.go:58", after := #[{ on := 0, ground := Ground.data }, { on := 0, ground := Ground.phase }, { on := 1, ground := Ground.textOnly Departure.lateStores }, { on := 2, ground := Ground.textOnly Departure.lateStores }, { on := 3, ground := Ground.textOnly Departure.lateStores }, { on := 4, ground := Ground.textOnly Departure.lateStores }, { on := 5, ground := Ground.textOnly Departure.lateStores }], guard := none }) rfl (fun K hK => ?_) ?_
    · refine step_store_mid rfl _ _ _ rfl O 0 cm0.toArray rfl (show _ = _ from congrArg Value.agg HZC.out.symm) HFz.out.there HFz.out.size HFz.out.one ?_
      (try go_wp2_with fail)
      refine hK.out _ _ ?_ (fun hNew => ?_)
      · ((try dsimp only); exact HcF2.out)
      clear hK K hHeld
      have hHeld := hNew
      clear hNew
      (try simp only [Act.put, List.setIfInBounds_toArray, List.set_cons_zero, List.set_cons_succ])
      refine wpAnyH_take (i := 7) (oi := { dst := some 3, op := Op.assign (Operand.tmp 22), type := 25, pos := "commit.go:58", after := #[{ on := 5, ground := Ground.data }, { on := 6, ground := Ground.chain }, { on := 0, ground := Ground.phase }, { on := 1, ground := Ground.phase }, { on := 2, ground := Ground.phase }, { on := 3, ground := Ground.phase }, { on := 4, ground := Ground.phase }, { on := 5, ground := Ground.phase }, { on := 6, ground := Ground.phase }], guard := none }) (v := ?_) rfl (by kernel_rfl) (by kernel_rfl) (by kernel_rfl) (fun _ _ _ h => h) (Or.inl ⟨by rfl, ?_⟩) (by assumption) ?_
      rotate_left 1
      · ((intro w hSw; (try dsimp only at hSw); go_simp) <;> with_reducible rfl)
      (try simp only [Act.put, List.setIfInBounds_toArray, List.set_cons_zero, List.set_cons_succ])
      refine wpAnyH_done (by kernel_rfl) ?_ _
      refine NoPanic.normal ?_
      clear hHeld
      go_wp2_with fail
      refine bodyPost_ret (results_cell2 rfl _ _ O _ _ _ _ rfl HFz.out.stored Try.underlying40 rfl HFz.out.size (.int .i64 F) rfl) rfl ?_
      exact ⟨HFz.out.bel, .inl ⟨H0.out, by rw [HF.out]⟩⟩
    exact AllReadyH.nil
end Go.Proofs.Ytmcmapgllaopmaa.Cd
end

section
namespace Go.Proofs.Ytmcmapgllaopmaa.Cd
open Go.RowKit
set_option linter.unusedVariables false
theorem Fin.mkN {w0 w : World} {B O n : Nat} {t : TypeId} {D : List Value} {f : Nat → Value} (hi : (Try.prog.info? t).map (·.size) = some n) (hl : D.length = n) (h1 : ∀ v ∈ D, v.oneCell' = true) (hr : w.rowIs O t n f) (hb : Below B w0 w) (hO : B ≤ O) : Fin w0 B w O t D :=
  ⟨fun j hj => by
    rw [List.size_toArray, hl] at hj
    rw [Nat.zero_add]
    exact ⟨by rw [hr.cell hj]; rfl, hr.frozen _⟩, by rw [List.size_toArray, hl]; exact hi, all_oneCell_toArray h1, row_stored hr D hl, below_cells hO D 0 w hb⟩
theorem infoId : (Try.prog.info? 37).map (·.size) = some 32 := by kernel_rfl
/-- a value of many cells laid in a block of its own -/
theorem lay_new (w : World) (t : TypeId) (n : Nat) (Z : Array Value) (D : List Value) (hi : (Try.prog.info? t).map (·.size) = some n) (hZ : Z.size = n) (hl : D.length = n) (h1 : ∀ v ∈ D, v.oneCell' = true) :
    Fin w w.heap.size (w.alloc (.cells Z t)) w.heap.size t D ∧ ((w.alloc (.cells Z t)).setCells w.heap.size 0 D).rangeAt w.heap.size 0 D := by
  have hr := row_new w Z t
  rw [hZ] at hr
  have hf := Fin.mkN (f := fun i => Z.getD i undef) hi hl h1 hr ((Below.refl w.heap.size w).alloc (Nat.le_refl _) (.cells Z t)) (Nat.le_refl _)
  exact ⟨hf, World.rangeAt_setCells_same _ _ _ _ (by have := hf.there; rwa [List.size_toArray] at this)⟩
end Go.Proofs.Ytmcmapgllaopmaa.Cd
end

section
namespace Go.Proofs.Ytmcmapgllaopmaa.Cd
open Go.RowKit
set_option linter.unusedVariables false
/-- why an object may not be, and its letter -/
def ckE (k : Int) (l : List Int) (L : Nat) : Int := if k = 1 then (if 65536 < L then 5 else 0) else if k = 2 then (pT l L (L + 1) 0 []).1 else if k = 3 then cF7 0 l 0 L else 3
def ckL (k : Int) (l : List Int) (L : Nat) : Int := if k = 1 then (if 65536 < L then 0 else 98) else if k = 2 then 116 else if k = 3 then 99 else 0
set_option maxRecDepth 100000 in
set_option maxHeartbeats 1000000 in
theorem ck_any (k : Int) (A : Option Addr) (L C : Nat) (l : List Int) (w : World) (h : RdB w A L C l) :
    Calls Try.prog 57 #[.agg #[.int .i64 k, .slice A L C]] w fun e w' => e = .returned (.tuple #[.int .u8 (ckL k l L), .int .i64 (ckE k l L)]) ∧ Below w.heap.size w w' := by
  have hB0 := (Below.refl w.heap.size w).alloc (Nat.le_refl _) (.cells #[.int .i64 k, .slice A L C] 50)
  have HRd := Lib.hid (h.below hB0)
  have HB0 := Lib.hid hB0
  have hs := al_lt w (.cells #[.int .i64 k, .slice A L C] 50)
  have hc0 := al_cell w #[.int .i64 k, .slice A L C] 50 0 _ rfl
  have hc1 := al_cell w #[.int .i64 k, .slice A L C] 50 1 _ rfl
  have hcap := h.cap
  have hmax := h.max
  have hbig := h.big
  clear h hB0
  by_cases h1 : k = 1
  · subst h1
    by_cases h2 : 65536 < L
    · have HE : Hid (ckE 1 l L = 5 ∧ ckL 1 l L = 0) := Lib.hid ⟨by unfold ckE; rw [if_pos rfl, if_pos h2], by unfold ckL; rw [if_pos rfl, if_pos h2]⟩
      have hd : decide ((65536 : Int) < (L : Int)) = true := by simp; omega
      go_enter Try.func57, Try.ntmps57
      go_wp2_with fail
      go_ret2
      rw [HE.out.1, HE.out.2]
      exact ⟨rfl, HB0.out⟩
    · have HE : Hid (ckE 1 l L = 0 ∧ ckL 1 l L = 98) := Lib.hid ⟨by unfold ckE; rw [if_pos rfl, if_neg h2], by unfold ckL; rw [if_pos rfl, if_neg h2]⟩
      have hd : decide ((65536 : Int) < (L : Int)) = false := by simp; omega
      go_enter Try.func57, Try.ntmps57
      go_wp2_with fail
      go_ret2
      rw [HE.out.1, HE.out.2]
      exact ⟨rfl, HB0.out⟩
  · by_cases h2 : k = 2
    · subst h2
      have HE : Hid (ckE 2 l L = (pT l L (L + 1) 0 []).1 ∧ ckL 2 l L = 116) := Lib.hid ⟨rfl, rfl⟩
      have HP := Lib.hid (parseTree_any A L C l _ HRd.out)
      go_enter Try.func57, Try.ntmps57
      go_wp2_with fail
      refine HP.out.mono ?_
      rintro e w1 ⟨hb, hr⟩
      have HB1 := Lib.hid (HB0.out.trans (hb.mono (Nat.le_of_lt hs)))
      rcases hr with ⟨-, rfl⟩ | ⟨hp, -, Ae, Ce, rfl, -⟩
      · clear hb HP
        go_wp2_with fail
        go_ret2
        rw [HE.out.1, HE.out.2]
        exact ⟨rfl, HB1.out⟩
      · have HP0 := Lib.hid hp
        clear hb HP hp
        go_wp2_with fail
        go_ret2
        rw [HE.out.1, HE.out.2, HP0.out]
        exact ⟨rfl, HB1.out⟩
    · by_cases h3 : k = 3
      · subst h3
        have HE : Hid (ckE 3 l L = cF7 0 l 0 L ∧ ckL 3 l L = 99) := Lib.hid ⟨rfl, rfl⟩
        have HP := Lib.hid (parseCommit_any A L C l _ HRd.out)
        have hz : ∀ w : World, (zeroValue 40).run Try.prog w = .ok (.agg cm0.toArray) w := zeroCm
        have HZl : Hid (cm0.toArray.size = 36) := Lib.hid (by rw [List.size_toArray, cm0_len])
        generalize hZC : cm0.toArray = ZC at *
        have HZC := Lib.hid hZC
        clear hZC
        go_enter Try.func57, Try.ntmps57
        go_wp2_with fail
        refine HP.out.mono ?_
        rintro e w1 ⟨hb, hr⟩
        have HB1 := Lib.hid (HB0.out.trans (hb.mono (Nat.le_of_lt hs)))
        have hs1 : w.heap.size ≤ w1.heap.size := HB1.out.size
        have hxr := row_new w1 ZC 40
        rw [HZl.out] at hxr
        have hb4 := HB1.out.alloc hs1 (.cells ZC 40)
        rcases hr with ⟨-, rfl⟩ | ⟨hp, -, Ai, Ci, rfl, -⟩
        · have HFx := Lib.hid (Fin.mk' cm0_len cm0_one hxr hb4 hs1)
          clear hb HP hxr hb4
          go_wp2_with (refine wpList_store_mid rfl _ _ _ rfl w1.heap.size 0 cm0.toArray rfl rfl HFx.out.there HFx.out.size HFx.out.one ?_)
          go_ret2
          rw [HE.out.1, HE.out.2]
          exact ⟨rfl, HFx.out.bel⟩
        · have hcl : (cm (cT 0 l 0 L) (.slice Ai (cQ 0 l 0 L).2.2.length Ci) (cAu 0 l 0 L) (tv (cB 0 l 0 L)) (cMs 0 l 0 L)).length = 36 := cm_len _ _ _ _ _ (by
            unfold cT
            refine idv_len _ ?_
            unfold tkL
            split
            · rw [List.length_take]; omega
            · simp)
          have hco := cm_one (cT 0 l 0 L) (.slice Ai (cQ 0 l 0 L).2.2.length Ci) (cAu 0 l 0 L) (tv (cB 0 l 0 L)) (cMs 0 l 0 L) rfl
          generalize hCM : cm (cT 0 l 0 L) (.slice Ai (cQ 0 l 0 L).2.2.length Ci) (cAu 0 l 0 L) (tv (cB 0 l 0 L)) (cMs 0 l 0 L) = CM at *
          have HFx := Lib.hid (Fin.mk' hcl hco hxr hb4 hs1)
          have HP0 := Lib.hid hp
          clear hb HP hxr hb4 hCM hp hcl hco
          go_wp2_with (refine wpList_store_mid rfl _ _ _ rfl w1.heap.size 0 CM.toArray rfl rfl HFx.out.there HFx.out.size HFx.out.one ?_)
          go_ret2
          rw [HE.out.1, HE.out.2, HP0.out]
          exact ⟨rfl, HFx.out.bel⟩
      · have HE : Hid (ckE k l L = 3 ∧ ckL k l L = 0) := Lib.hid ⟨by unfold ckE; rw [if_neg h1, if_neg h2, if_neg h3], by unfold ckL; rw [if_neg h1, if_neg h2, if_neg h3]⟩
        have d1 : (k == 1) = false := by simp [h1]
        have d2 : (k == 2) = false := by simp [h2]
        have d3 : (k == 3) = false := by simp [h3]
        clear h1 h2 h3
        go_enter Try.func57, Try.ntmps57
        go_wp2_with fail
        go_ret2
        rw [HE.out.1, HE.out.2]
        exact ⟨rfl, HB0.out⟩
/-- what EncodeObj hands back -/
def EoRet (k : Int) (l : List Int) (L : Nat) (w : World) (e : Ending) (w' : World) : Prop :=
  Below w.heap.size w w' ∧
  ((ckE k l L ≠ 0 ∧ e = .returned (.tuple #[.slice none 0 0, .int .i64 (ckE k l L)])) ∨
   (ckE k l L = 0 ∧ ∃ A' C', e = .returned (.tuple #[.slice A' (5 + L) C', .int .i64 0]) ∧ w'.ownsRow w.heap.size 5 1 (.slice A' (5 + L) C') (5 + L) (bv (ckL k l L :: be 4 (L : Int) ++ l))))
theorem ckL_byte (k : Int) (l : List Int) (L : Nat) : 0 ≤ ckL k l L ∧ ckL k l L ≤ 255 := by
  unfold ckL
  split
  · split <;> omega
  · split
    · omega
    · split <;> omega
set_option maxRecDepth 100000 in
set_option maxHeartbeats 1000000 in
theorem encodeObj_any (k : Int) (A : Option Addr) (L C : Nat) (l : List Int) (w : World) (h : RdB w A L C l) (hL : L ≤ 140737488000000) :
    Calls Try.prog 22 #[.agg #[.int .i64 k, .slice A L C]] w (EoRet k l L w) := by
  have hB0 := (Below.refl w.heap.size w).alloc (Nat.le_refl _) (.cells #[.int .i64 k, .slice A L C] 50)
  have HRd := Lib.hid (h.below hB0)
  have HCk := Lib.hid (ck_any k A L C l _ (h.below hB0))
  have HB0 := Lib.hid hB0
  have hs := al_lt w (.cells #[.int .i64 k, .slice A L C] 50)
  have hc1 := al_cell w #[.int .i64 k, .slice A L C] 50 1 _ rfl
  have hcap := h.cap
  have hmax := h.max
  have hby := ckL_byte k l L
  have hb0 := hby.1
  have hb1 := hby.2
  clear h hB0 hby
  obtain ⟨E, hE⟩ : ∃ E, E = ckE k l L := ⟨_, rfl⟩
  obtain ⟨T, hT⟩ : ∃ T, T = ckL k l L := ⟨_, rfl⟩
  rw [← hT] at hb0 hb1
  rw [← hE, ← hT] at HCk
  have HE := Lib.hid hE
  have HT := Lib.hid hT
  clear hE hT
  have h0c := al_cell w #[.int .i64 k, .slice A L C] 50 0 _ rfl
  go_enter Try.func22, Try.ntmps22
  go_wp2_with fail
  refine HCk.out.mono ?_
  rintro e w1 ⟨rfl, hb⟩
  have HB1 := Lib.hid (HB0.out.trans (hb.mono (Nat.le_of_lt hs)))
  have HRd1 := Lib.hid (HRd.out.below hb)
  have hc1' : w1.cell? ⟨w.heap.size, 1, none⟩ = some (.slice A L C) := (hb.cell (p := ⟨w.heap.size, 1, none⟩) hs).trans hc1
  have hs1 : w.heap.size < w1.heap.size := Nat.lt_of_lt_of_le hs hb.size
  clear hb HCk HRd hc1 h0c HB0 hs
  by_cases h0 : E = 0
  · have hd : (E != 0) = false := by simp [h0]
    have hca : ∀ o, (w1.alloc o).cell? ⟨w.heap.size, 1, none⟩ = some (.slice A L C) := al_keep hc1'
    have H0 := Lib.hid (HE.out.symm.trans h0)
    clear h0
    go_wp2_with fail
    refine (number_any w1.heap.size _ 1 (bv [T]) L 4 _ (al_le w1 _) (own_lit w1 [T] (by unfold maxLen; simp)) (by omega) (by omega) (by omega) (by omega)).mono ?_
    rintro e w2 ⟨v2, rfl, ho, hb2⟩
    have hb3 := ((Below.refl w1.heap.size w1).alloc (Nat.le_refl _) (.cells (bv [T]).toArray 5)).trans hb2
    have HB2 := Lib.hid (HB1.out.trans (hb3.mono (Nat.le_of_lt hs1)))
    have HRd2 := Lib.hid (HRd1.out.below hb3)
    have hc3 : w2.cell? ⟨w.heap.size, 1, none⟩ = some (.slice A L C) := (hb3.cell (p := ⟨w.heap.size, 1, none⟩) hs1).trans hc1'
    have HO : Hid (w2.ownsRow w1.heap.size 5 1 v2 5 (bv (T :: be 4 (L : Int)))) := Lib.hid (by
      rw [show bv (T :: be 4 (L : Int)) = bv [T] ++ bv (be 4 (L : Int)) by simp [bv]]; exact ho)
    have hs2 : w1.heap.size ≤ w2.heap.size := hb3.size
    obtain ⟨A2, C2, rfl⟩ := own_slice' HO.out
    clear hb2 hb3 ho hca hc1' HRd1 HB1
    go_wp2_with (refine wpList_append_rd w2 rfl _ _ rfl w1.heap.size (.slice A2 5 C2) 5 (T :: be 4 (L : Int)) rfl HO.out A L C l rfl HRd2.out (by omega) hs2 ?_)
    intro A' C' w3 ho hb
    have HO3 := Lib.hid ho
    have HB3 := Lib.hid (HB2.out.trans (hb.mono (Nat.le_of_lt hs1)))
    clear ho hb
    go_wp2_with fail
    go_ret2
    refine ⟨HB3.out, .inr ⟨H0.out, A', C', rfl, ?_⟩⟩
    rw [← HT.out]
    exact own_base HO3.out (Nat.le_of_lt hs1)
  · have hd : (E != 0) = true := by simp [h0]
    have H0 : Hid (ckE k l L ≠ 0) := Lib.hid (fun e => h0 (HE.out.trans e))
    clear h0
    go_wp2_with fail
    go_ret2
    exact ⟨HB1.out, .inl ⟨H0.out, by rw [← HE.out]; rfl⟩⟩
end Go.Proofs.Ytmcmapgllaopmaa.Cd
end

section
namespace Go.Proofs.Ytmcmapgllaopmaa.Cd
open Go.RowKit
set_option linter.unusedVariables false
theorem own_nil (w : World) (B : Nat) : w.ownsRow B 5 1 (.slice none 0 0) 0 (bv []) := ⟨by simp [bv], .inl ⟨rfl, rfl⟩⟩
end Go.Proofs.Ytmcmapgllaopmaa.Cd
end

section
namespace Go.Proofs.Ytmcmapgllaopmaa.Cd
open Go.RowKit
set_option linter.unusedVariables false
theorem tv_snoc (l : List Int) (c : Int) : tv (l ++ [c]) = bits .or .i64 (wrap64 (tv l * 256)) c := by simp [tv]
end Go.Proofs.Ytmcmapgllaopmaa.Cd
end

section
namespace Go.Proofs.Ytmcmapgllaopmaa.Cd
open Go.RowKit
set_option linter.unusedVariables false
/-- an entry's cells by their index -/
def etF (nm : ByteArray) (k : Int) (ids : List Int) : Nat → Value
  | 0 => .string nm
  | 1 => .int .i64 k
  | j + 2 => .int .u8 (ids.getD j 0)
theorem ent_getD (nm : ByteArray) (k : Int) (ids : List Int) (hl : ids.length = 32) (j : Nat) (hj : j < 34) : (ent nm k ids)[j]? = some (etF nm k ids j) := by
  match j, hj with
  | 0, _ => rfl
  | 1, _ => rfl
  | j + 2, h =>
    show (bv ids)[j]? = some (.int .u8 (ids.getD j 0))
    simp [bv, List.getD, show j < ids.length by omega]
theorem ent_length (nm : ByteArray) (k : Int) (ids : List Int) (hl : ids.length = 32) : (ent nm k ids).length = 34 := by simp [ent, bv, hl]
theorem ent_one' (nm : ByteArray) (k : Int) (ids : List Int) : ∀ v ∈ ent nm k ids, v.oneCell' = true := by
  intro v hv
  rcases List.mem_cons.1 hv with rfl | hv
  · rfl
  · rcases List.mem_cons.1 hv with rfl | hv
    · rfl
    · exact bv_one ids v hv
theorem en_start {w : World} {X : Nat} {f : Nat → Value} (h : w.rowIs X 87 34 f) (nm : ByteArray) (k : Int) (ids : List Int) (hl : ids.length = 32) : (w.setCells X 0 (ent nm k ids)).rowIs X 87 34 (etF nm k ids) :=
  (row_lay h 0 (ent nm k ids)).congr (fun j hj => by
    have hlen := ent_length nm k ids hl
    rw [layF, if_pos (by omega), Nat.sub_zero, List.getD_eq_getElem?_getD, ent_getD nm k ids hl j hj]
    rfl)
theorem en_range {w : World} {X : Nat} {nm : ByteArray} {k : Int} {ids : List Int} (h : w.rowIs X 87 34 (etF nm k ids)) (hl : ids.length = 32) : w.rangeAt X 0 (ent nm k ids) := fun j v hj => by
  have hlen := (List.getElem?_eq_some_iff.1 hj).1
  rw [ent_length nm k ids hl] at hlen
  rw [Nat.zero_add, h.cell hlen, ← hj, ent_getD nm k ids hl j hlen]
theorem en_there {w : World} {X : Nat} {f : Nat → Value} (h : w.rowIs X 87 34 f) (o n : Nat) (hn : o + n ≤ 34) : w.there X o n := fun j hj =>
  ⟨by rw [h.cell (show o + j < 34 by omega)]; rfl, h.frozen _⟩
end Go.Proofs.Ytmcmapgllaopmaa.Cd
end
