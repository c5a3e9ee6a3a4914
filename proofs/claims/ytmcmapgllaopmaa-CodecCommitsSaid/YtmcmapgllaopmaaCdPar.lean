/- slices.Contains of Ids; checkParent. -/
import Derived.Test.YtmcmapgllaopmaaCdIdx
namespace Go.Proofs.Ytmcmapgllaopmaa.Cd
open Go.RowKit
set_option linter.unusedVariables false

set_option maxRecDepth 100000 in
theorem contains_ids (A : Option Addr) (n C : Nat) (l : List (List Int)) (p : List Int) (hp : p.length = 32) (w : World) (h : RdIds w A n C l) (b : Bool) (hb : decide (p ∈ l) = b) :
    Calls Try.prog 102 #[.slice A n C, .agg (bv p).toArray] w fun e w' => e = .returned (.bool b) ∧ Below w.heap.size w w' := by
  have HL := Lib.hid (show (Try.prog.info? 37).map (·.size) = some (bv p).length by rw [bv, List.length_map, hp]; kernel_rfl)
  have HR : Hid ((w.alloc (.cells (bv p).toArray 37)).rangeAt w.heap.size 0 (bv p)) := Lib.hid (fun j v hj => by rw [Nat.zero_add, World.cell?_alloc_new]; simpa using hj)
  have hbA := (Below.refl w.heap.size w).alloc (Nat.le_refl _) (.cells (bv p).toArray 37)
  have HC := Lib.hid (index_ids A n C l p hp _ (h.below hbA))
  have HB0 := Lib.hid hbA
  have hsz := al_lt w (.cells (bv p).toArray 37)
  have HQ := Lib.hid hb
  clear hbA h hp hb
  generalize hDP : bv p = DP at *
  clear hDP
  go_enter Try.func102, Try.ntmps102
  go_wp2_with (refine wpList_load_mid rfl _ _ rfl w.heap.size 0 rfl DP _ HR.out Try.underlying37 rfl HL.out ?_)
  refine HC.out.mono ?_
  rintro e w1 ⟨j, rfl, hj, hb⟩
  rw [HQ.out] at hj
  have HB1 := Lib.hid (HB0.out.trans (hb.mono (Nat.le_of_lt hsz)))
  clear hb HC HR
  cases b
  · have HJ := Lib.hid hj
    clear hj
    go_wp2_with fail
    go_ret
    exact ⟨congrArg (fun b => Ending.returned (.bool b)) HJ.out, HB1.out⟩
  · have hd : 0 ≤ j := of_decide_eq_true hj
    clear hj
    go_wp2_with fail
    go_ret
    exact ⟨rfl, HB1.out⟩

/-- why a parent may not stand behind those ahead -/
def cp (p : List Int) (l : List (List Int)) : Int := if p = List.replicate 32 0 then 1 else if p ∈ l then 18 else 0

set_option maxRecDepth 100000 in
theorem parent_any (p : List Int) (hp : p.length = 32) (A : Option Addr) (n C : Nat) (l : List (List Int)) (w : World) (h : RdIds w A n C l) :
    Calls Try.prog 87 #[.agg (bv p).toArray, .slice A n C] w fun e w' => e = .returned (.int .i64 (cp p l)) ∧ Below w.heap.size w w' := by
  have HL := Lib.hid (show (Try.prog.info? 37).map (·.size) = some (bv p).length by rw [bv, List.length_map, hp]; kernel_rfl)
  have HR : Hid ((w.alloc (.cells (bv p).toArray 37)).rangeAt w.heap.size 0 (bv p)) := Lib.hid (fun j v hj => by rw [Nat.zero_add, World.cell?_alloc_new]; simpa using hj)
  have hbA := (Below.refl w.heap.size w).alloc (Nat.le_refl _) (.cells (bv p).toArray 37)
  have HC := Lib.hid (contains_ids A n C l p hp _ (h.below hbA) _ rfl)
  have HB0 := Lib.hid hbA
  have hsz := al_lt w (.cells (bv p).toArray 37)
  have hq : ∀ W, (Op.equalIn 10000 37 (.agg (bv p).toArray) (.agg #[.int .u8 0, .int .u8 0, .int .u8 0, .int .u8 0, .int .u8 0, .int .u8 0, .int .u8 0, .int .u8 0, .int .u8 0, .int .u8 0, .int .u8 0, .int .u8 0, .int .u8 0, .int .u8 0, .int .u8 0, .int .u8 0, .int .u8 0, .int .u8 0, .int .u8 0, .int .u8 0, .int .u8 0, .int .u8 0, .int .u8 0, .int .u8 0, .int .u8 0, .int .u8 0, .int .u8 0, .int .u8 0, .int .u8 0, .int .u8 0, .int .u8 0, .int .u8 0])).run Try.prog W = .ok (decide (p = List.replicate 32 0)) W := fun W => ids_none p hp W
  clear hbA h hp
  by_cases hz : p = List.replicate 32 0
  · have e1 : cp p l = 1 := if_pos hz
    rw [e1]
    rw [decide_eq_true hz] at hq
    clear e1 hz HC
    generalize hDP : bv p = DP at *
    clear hDP
    go_enter Try.func87, Try.ntmps87
    go_wp2_with (refine wpList_load_mid rfl _ _ rfl w.heap.size 0 rfl DP _ HR.out Try.underlying37 rfl HL.out ?_)
    go_ret
    exact ⟨rfl, HB0.out⟩
  · rw [decide_eq_false hz] at hq
    by_cases hm : p ∈ l
    · have e1 : cp p l = 18 := by unfold cp; rw [if_neg hz, if_pos hm]
      rw [e1]
      rw [decide_eq_true hm] at HC
      clear e1 hz hm
      generalize hDP : bv p = DP at *
      clear hDP
      go_enter Try.func87, Try.ntmps87
      go_wp2_with (refine wpList_load_mid rfl _ _ rfl w.heap.size 0 rfl DP _ HR.out Try.underlying37 rfl HL.out ?_)
      refine HC.out.mono ?_
      rintro e w1 ⟨rfl, hb⟩
      have HB1 := Lib.hid (HB0.out.trans (hb.mono (Nat.le_of_lt hsz)))
      clear hb HC HR
      go_wp2_with fail
      go_ret
      exact ⟨rfl, HB1.out⟩
    · have e1 : cp p l = 0 := by unfold cp; rw [if_neg hz, if_neg hm]
      rw [e1]
      rw [decide_eq_false hm] at HC
      clear e1 hz hm
      generalize hDP : bv p = DP at *
      clear hDP
      go_enter Try.func87, Try.ntmps87
      go_wp2_with (refine wpList_load_mid rfl _ _ rfl w.heap.size 0 rfl DP _ HR.out Try.underlying37 rfl HL.out ?_)
      refine HC.out.mono ?_
      rintro e w1 ⟨rfl, hb⟩
      have HB1 := Lib.hid (HB0.out.trans (hb.mono (Nat.le_of_lt hsz)))
      clear hb HC HR
      go_wp2_with fail
      go_ret
      exact ⟨rfl, HB1.out⟩
end Go.Proofs.Ytmcmapgllaopmaa.Cd
