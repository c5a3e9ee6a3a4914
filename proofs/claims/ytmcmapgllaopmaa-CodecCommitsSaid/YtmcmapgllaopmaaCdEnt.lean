/- A tree of one entry, encoded. -/
import Derived.Test.YtmcmapgllaopmaaCdKnown
import Derived.Test.YtmcmapgllaopmaaCdIds
import Derived.Deep.MidRow
namespace Go.Proofs.Ytmcmapgllaopmaa.Cd
open Go.RowKit
set_option linter.unusedVariables false

theorem nm_a : NmOk ⟨#[97]⟩ := by
  unfold NmOk
  rw [Lib.toList_data]
  decide
theorem nm_a' : decide (NmOk ⟨#[97]⟩) = true := decide_eq_true nm_a

/-- an entry's cells -/
def ent (s : ByteArray) (k : Int) (ids : List Int) : List Value := .string s :: .int .i64 k :: bv ids

theorem ent_cells (s : ByteArray) (k : Int) (ids : List Int) : (Value.agg (ent s k ids).toArray).cells = (ent s k ids).toArray := rfl

theorem ent_range (s : ByteArray) (k : Int) (ids : List Int) (w : World) (t : TypeId) : (w.alloc (.cells (ent s k ids).toArray t)).rangeAt w.heap.size 0 (ent s k ids) := by
  intro j v hv
  rw [Nat.zero_add, World.cell?_alloc_new]
  simpa using hv
theorem ent_range2 (s : ByteArray) (k : Int) (ids : List Int) (w : World) (t : TypeId) : (w.alloc (.cells (ent s k ids).toArray t)).rangeAt w.heap.size 2 (bv ids) := by
  intro j v hv
  rw [World.cell?_alloc_new]
  rw [show 2 + j = j + 1 + 1 from by omega]
  simpa [ent] using hv

set_option maxRecDepth 100000 in
theorem checkEntry_one (g0 c0 : Nat) (ids : List Int) (hids : ids.length = 32) (hne : ids ≠ List.replicate 32 0) (w : World) :
    Calls Try.prog 40 #[.agg (ent ⟨#[97]⟩ 1 ids).toArray, .slice (some ⟨g0, 0, none⟩) 0 c0] w fun e w' => e = .returned (.int .i64 0) ∧ Below w.heap.size w w' := by
  have hq : ∀ W, (Op.equalIn 10000 37 (.agg (bv ids).toArray) (.agg #[.int .u8 0, .int .u8 0, .int .u8 0, .int .u8 0, .int .u8 0, .int .u8 0, .int .u8 0, .int .u8 0, .int .u8 0, .int .u8 0, .int .u8 0, .int .u8 0, .int .u8 0, .int .u8 0, .int .u8 0, .int .u8 0, .int .u8 0, .int .u8 0, .int .u8 0, .int .u8 0, .int .u8 0, .int .u8 0, .int .u8 0, .int .u8 0, .int .u8 0, .int .u8 0, .int .u8 0, .int .u8 0, .int .u8 0, .int .u8 0, .int .u8 0, .int .u8 0])).run Try.prog W = .ok false W := fun W => (ids_none ids hids W).trans (by rw [decide_eq_false hne])
  have hcl := ent_cells ⟨#[97]⟩ 1 ids
  have h0 := al_cell w (ent ⟨#[97]⟩ 1 ids).toArray 87 0 (.string ⟨#[97]⟩) rfl
  have h1 := al_cell w (ent ⟨#[97]⟩ 1 ids).toArray 87 1 (.int .i64 1) rfl
  have HR := Lib.hid (ent_range2 ⟨#[97]⟩ 1 ids w 87)
  have HL := Lib.hid (show (Try.prog.info? 37).map (·.size) = some (bv ids).length by rw [bv, List.length_map, hids]; kernel_rfl)
  generalize hE : ent ⟨#[97]⟩ 1 ids = E at *
  have HE := Lib.hid hE
  clear hE hids hne
  have HA := Lib.hid ((Below.refl w.heap.size w).alloc (Nat.le_refl _) (.cells E.toArray 87))
  go_enter Try.func40, Try.ntmps40
  go_wp2_with fail
  refine (name_any ⟨#[97]⟩ _ (by decide)).mono ?_
  rintro e w1 ⟨rfl, rfl⟩
  rw [nm_a']
  go_wp2_with (refine wpList_load_mid rfl _ _ rfl w.heap.size 2 rfl (bv ids) _ HR.out Try.underlying37 rfl HL.out ?_)
  go_quiet (fail)
  go_wp2
  go_ret
  exact ⟨rfl, below_drewN HA.out _⟩

end Go.Proofs.Ytmcmapgllaopmaa.Cd
