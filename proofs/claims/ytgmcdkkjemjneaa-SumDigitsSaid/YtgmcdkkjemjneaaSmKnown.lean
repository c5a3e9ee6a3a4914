/- known of chapter 1. -/
import Derived.Test.YtgmcdkkjemjneaaSmHex
namespace Go.Proofs.Ytgmcdkkjemjneaa.Sm
open Go.RowKit
set_option linter.unusedVariables false

theorem kc1 (w : World) (C : Array Value) (n c : Nat) : Sem.run Try.prog (convert 24 24 (Value.slice (some ⟨w.heap.size, 0, none⟩) n c)) (w.alloc (Obj.cells C 5)) = Result.ok (Value.slice (some ⟨w.heap.size, 0, none⟩) n c) (w.alloc (Obj.cells C 5 (C.size, C.size + 1))) :=
  Lib.run_convert_bytes_const (P := Try.prog) w 24 5 C n c Try.underlying24 Try.underlying5

def abcD : List Int := [186, 120, 22, 191, 143, 1, 207, 234, 65, 65, 64, 222, 93, 174, 34, 35, 176, 3, 97, 163, 150, 23, 122, 156, 180, 16, 255, 97, 242, 0, 21, 173]
set_option maxRecDepth 100000 in
theorem abc_hex : ((sb (hexL abcD)).toList == [98, 97, 55, 56, 49, 54, 98, 102, 56, 102, 48, 49, 99, 102, 101, 97, 52, 49, 52, 49, 52, 48, 100, 101, 53, 100, 97, 101, 50, 50, 50, 51, 98, 48, 48, 51, 54, 49, 97, 51, 57, 54, 49, 55, 55, 97, 57, 99, 98, 52, 49, 48, 102, 102, 54, 49, 102, 50, 48, 48, 49, 53, 97, 100]) = true := by
  rw [Lib.toList_data]
  decide

set_option maxRecDepth 100000 in
set_option maxHeartbeats 1000000 in
theorem known_any (w : World) : Calls Try.prog 7 #[] w fun e w' => e = .returned (.bool true) ∧ Below w.heap.size w w' := by
  have hk := kc1 w
  have hx := abc_hex
  go_enter Try.func7, Try.ntmps7
  go_wp2_with fail
  have hs1 : (w.alloc (Obj.cells #[.int .u8 97, .int .u8 98, .int .u8 99] 5 (3, 4))).heap.size = w.heap.size + 1 := by show (w.heap.push _).size = _; simp
  have hc1 : ∀ i, i < 3 → (w.alloc (Obj.cells #[.int .u8 97, .int .u8 98, .int .u8 99] 5 (3, 4))).cell? ⟨w.heap.size, i, none⟩ = some (.int .u8 (([97, 98, 99] : List Int).getD i 0)) := by
    intro i hi
    have h : (w.alloc (Obj.cells #[.int .u8 97, .int .u8 98, .int .u8 99] 5 (3, 4))).heap[w.heap.size]? = some (Obj.cells #[.int .u8 97, .int .u8 98, .int .u8 99] 5 (3, 4)) := by show (w.heap.push _)[w.heap.size]? = _; simp
    simp only [World.cell?, h]
    rcases (show i = 0 ∨ i = 1 ∨ i = 2 by omega) with rfl | rfl | rfl <;> rfl
  have HB1 := Lib.hid ((Below.refl w.heap.size w).alloc (Nat.le_refl _) (Obj.cells #[.int .u8 97, .int .u8 98, .int .u8 99] 5 (3, 4)))
  generalize w.alloc (Obj.cells #[.int .u8 97, .int .u8 98, .int .u8 99] 5 (3, 4)) = w1 at *
  have hs2 : (w1.alloc (Obj.cells #[.slice (some ⟨w.heap.size, 0, none⟩) 3 3] 24)).heap.size = w.heap.size + 2 := by show (w1.heap.push _).size = _; simp [hs1]
  have hc2 : (w1.alloc (Obj.cells #[.slice (some ⟨w.heap.size, 0, none⟩) 3 3] 24)).cell? ⟨w.heap.size + 1, 0, none⟩ = some (.slice (some ⟨w.heap.size, 0, none⟩) 3 3) := by
    rw [← hs1, World.cell?_alloc_new]; rfl
  have hc3 : ∀ i, i < 3 → (w1.alloc (Obj.cells #[.slice (some ⟨w.heap.size, 0, none⟩) 3 3] 24)).cell? ⟨w.heap.size, i, none⟩ = some (.int .u8 (([97, 98, 99] : List Int).getD i 0)) := fun i hi => (World.cell?_alloc_some w1 _ _ (by rw [hc1 i hi]; rfl)).trans (hc1 i hi)
  have HB2 := Lib.hid (HB1.out.alloc (by omega) (Obj.cells #[.slice (some ⟨w.heap.size, 0, none⟩) 3 3] 24))
  generalize w1.alloc (Obj.cells #[.slice (some ⟨w.heap.size, 0, none⟩) 3 3] 24) = w2 at *
  have HOf := Lib.hid (of_any (some ⟨w.heap.size + 1, 0, none⟩) (w.heap.size + 1) 0 1 1 (fun _ => some ⟨w.heap.size, 0, none⟩) (fun _ => 3) (fun _ => 3) (fun _ => [97, 98, 99]) w2 (by omega) (by omega) (by omega) (fun _ => rfl) (fun _ => by omega) (fun i hi => by
    rw [show (0 : Nat) + i = 0 by omega]; exact hc2) (fun i hi => ⟨rfl, by omega, by omega, fun j hj => by
    rcases (show j = 0 ∨ j = 1 ∨ j = 2 by omega) with rfl | rfl | rfl <;> decide, w.heap.size, 0, fun _ => rfl, by omega, by omega, fun j hj => by
    rw [Nat.zero_add]; exact hc3 j hj⟩) (fun k hk => by
    rcases (show k = 0 ∨ k = 1 by omega) with rfl | rfl <;> decide))
  rw [show rowsTo (fun _ => ([97, 98, 99] : List Int)) 1 = [97, 98, 99] from rfl, abc_sha] at HOf
  clear hc1 hc2 hc3 HB1
  refine HOf.out.mono ?_
  rintro e w3 ⟨rfl, hb3⟩
  have HB3 := Lib.hid (HB2.out.trans (hb3.mono (by omega)))
  have HHx : Hid (∀ w, Calls Try.prog 17 #[.agg (bv abcD).toArray] w fun e w' => e = .returned (.string (sb (hexL abcD))) ∧ Below w.heap.size w w') := Lib.hid (fun w => hex_any abcD rfl (by decide) w)
  have hsz3 := HB3.out.size
  clear hb3 HOf
  rw [show ([186, 120, 22, 191, 143, 1, 207, 234, 65, 65, 64, 222, 93, 174, 34, 35, 176, 3, 97, 163, 150, 23, 122, 156, 180, 16, 255, 97, 242, 0, 21, 173] : List Int) = abcD from rfl]
  generalize hD : (bv abcD).toArray = D at *
  clear hD
  generalize sb (hexL abcD) = T at *
  go_wp2_with fail
  refine (HHx.out _).mono ?_
  rintro e w4 ⟨rfl, hb4⟩
  have HB4 := Lib.hid (HB3.out.trans (hb4.mono hsz3))
  clear hb4 HHx
  go_wp2_with fail
  go_ret
  exact ⟨rfl, HB4.out⟩
end Go.Proofs.Ytgmcdkkjemjneaa.Sm
