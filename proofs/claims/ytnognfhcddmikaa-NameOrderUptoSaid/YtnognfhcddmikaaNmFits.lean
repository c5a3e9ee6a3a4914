/- slices.Contains at []string, name.Fits and the document's Fits, walked. -/
import Derived.Test.YtnognfhcddmikaaNmPre
import Derived.Test.YtnognfhcddmikaaNmRef
namespace Go.Proofs.Ytnognfhcddmikaa.Nm
open Go.RowKit
set_option linter.unusedVariables false

/-- a slice of strings, in memory -/
def Cells (w : World) (b off len : Nat) (ss : List ByteArray) : Prop := ss.length = len ∧ ∀ i, i < len → w.cell? ⟨b, off + i, none⟩ = some (.string (ss.getD i ByteArray.empty))

theorem str_eq (a b : ByteArray) : (a.toList == b.toList) = decide (a.data.toList = b.data.toList) := by
  rw [Bool.eq_iff_iff]; simp [Lib.toList_data]

def dl (ss : List ByteArray) : List (List UInt8) := ss.map (·.data.toList)

/-- the first place of v from k on (−1: none) -/
def idx (v : List UInt8) : List (List UInt8) → Nat → Int
  | [], _ => -1
  | x :: l, k => if v = x then (k : Int) else idx v l (k + 1)

theorem idx_lo (v : List UInt8) : ∀ l k, (0 ≤ idx v l k) ↔ v ∈ l
  | [], k => by simp [idx]
  | x :: l, k => by
      have ih := idx_lo v l (k + 1)
      unfold idx
      by_cases h : v = x
      · simp [h]
      · rw [if_neg h, ih]; simp [h]

theorem dl_drop (ss : List ByteArray) (k : Nat) (h : k < ss.length) : (dl ss).drop k = (ss.getD k ByteArray.empty).data.toList :: (dl ss).drop (k + 1) := by
  unfold dl
  rw [List.drop_eq_getElem_cons (by simpa using h)]
  simp [h]

set_option maxHeartbeats 1000000 in
theorem index_any (b off len cap : Nat) (ss : List ByteArray) (v : ByteArray) (w : World) (hl : len ≤ maxLen) (hc : Cells w b off len ss) :
    Calls Try.prog 18 #[.slice (some ⟨b, off, none⟩) len cap, .string v] w fun e w' => e = .returned (.int .i64 (idx v.data.toList (dl ss) 0)) ∧ w = w' := by
  unfold maxLen at hl
  have HC := Lib.hid hc.2
  have HL := Lib.hid hc.1
  clear hc
  go_enter Try.func18, Try.ntmps18
  go_wp2
  go_loop [8] (fun i => ∃ k : Nat, k ≤ len ∧ i = .int .i64 k ∧ Hid (idx v.data.toList (dl ss) 0 = idx v.data.toList ((dl ss).drop k) k)) (fun i => len - (intOf i).toNat)
  case atStart => exact ⟨0, Nat.zero_le _, rfl, Lib.hid rfl⟩
  case round =>
    obtain ⟨k, hk, rfl, H⟩ := hrel
    by_cases hlt : k < len
    · have hcell := HC.out k hlt
      have hd := dl_drop ss k (by rw [HL.out]; exact hlt)
      generalize hx : ss.getD k ByteArray.empty = x at hcell hd
      have HS : Hid (idx v.data.toList (dl ss) 0 = if v.data.toList = x.data.toList then (k : Int) else idx v.data.toList ((dl ss).drop (k + 1)) (k + 1)) := Lib.hid (by rw [H.out, hd]; rfl)
      clear hd hx H
      cases hq : v.toList == x.toList
      · have hq' := hq
        rw [str_eq] at hq'
        go_wp2
        go_round
        case rel => exact ⟨k + 1, by omega, by go_num, Lib.hid (by rw [HS.out, if_neg (by simpa using hq')])⟩
        case measure => simp [intOf]; omega
      · have hq' := hq
        rw [str_eq] at hq'
        go_wp2
        go_ret
        exact ⟨ret_int (by rw [HS.out, if_pos (by simpa using hq')]), rfl⟩
    · have HF : Hid (idx v.data.toList (dl ss) 0 = -1) := Lib.hid (by rw [H.out, List.drop_eq_nil_of_le (by simp [dl, HL.out]; omega)]; rfl)
      clear H
      go_wp2
      go_ret
      exact ⟨ret_int (by rw [HF.out]), rfl⟩

set_option maxHeartbeats 1000000 in
theorem contains_any (b off len cap : Nat) (ss : List ByteArray) (v : ByteArray) (w : World) (hl : len ≤ maxLen) (hc : Cells w b off len ss) :
    Calls Try.prog 15 #[.slice (some ⟨b, off, none⟩) len cap, .string v] w fun e w' => e = .returned (.bool (decide (v.data.toList ∈ dl ss))) ∧ w = w' := by
  have hi := idx_lo v.data.toList (dl ss) 0
  have HI := Lib.hid hi
  clear hi
  go_enter Try.func15, Try.ntmps15
  go_wp2_with (go_at_call 18; refine (index_any _ _ _ _ _ _ _ hl hc).mono ?_; rintro e w' ⟨rfl, rfl⟩)
  go_ret
  exact ⟨ret_bool (by rw [Bool.eq_iff_iff]; simpa using HI.out), rfl⟩
end Go.Proofs.Ytnognfhcddmikaa.Nm
