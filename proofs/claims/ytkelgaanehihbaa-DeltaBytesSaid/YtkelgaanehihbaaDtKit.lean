/- Byte slices as lists of numbers. -/
import Derived.Test.YtkelgaanehihbaaChecked
import Derived.WalkKit
import Derived.WalkSpells
import Derived.WalkLawsBesides
import Derived.Outline
import Derived.LoopTactic
import Derived.Lib.Hide
import Derived.Deep.Light
import Derived.Deep.QuietTactic
import Derived.BigQuiet
namespace Go.Proofs.Ytkelgaanehihbaa.Dt
open Go.RowKit
set_option linter.unusedVariables false

theorem ret_int {k : IntKind} {a b : Int} (h : a = b) : Ending.returned (.int k a) = .returned (.int k b) := by rw [h]
theorem ret_bool {a b : Bool} (h : a = b) : Ending.returned (.bool a) = .returned (.bool b) := by rw [h]

/-- the slice (a, len, cap) holds the bytes zs -/
structure Sl (w : World) (a : Option Addr) (len cap : Nat) (zs : List Int) : Prop where
  hlen : zs.length = len
  hcap : len ≤ cap
  hreach : cap ≤ 9223372036854775807
  hnone : a = none → cap = 0
  hcell : ∀ i, i < len → ∃ b off, a = some ⟨b, off, none⟩ ∧ w.cell? ⟨b, off + i, none⟩ = some (.int .u8 (zs.getD i 0))
  hbyte : ∀ i, i < len → 0 ≤ zs.getD i 0 ∧ zs.getD i 0 ≤ 255
  hbig : len ≤ 140737488355328

/-- how long a beginning both have -/
def cp : List Int → List Int → Nat
  | x :: a, y :: b => if x = y then cp a b + 1 else 0
  | _, _ => 0

theorem cp_le_left : ∀ a b, cp a b ≤ a.length
  | [], b => by simp [cp]
  | x :: a, [] => by simp [cp]
  | x :: a, y :: b => by
      unfold cp
      have := cp_le_left a b
      split <;> simp; omega
theorem cp_le_right : ∀ a b, cp a b ≤ b.length
  | [], b => by simp [cp]
  | x :: a, [] => by simp [cp]
  | x :: a, y :: b => by
      unfold cp
      have := cp_le_right a b
      split <;> simp; omega

theorem cp_step (a b : List Int) (k : Nat) (ha : k < a.length) (hb : k < b.length) :
    cp (a.drop k) (b.drop k) = if a.getD k 0 = b.getD k 0 then cp (a.drop (k + 1)) (b.drop (k + 1)) + 1 else 0 := by
  rw [List.drop_eq_getElem_cons ha, List.drop_eq_getElem_cons hb]
  simp [cp, ha, hb]

theorem cp_end (a b : List Int) (k : Nat) (h : ¬(k < a.length ∧ k < b.length)) : cp (a.drop k) (b.drop k) = 0 := by
  rcases Nat.lt_or_ge k a.length with h1 | h1
  · have e : b.drop k = [] := List.drop_eq_nil_of_le (by omega)
    rw [e]
    cases a.drop k <;> rfl
  · have e : a.drop k = [] := List.drop_eq_nil_of_le h1
    rw [e]
    rfl

set_option maxHeartbeats 1000000 in
theorem common_any (a1 : Option Addr) (l1 c1 : Nat) (z1 : List Int) (a2 : Option Addr) (l2 c2 : Nat) (z2 : List Int) (w : World) (h1 : Sl w a1 l1 c1 z1) (h2 : Sl w a2 l2 c2 z2) :
    Calls Try.prog 16 #[.slice a1 l1 c1, .slice a2 l2 c2] w fun e w' => e = .returned (.int .i64 (cp z1 z2)) ∧ ∃ n, w' = w.drewN n := by
  have H1 := Lib.hid h1
  have H2 := Lib.hid h2
  have b1 : l1 ≤ 140737488355328 := h1.hbig
  have b2 : l2 ≤ 140737488355328 := h2.hbig
  clear h1 h2
  go_enter Try.func16, Try.ntmps16
  go_wp2
  go_loopw [5] (fun n wr => ∃ k d : Nat, k ≤ l1 ∧ k ≤ l2 ∧ n = .int .i64 k ∧ wr = w.drewN d ∧ Hid (cp z1 z2 = k + cp (z1.drop k) (z2.drop k))) (fun n _ => l1 - (intOf n).toNat)
  case atStart => exact ⟨0, 0, Nat.zero_le _, Nat.zero_le _, rfl, rfl, Lib.hid (by simp)⟩
  case round =>
    obtain ⟨k, d, hk1, hk2, rfl, rfl, H⟩ := hrel
    by_cases hlt : k < l1 ∧ k < l2
    · obtain ⟨hlt1, hlt2⟩ := hlt
      obtain ⟨x1, o1, rfl, hc1⟩ := H1.out.hcell k hlt1
      obtain ⟨x2, o2, rfl, hc2⟩ := H2.out.hcell k hlt2
      have hs := cp_step z1 z2 k (by rw [H1.out.hlen]; exact hlt1) (by rw [H2.out.hlen]; exact hlt2)
      generalize hv1 : z1.getD k 0 = v1 at hc1 hs
      generalize hv2 : z2.getD k 0 = v2 at hc2 hs
      clear hv1 hv2
      by_cases hq : v1 = v2
      · have HN : Hid (cp z1 z2 = (k + 1 : Nat) + cp (z1.drop (k + 1)) (z2.drop (k + 1))) := Lib.hid (by rw [H.out, hs, if_pos hq]; omega)
        have hq' : (v1 == v2) = true := by simp [hq]
        clear hs H hq
        go_wp2
        go_quiet (fail)
        go_wp2
        go_roundw
        case rel => exact ⟨k + 1, _, by omega, by omega, by go_num, rfl, HN⟩
        case measure => simp [intOf]; omega
      · have HN : Hid (cp z1 z2 = k) := Lib.hid (by rw [H.out, hs, if_neg hq]; omega)
        have hq' : (v1 == v2) = false := by simp [hq]
        clear hs H hq
        go_wp2
        go_quiet (fail)
        go_wp2
        go_ret
        exact ⟨ret_int (by rw [HN.out]), _, World.drewN_drewN _ _ _⟩
    · have HN : Hid (cp z1 z2 = k) := Lib.hid (by rw [H.out, cp_end _ _ _ (by first | (rw [List.length_reverse, List.length_reverse, H1.out.hlen, H2.out.hlen]; exact hlt) | (rw [H1.out.hlen, H2.out.hlen]; exact hlt))]; simp)
      clear H
      by_cases h : k < l1
      · have h2 : l2 ≤ k := by omega
        have hd1 : decide (k < l1) = true := by simp; omega
        have hd2 : decide (k < l2) = false := by simp; omega
        clear hlt
        go_wp2
        go_quiet (fail)
        go_wp2
        go_ret
        exact ⟨ret_int (by rw [HN.out]), _, World.drewN_drewN _ _ _⟩
      · have hd1 : decide (k < l1) = false := by simp; omega
        clear hlt
        go_wp2
        go_quiet (fail)
        go_wp2
        go_ret
        exact ⟨ret_int (by rw [HN.out]), _, World.drewN_drewN _ _ _⟩

theorem rev_getD (z : List Int) (k : Nat) (h : k < z.length) : z.reverse.getD k 0 = z.getD (z.length - 1 - k) 0 := by
  simp [List.getD, h, show z.length - 1 - k < z.length from by omega]

set_option maxHeartbeats 1000000 in
theorem commonEnd_any (a1 : Option Addr) (l1 c1 : Nat) (z1 : List Int) (a2 : Option Addr) (l2 c2 : Nat) (z2 : List Int) (w : World) (h1 : Sl w a1 l1 c1 z1) (h2 : Sl w a2 l2 c2 z2) :
    Calls Try.prog 17 #[.slice a1 l1 c1, .slice a2 l2 c2] w fun e w' => e = .returned (.int .i64 (cp z1.reverse z2.reverse)) ∧ ∃ n, w' = w.drewN n := by
  have H1 := Lib.hid h1
  have H2 := Lib.hid h2
  have b1 : l1 ≤ 140737488355328 := h1.hbig
  have b2 : l2 ≤ 140737488355328 := h2.hbig
  clear h1 h2
  go_enter Try.func17, Try.ntmps17
  go_wp2
  go_loopw [5] (fun n wr => ∃ k d : Nat, k ≤ l1 ∧ k ≤ l2 ∧ n = .int .i64 k ∧ wr = w.drewN d ∧ Hid (cp z1.reverse z2.reverse = k + cp (z1.reverse.drop k) (z2.reverse.drop k))) (fun n _ => l1 - (intOf n).toNat)
  case atStart => exact ⟨0, 0, Nat.zero_le _, Nat.zero_le _, rfl, rfl, Lib.hid (by simp)⟩
  case round =>
    obtain ⟨k, d, hk1, hk2, rfl, rfl, H⟩ := hrel
    by_cases hlt : k < l1 ∧ k < l2
    · obtain ⟨hlt1, hlt2⟩ := hlt
      obtain ⟨x1, o1, rfl, hc1⟩ := H1.out.hcell (l1 - 1 - k) (by omega)
      obtain ⟨x2, o2, rfl, hc2⟩ := H2.out.hcell (l2 - 1 - k) (by omega)
      have hs := cp_step z1.reverse z2.reverse k (by rw [List.length_reverse, H1.out.hlen]; exact hlt1) (by rw [List.length_reverse, H2.out.hlen]; exact hlt2)
      rw [rev_getD z1 k (by rw [H1.out.hlen]; exact hlt1), rev_getD z2 k (by rw [H2.out.hlen]; exact hlt2), H1.out.hlen, H2.out.hlen] at hs
      generalize hv1 : z1.getD (l1 - 1 - k) 0 = v1 at hc1 hs
      generalize hv2 : z2.getD (l2 - 1 - k) 0 = v2 at hc2 hs
      clear hv1 hv2
      by_cases hq : v1 = v2
      · have HN : Hid (cp z1.reverse z2.reverse = (k + 1 : Nat) + cp (z1.reverse.drop (k + 1)) (z2.reverse.drop (k + 1))) := Lib.hid (by rw [H.out, hs, if_pos hq]; omega)
        have hq' : (v1 == v2) = true := by simp [hq]
        clear hs H hq
        go_wp2
        go_quiet (fail)
        go_wp2
        go_roundw
        case rel => exact ⟨k + 1, _, by omega, by omega, by go_num, rfl, HN⟩
        case measure => simp [intOf]; omega
      · have HN : Hid (cp z1.reverse z2.reverse = k) := Lib.hid (by rw [H.out, hs, if_neg hq]; omega)
        have hq' : (v1 == v2) = false := by simp [hq]
        clear hs H hq
        go_wp2
        go_quiet (fail)
        go_wp2
        go_ret
        exact ⟨ret_int (by rw [HN.out]), _, World.drewN_drewN _ _ _⟩
    · have HN : Hid (cp z1.reverse z2.reverse = k) := Lib.hid (by rw [H.out, cp_end _ _ _ (by first | (rw [List.length_reverse, List.length_reverse, H1.out.hlen, H2.out.hlen]; exact hlt) | (rw [H1.out.hlen, H2.out.hlen]; exact hlt))]; simp)
      clear H
      by_cases h : k < l1
      · have h2 : l2 ≤ k := by omega
        have hd1 : decide (k < l1) = true := by simp; omega
        have hd2 : decide (k < l2) = false := by simp; omega
        clear hlt
        go_wp2
        go_quiet (fail)
        go_wp2
        go_ret
        exact ⟨ret_int (by rw [HN.out]), _, World.drewN_drewN _ _ _⟩
      · have hd1 : decide (k < l1) = false := by simp; omega
        clear hlt
        go_wp2
        go_quiet (fail)
        go_wp2
        go_ret
        exact ⟨ret_int (by rw [HN.out]), _, World.drewN_drewN _ _ _⟩
end Go.Proofs.Ytkelgaanehihbaa.Dt
