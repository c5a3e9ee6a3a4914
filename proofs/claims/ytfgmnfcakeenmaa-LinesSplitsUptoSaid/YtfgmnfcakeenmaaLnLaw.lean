/- What the laws of chapter 12 share: the example, Few, SameEdits, Same. -/
import Derived.Test.YtfgmnfcakeenmaaLnRDiff
namespace Go.Proofs.Ytfgmnfcakeenmaa.Ln
open Go.RowKit
set_option linter.unusedVariables false

/-- Few: true of fewer than 120 lines alone -/
def FewRet (l : Nat) (w : World) (e : Ending) (w' : World) : Prop := ∃ f : Bool, e = .returned (.bool f) ∧ (f = true → l ≤ 119) ∧ ∃ d, w' = w.drewN d

set_option maxHeartbeats 400000 in
theorem few_any (B : Nat) (a : Option Addr) (l c : Nat) (ss : List ByteArray) (w : World) (h : Rd w B a l c (sv ss)) (hs : ∀ s ∈ ss, s.size ≤ 140737488351232) :
    Calls Try.prog 11 #[.slice a l c] w (FewRet l w) := by
  have hl := h.hlen
  have hc := h.hcap
  have hm := h.hbig
  have H := Lib.hid h
  have HS := Lib.hid hs
  have HL : Hid (ss.length = l) := Lib.hid (by simpa [sv] using hl)
  clear h hs hl
  go_enter Try.func11, Try.ntmps11
  go_wp2
  go_loopw [3, 4] (fun n i wr => ∃ k d m : Nat, k ≤ l ∧ k ≤ 200 ∧ i = .int .i64 k ∧ n = .int .i64 m ∧ l ≤ m ∧ m ≤ l + k * 7036874417562 ∧ wr = w.drewN d) (fun _ i _ => 200 - (intOf i).toNat)
  case atStart => exact ⟨0, 0, l, Nat.zero_le _, Nat.zero_le _, rfl, rfl, Nat.le_refl _, by omega, rfl⟩
  case round =>
    obtain ⟨k, d, m, hk1, hk2, rfl, rfl, hm1, hm2, rfl⟩ := hrel
    by_cases hlt : k < l
    · have hd1 : decide (k < l) = true := by simp; omega
      by_cases hlt2 : k < 200
      · have hd2 : decide ((k : Int) < 200) = true := by simp; omega
        obtain ⟨x1, o1, rfl, hb1, hc1⟩ := H.out.str k hlt
        have hsz : (ss.getD k ByteArray.empty).size ≤ 140737488351232 := HS.out _ (by have := HL.out; simp [List.getD, show k < ss.length from by omega])
        generalize ss.getD k ByteArray.empty = s at hc1 hsz
        go_wp2
        go_roundw
        case rel => exact ⟨k + 1, d, m + s.size / 20, by omega, by omega, by go_num, by go_num, by omega, by omega, rfl⟩
        case measure => simp [intOf]; omega
      · have hd2 : decide ((k : Int) < 200) = false := by simp; omega
        go_wp2
        go_ret
        exact ⟨_, rfl, fun h => by simp at h; omega, _, rfl⟩
    · have hd1 : decide (k < l) = false := by simp; omega
      go_wp2
      go_ret
      exact ⟨_, rfl, fun h => by simp at h; omega, _, rfl⟩

set_option maxHeartbeats 400000 in
/-- Same: of the same rows true -/
theorem same_any (B1 B2 : Nat) (a : Option Addr) (l c : Nat) (b : Option Addr) (cb : Nat) (ss : List ByteArray) (w : World) (h : Rd w B1 a l c (sv ss)) (h2 : Rd w B2 b l cb (sv ss)) :
    Calls Try.prog 15 #[.slice a l c, .slice b l cb] w fun e w' => e = .returned (.bool true) ∧ ∃ d, w' = w.drewN d := by
  have hc := h.hcap
  have hm := h.hbig
  have H := Lib.hid h
  have H2 := Lib.hid h2
  clear h h2
  go_enter Try.func15, Try.ntmps15
  have hne : ((l : Int) != (l : Int)) = false := by simp
  go_wp2
  go_loopw [5] (fun i wr => ∃ k d : Nat, k ≤ l ∧ i = .int .i64 k ∧ wr = w.drewN d) (fun i _ => l - (intOf i).toNat)
  case atStart => exact ⟨0, 0, Nat.zero_le _, rfl, rfl⟩
  case round =>
    obtain ⟨k, d, hk1, rfl, rfl⟩ := hrel
    by_cases hlt : k < l
    · obtain ⟨x1, o1, rfl, hb1, hc1⟩ := H.out.str k hlt
      obtain ⟨x2, o2, rfl, hb2, hc2⟩ := H2.out.str k hlt
      generalize ss.getD k ByteArray.empty = s at hc1 hc2
      have hq' : (s.toList != s.toList) = false := by simp
      go_wp2
      go_quiet (fail)
      go_wp2
      go_roundw
      case rel => exact ⟨k + 1, _, by omega, by go_num, rfl⟩
      case measure => simp [intOf]; omega
    · go_wp2
      go_ret
      exact ⟨rfl, _, rfl⟩

/-- a script that reads as the list l -/
theorem own_edit {w : World} {B : Nat} {A : Option Addr} {N c : Nat} {l : List (Nat × Nat)} (h : w.ownsRow B 48 2 (.slice A N c) l.length (ed l)) (k : Nat) (hk : k < l.length) :
    ∃ g, A = some ⟨g, 0, none⟩ ∧ w.cell? ⟨g, k * 2, none⟩ = some (.int .i64 ((l[k].1 : Nat) : Int)) ∧ w.cell? ⟨g, k * 2 + 1, none⟩ = some (.int .i64 ((l[k].2 : Nat) : Int)) := by
  rcases h.2 with ⟨hv, h0⟩ | ⟨g, cap, cur, hv, hg, hh, hc1, hc2, hc3, ht⟩
  · omega
  · simp only [Value.slice.injEq] at hv
    obtain ⟨rfl, rfl, rfl⟩ := hv
    have h1 := ed_get l k hk
    refine ⟨g, rfl, ?_, ?_⟩
    · rw [h.cellAt _ (by omega)]; exact h1.1
    · rw [h.cellAt _ (by omega)]; exact h1.2
theorem own_edit_len {w : World} {B : Nat} {A : Option Addr} {N c : Nat} {l : List (Nat × Nat)} (h : w.ownsRow B 48 2 (.slice A N c) l.length (ed l)) : N = l.length ∧ N ≤ c ∧ c ≤ maxLen := by
  rcases h.2 with ⟨hv, h0⟩ | ⟨g, cap, cur, hv, hg, hh, hc1, hc2, hc3, ht⟩
  · simp only [Value.slice.injEq] at hv
    obtain ⟨rfl, rfl, rfl⟩ := hv
    exact ⟨h0.symm, Nat.le_refl _, Nat.zero_le _⟩
  · simp only [Value.slice.injEq] at hv
    obtain ⟨rfl, rfl, rfl⟩ := hv
    exact ⟨rfl, hc1, hc2⟩

set_option maxHeartbeats 400000 in
/-- SameEdits: of the same scripts true -/
theorem sameEdits_any (B1 B2 : Nat) (A1 A2 : Option Addr) (c1 c2 : Nat) (l : List (Nat × Nat)) (w : World) (h : w.ownsRow B1 48 2 (.slice A1 l.length c1) l.length (ed l)) (h2 : w.ownsRow B2 48 2 (.slice A2 l.length c2) l.length (ed l)) (hl : l.length ≤ 1000000) :
    Calls Try.prog 14 #[.slice A1 l.length c1, .slice A2 l.length c2] w fun e w' => e = .returned (.bool true) ∧ ∃ d, w' = w.drewN d := by
  have q1 := (own_edit_len h).2
  have q2 := (own_edit_len h2).2
  unfold maxLen at q1 q2
  have H := Lib.hid h
  have H2 := Lib.hid h2
  clear h h2
  have hne : ((l.length : Int) != (l.length : Int)) = false := by simp
  go_enter Try.func14, Try.ntmps14
  go_wp2
  go_loopw [5] (fun i wr => ∃ k d : Nat, k ≤ l.length ∧ i = .int .i64 k ∧ wr = w.drewN d) (fun i _ => l.length - (intOf i).toNat)
  case atStart => exact ⟨0, 0, Nat.zero_le _, rfl, rfl⟩
  case round =>
    obtain ⟨k, d, hk1, rfl, rfl⟩ := hrel
    by_cases hlt : k < l.length
    · obtain ⟨g1, rfl, a1, a2⟩ := own_edit H.out k hlt
      obtain ⟨g2, rfl, b1, b2⟩ := own_edit H2.out k hlt
      generalize l[k].1 = x at a1 b1
      generalize l[k].2 = y at a2 b2
      go_wp2
      go_quiet (fail)
      go_wp2
      go_roundw
      case rel => exact ⟨k + 1, _, by omega, by go_num, rfl⟩
      case measure => simp [intOf]; omega
    · go_wp2
      go_ret
      exact ⟨rfl, _, rfl⟩

def sx (n : UInt8) : ByteArray := ⟨#[n]⟩
theorem sx_ne {a b : UInt8} (h : a ≠ b) : sx a ≠ sx b := by
  intro e
  unfold sx at e
  injection e with e
  simp at e
  exact h e
theorem known_scr : scr [sx 97, sx 98, sx 99] [sx 98, sx 99, sx 100] = [(1, 1), (0, 2), (2, 1)] := by
  have h1 : sx 97 ≠ sx 98 := sx_ne (by decide)
  have h2 : sx 97 ≠ sx 99 := sx_ne (by decide)
  have h3 : sx 97 ≠ sx 100 := sx_ne (by decide)
  have h4 : sx 98 ≠ sx 99 := sx_ne (by decide)
  have h5 : sx 98 ≠ sx 100 := sx_ne (by decide)
  have h6 : sx 99 ≠ sx 100 := sx_ne (by decide)
  simp [scr, steps_cons, steps_nil_left, lcs_cons, lcs_nil_left, lcs_nil_right, h1, h2, h3, h4, h5, h6, pack, add]

set_option maxHeartbeats 1000000 in
/-- the chapter's example -/
theorem known_any (w : World) : Calls Try.prog 10 #[] w fun e w' => e = .returned (.bool true) ∧ Below w.heap.size w w' := by
  go_enter Try.func10, Try.ntmps10
  go_wp2_with fail
  have hb1 : Below w.heap.size w (w.alloc (Obj.cells #[.string ⟨#[97]⟩, .string ⟨#[98]⟩, .string ⟨#[99]⟩] 9)) := (Below.refl w.heap.size w).alloc (Nat.le_refl _) _
  have ho1 := World.ownsRow_lit (base := w.heap.size) (e := 9) (size := 1) w #[.string ⟨#[97]⟩, .string ⟨#[98]⟩, .string ⟨#[99]⟩] 3 (Nat.le_refl _) (by unfold maxLen; omega) rfl
  have ho2 := World.ownsRow_lit (base := w.heap.size) (e := 9) (size := 1) (w.alloc (Obj.cells #[.string ⟨#[97]⟩, .string ⟨#[98]⟩, .string ⟨#[99]⟩] 9)) #[.string ⟨#[98]⟩, .string ⟨#[99]⟩, .string ⟨#[100]⟩] 3 (by simp) (by unfold maxLen; omega) rfl
  have ho1' := ho1.alloc (Obj.cells #[.string ⟨#[98]⟩, .string ⟨#[99]⟩, .string ⟨#[100]⟩] 9)
  have hb2 := hb1.alloc (by simp) (Obj.cells #[.string ⟨#[98]⟩, .string ⟨#[99]⟩, .string ⟨#[100]⟩] 9)
  rw [show (w.alloc (Obj.cells #[.string ⟨#[97]⟩, .string ⟨#[98]⟩, .string ⟨#[99]⟩] 9)).heap.size = w.heap.size + 1 from by simp] at ho2
  have HC := Lib.hid (diff_any _ 3 3 [sx 97, sx 98, sx 99] _ 3 3 [sx 98, sx 99, sx 100] _ (Rd.of_own ho1' (by omega)).1 (Rd.of_own ho2 (by omega)).1 (by intro s hs; simp at hs; rcases hs with rfl | rfl | rfl <;> (unfold maxLen; decide)) (by intro s hs; simp at hs; rcases hs with rfl | rfl | rfl <;> (unfold maxLen; decide)) (by omega) (by omega))
  have HB := Lib.hid hb2
  have hsz := hb2.size
  generalize World.alloc (World.alloc _ _) _ = W at *
  clear hb1 hb2 ho1 ho2 ho1'
  refine HC.out.mono ?_
  rintro e w2 ⟨v, rfl, ho, ht, hb⟩
  rw [known_scr] at ho
  obtain ⟨A, N, c, rfl⟩ := own_slice ho
  obtain ⟨rfl, hc1, hc2⟩ := own_edit_len ho
  obtain ⟨g, rfl, a1, a2⟩ := own_edit ho 0 (by simp)
  obtain ⟨g', e1, b1, b2⟩ := own_edit ho 1 (by simp)
  obtain ⟨g'', e2, d1, d2⟩ := own_edit ho 2 (by simp)
  simp at e1 e2
  subst e1
  subst e2
  simp at a1 a2 b1 b2 d1 d2
  have HB2 := Lib.hid (HB.out.trans (hb.mono hsz))
  unfold maxLen at hc2
  simp at hc1
  clear ho ht hb HC
  go_wp2
  go_ret
  exact ⟨rfl, HB2.out⟩
end Go.Proofs.Ytfgmnfcakeenmaa.Ln
