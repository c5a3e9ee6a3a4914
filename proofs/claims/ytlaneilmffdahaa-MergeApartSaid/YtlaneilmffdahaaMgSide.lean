/- slices.Clone and slices.Equal of strings, Same of any two rows. -/
import Derived.Test.YtlaneilmffdahaaMgKit
import Derived.Test.YtlaneilmffdahaaLnDiff
namespace Go.Proofs.Ytlaneilmffdahaa.Mg
open Go.RowKit Go.Proofs.Ytlaneilmffdahaa.Ln
set_option linter.unusedVariables false

/-- what hands back strings in a row of one's own -/
def StrRet (l : List ByteArray) (w : World) (e : Ending) (w' : World) : Prop :=
  ∃ A C, e = .returned (.slice A l.length C) ∧ w'.ownsRow w.heap.size 9 1 (.slice A l.length C) l.length (sv l) ∧ Below w.heap.size w w'
theorem rd_len {w : World} {B : Nat} {A : Option Addr} {n C : Nat} {l : List ByteArray} (h : Rd w B A n C (sv l)) : l.length = n := by have := h.hlen; simpa [sv] using this
set_option maxRecDepth 100000 in
theorem nil_no (x : Addr) (L C : Nat) (w : World) : (binOp .eql 22 (.slice (some x) L C) (.slice none 0 0)).run Try.prog w = .ok (.bool false) w := by rfl
set_option maxRecDepth 100000 in
theorem nil_yes (L C : Nat) (w : World) : (binOp .eql 22 (.slice none L C) (.slice none 0 0)).run Try.prog w = .ok (.bool true) w := by rfl
set_option maxRecDepth 100000 in
theorem clone_any (A : Option Addr) (L C : Nat) (l : List ByteArray) (w : World) (h : Rd w w.heap.size A L C (sv l)) (hL : L ≤ 1000000) :
    Calls Try.prog 49 #[.slice A L C] w (StrRet l w) := by
  have hl := rd_len h
  subst hl
  cases A with
  | none =>
    have hn := h.hnone rfl
    have hc := h.hcap
    obtain rfl : l = [] := List.eq_nil_of_length_eq_zero (by omega)
    subst hn
    have HO : Hid (w.ownsRow w.heap.size 9 1 (.slice none 0 0) 0 (sv [])) := Lib.hid (World.ownsRow_nil _ _ _ _)
    clear h hc
    have hnil := nil_yes 0 0
    go_enter Try.func49, Try.ntmps49
    go_wp2_with fail
    go_ret
    exact ⟨_, _, rfl, HO.out, Below.refl _ _⟩
  | some x =>
    have hb := (Below.refl w.heap.size w).alloc (Nat.le_refl _) (.cells #[] 9)
    have HR := Lib.hid (h.below hb)
    have HB := Lib.hid hb
    have HE := Lib.hid (own_empty w w.heap.size (Nat.le_refl _))
    clear h hb
    have hnil := nil_no x l.length C
    go_enter Try.func49, Try.ntmps49
    go_wp2_with (at_builtin; refine wpList_append_rd elS _ rfl _ _ rfl w.heap.size _ 0 (sv []) rfl HE.out _ (some x) l.length C (sv l) rfl HR.out (str_one l) l.length (by omega) (by omega) (by simp) ?_)
    intro A' C' w2 ho hg hs
    have HO := Lib.hid ho
    have HB2 := Lib.hid (HB.out.trans (below_grown (by simp) HE.out hg))
    clear ho hg hs
    go_wp2_with fail
    go_ret
    exact ⟨_, _, rfl, HO.out, HB2.out⟩
theorem take_eq_succ {a b : List ByteArray} {k : Nat} (h : a.take k = b.take k) (ha : k < a.length) (hb : k < b.length) : a.take (k + 1) = b.take (k + 1) ↔ a.getD k ByteArray.empty = b.getD k ByteArray.empty := by
  rw [take_snoc a k ByteArray.empty ha, take_snoc b k ByteArray.empty hb, h]
  simp
theorem neq_of {x y : ByteArray} (h : x ≠ y) : (x.toList == y.toList) = false := by
  cases e : (x.toList == y.toList)
  · rfl
  · exact absurd (str_eq.1 e) h
theorem ne_of_take {a b : List ByteArray} {k : Nat} (h : a.take k ≠ b.take k) : a ≠ b := fun e => h (by rw [e])
set_option maxHeartbeats 400000 in
theorem equal_any (B1 B2 : Nat) (a : Option Addr) (l c : Nat) (b : Option Addr) (m cb : Nat) (ss tt : List ByteArray) (w : World) (h : Rd w B1 a l c (sv ss)) (h2 : Rd w B2 b m cb (sv tt)) :
    Calls Try.prog 55 #[.slice a l c, .slice b m cb] w fun e w' => e = .returned (.bool (decide (ss = tt))) ∧ ∃ d, w' = w.drewN d := by
  have hc := h.hcap
  have hm := h.hmax
  have hc2 := h2.hcap
  have hm2 := h2.hmax
  have e1 := rd_len h
  have e2 := rd_len h2
  have H := Lib.hid h
  have H2 := Lib.hid h2
  by_cases hlm : l = m
  · subst hlm
    have E1 := Lib.hid e1
    have E2 := Lib.hid e2
    clear h h2 e1 e2
    have hne : ((l : Int) != (l : Int)) = false := by simp
    go_enter Try.func55, Try.ntmps55
    go_wp2
    go_loopw [13] (fun i wr => ∃ k d : Nat, k ≤ l ∧ i = .int .i64 k ∧ wr = w.drewN d ∧ Hid (ss.take k = tt.take k)) (fun i _ => l - (intOf i).toNat)
    case atStart => exact ⟨0, 0, Nat.zero_le _, rfl, rfl, Lib.hid rfl⟩
    case round =>
      obtain ⟨k, d, hk1, rfl, rfl, HT⟩ := hrel
      by_cases hlt : k < l
      · obtain ⟨x1, o1, rfl, hb1, hc1⟩ := H.out.str k hlt
        obtain ⟨x2, o2, rfl, hb2, hc2'⟩ := H2.out.str k hlt
        have hs := take_eq_succ HT.out (by rw [E1.out]; exact hlt) (by rw [E2.out]; exact hlt)
        generalize ss.getD k ByteArray.empty = s at hc1 hs
        generalize tt.getD k ByteArray.empty = t at hc2' hs
        by_cases hq : s = t
        · subst hq
          have hq' : (s.toList != s.toList) = false := by simp
          have HN := Lib.hid (hs.2 rfl)
          clear hs
          go_wp2
          go_quiet (fail)
          go_wp2
          go_roundw
          case rel => exact ⟨k + 1, _, by omega, by go_num, rfl, HN⟩
          case measure => simp [intOf]; omega
        · have hq' := neq_of hq
          have HD : Hid (decide (ss = tt) = false) := Lib.hid (by simpa using ne_of_take (k := k + 1) (fun e => hq (hs.1 e)))
          clear hs hq
          go_wp2
          go_quiet (fail)
          go_wp2
          go_ret
          exact ⟨ret_bool HD.out.symm, _, World.drewN_drewN _ _ _⟩
      · have HD : Hid (decide (ss = tt) = true) := Lib.hid (by
          have := HT.out
          rw [List.take_of_length_le (by rw [E1.out]; omega), List.take_of_length_le (by rw [E2.out]; omega)] at this
          simpa using this)
        go_wp2
        go_ret
        exact ⟨ret_bool HD.out.symm, _, rfl⟩
  · have hne : ((l : Int) != (m : Int)) = true := by rw [bne_iff_ne]; omega
    have HD : Hid (decide (ss = tt) = false) := Lib.hid (by
      have : ss ≠ tt := fun e => hlm (by rw [← e1, ← e2, e])
      simpa using this)
    clear h h2 e1 e2 hlm
    go_enter Try.func55, Try.ntmps55
    go_wp2
    go_ret
    exact ⟨ret_bool HD.out.symm, 0, rfl⟩
set_option maxHeartbeats 400000 in
theorem rsame_any (B1 B2 : Nat) (a : Option Addr) (l c : Nat) (b : Option Addr) (m cb : Nat) (ss tt : List ByteArray) (w : World) (h : Rd w B1 a l c (sv ss)) (h2 : Rd w B2 b m cb (sv tt)) :
    Calls Try.prog 26 #[.slice a l c, .slice b m cb] w fun e w' => e = .returned (.bool (decide (ss = tt))) ∧ ∃ d, w' = w.drewN d := by
  have hc := h.hcap
  have hm := h.hmax
  have hc2 := h2.hcap
  have hm2 := h2.hmax
  have e1 := rd_len h
  have e2 := rd_len h2
  have H := Lib.hid h
  have H2 := Lib.hid h2
  by_cases hlm : l = m
  · subst hlm
    have E1 := Lib.hid e1
    have E2 := Lib.hid e2
    clear h h2 e1 e2
    have hne : ((l : Int) != (l : Int)) = false := by simp
    go_enter Try.func26, Try.ntmps26
    go_wp2
    go_loopw [5] (fun i wr => ∃ k d : Nat, k ≤ l ∧ i = .int .i64 k ∧ wr = w.drewN d ∧ Hid (ss.take k = tt.take k)) (fun i _ => l - (intOf i).toNat)
    case atStart => exact ⟨0, 0, Nat.zero_le _, rfl, rfl, Lib.hid rfl⟩
    case round =>
      obtain ⟨k, d, hk1, rfl, rfl, HT⟩ := hrel
      by_cases hlt : k < l
      · obtain ⟨x1, o1, rfl, hb1, hc1⟩ := H.out.str k hlt
        obtain ⟨x2, o2, rfl, hb2, hc2'⟩ := H2.out.str k hlt
        have hs := take_eq_succ HT.out (by rw [E1.out]; exact hlt) (by rw [E2.out]; exact hlt)
        generalize ss.getD k ByteArray.empty = s at hc1 hs
        generalize tt.getD k ByteArray.empty = t at hc2' hs
        by_cases hq : s = t
        · subst hq
          have hq' : (s.toList != s.toList) = false := by simp
          have HN := Lib.hid (hs.2 rfl)
          clear hs
          go_wp2
          go_quiet (fail)
          go_wp2
          go_roundw
          case rel => exact ⟨k + 1, _, by omega, by go_num, rfl, HN⟩
          case measure => simp [intOf]; omega
        · have hq' := neq_of hq
          have HD : Hid (decide (ss = tt) = false) := Lib.hid (by simpa using ne_of_take (k := k + 1) (fun e => hq (hs.1 e)))
          clear hs hq
          go_wp2
          go_quiet (fail)
          go_wp2
          go_ret
          exact ⟨ret_bool HD.out.symm, _, World.drewN_drewN _ _ _⟩
      · have HD : Hid (decide (ss = tt) = true) := Lib.hid (by
          have := HT.out
          rw [List.take_of_length_le (by rw [E1.out]; omega), List.take_of_length_le (by rw [E2.out]; omega)] at this
          simpa using this)
        go_wp2
        go_ret
        exact ⟨ret_bool HD.out.symm, _, rfl⟩
  · have hne : ((l : Int) != (m : Int)) = true := by rw [bne_iff_ne]; omega
    have HD : Hid (decide (ss = tt) = false) := Lib.hid (by
      have : ss ≠ tt := fun e => hlm (by rw [← e1, ← e2, e])
      simpa using this)
    clear h h2 e1 e2 hlm
    go_enter Try.func26, Try.ntmps26
    go_wp2
    go_ret
    exact ⟨ret_bool HD.out.symm, 0, rfl⟩
end Go.Proofs.Ytlaneilmffdahaa.Mg
