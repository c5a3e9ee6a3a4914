/- How many lines a script keeps, walked. -/
import Derived.Test.YtfgmnfcakeenmaaLnOpen
namespace Go.Proofs.Ytfgmnfcakeenmaa.Ln
open Go.RowKit
set_option linter.unusedVariables false

/-- how many lines a script keeps -/
def kc (l : List (Nat × Nat)) : Nat := (l.map fun x => if x.1 = 0 then x.2 else 0).sum
theorem kc_append (l m : List (Nat × Nat)) : kc (l ++ m) = kc l + kc m := by simp [kc]
theorem kc_le (l : List (Nat × Nat)) : kc l ≤ tot l := by
  unfold kc tot
  induction l with
  | nil => simp
  | cons x l ih => simp only [List.map_cons, List.sum_cons]; split <;> omega
theorem kc_add (l : List (Nat × Nat)) (op n : Nat) : kc (add l op n) = kc l + if op = 0 then n else 0 := by
  by_cases hn : n = 0
  · subst hn; rw [add_zero]; simp
  rcases List.eq_nil_or_concat l with rfl | ⟨l', ⟨o, k⟩, rfl⟩
  · simp [add, hn, kc]
  · by_cases e : o = op
    · subst e
      simp [add, hn, kc]
      split <;> omega
    · simp [add, hn, e, kc]
      omega
theorem kc_pack : ∀ (s : List Nat) (l : List (Nat × Nat)), kc (pack l s) = kc l + s.count 0
  | [], l => by simp [pack]
  | x :: s, l => by
      rw [pack_cons, kc_pack s, kc_add, List.count_cons]
      by_cases e : x = 0
      · simp [e]; omega
      · simp [e]
theorem count_steps {α : Type} [DecidableEq α] : ∀ a b : List α, (steps a b).count 0 = lcs a b
  | [], b => by rw [steps_nil_left, lcs_nil_left, List.count_replicate]; rfl
  | x :: a, [] => by rw [steps_nil_right, lcs_nil_right, List.count_replicate]; rfl
  | x :: a, y :: b => by
      have h1 := count_steps a b
      have h2 := count_steps a (y :: b)
      have h3 := count_steps (x :: a) b
      rw [steps_cons, lcs_cons]
      split
      · simp [h1]
      · split
        · simp [h2]; omega
        · simp [h3]; omega
termination_by a b => a.length + b.length
/-- a script keeps as many lines as can be -/
theorem kc_scr {α : Type} [DecidableEq α] (a b : List α) : kc (scr a b) = lcs a b := by
  unfold scr
  rw [kc_pack, count_steps]
  simp [kc]

set_option maxHeartbeats 400000 in
theorem kept_any (B : Nat) (A : Option Addr) (c : Nat) (l : List (Nat × Nat)) (w : World) (h : w.ownsRow B 48 2 (.slice A l.length c) l.length (ed l)) (hl : l.length ≤ 1000000) (ht : tot l ≤ 1000000) :
    Calls Try.prog 23 #[.slice A l.length c] w fun e w' => e = .returned (.int .i64 ((kc l : Nat) : Int)) ∧ w = w' := by
  have q1 := (own_edit_len h).2
  unfold maxLen at q1
  have H := Lib.hid h
  clear h
  go_enter Try.func23, Try.ntmps23
  go_wp2
  go_loop [3, 4] (fun n i => ∃ k m : Nat, k ≤ l.length ∧ i = .int .i64 k ∧ n = .int .i64 m ∧ m ≤ 1000000 ∧ Hid (m = kc (l.take k))) (fun _ i => l.length - (intOf i).toNat)
  case atStart => exact ⟨0, 0, Nat.zero_le _, rfl, rfl, by omega, Lib.hid (by simp [kc])⟩
  case round =>
    obtain ⟨k, m, hk, rfl, rfl, hm, HM⟩ := hrel
    by_cases hlt : k < l.length
    · obtain ⟨g, rfl, a1, a2⟩ := own_edit H.out k hlt
      have hs : kc (l.take (k + 1)) = m + if l[k].1 = 0 then l[k].2 else 0 := by
        rw [List.take_succ_eq_append_getElem hlt, kc_append, HM.out]
        simp [kc]
      have hb : kc (l.take (k + 1)) ≤ 1000000 := by
        have h1 := kc_le (l.take (k + 1))
        have h2 : tot (l.take (k + 1)) ≤ tot l := by
          conv => rhs; rw [← List.take_append_drop (k + 1) l, tot_append]
          omega
        omega
      generalize l[k].1 = x at a1 hs
      generalize l[k].2 = y at a2 hs
      by_cases hx : x = 0
      · rw [if_pos hx] at hs
        have hx' : ((x : Int) == 0) = true := by simp [hx]
        have HN := Lib.hid hs.symm
        rw [hs] at hb
        clear hs hx
        go_wp2
        go_round
        case rel => exact ⟨k + 1, m + y, by omega, by go_num, by go_num, by omega, HN⟩
        case measure => simp [intOf]; omega
      · rw [if_neg hx] at hs
        have hx' : ((x : Int) == 0) = false := by simp [hx]
        have HN := Lib.hid hs.symm
        clear hs hx
        go_wp2
        go_round
        case rel => exact ⟨k + 1, m, by omega, by go_num, rfl, by omega, HN⟩
        case measure => simp [intOf]; omega
    · go_wp2
      go_ret
      exact ⟨ret_int (by rw [HM.out, List.take_of_length_le (by omega)]), rfl⟩
end Go.Proofs.Ytfgmnfcakeenmaa.Ln
