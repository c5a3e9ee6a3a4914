/- Scripts step by step; most, walked. -/
import Derived.Test.YtfgmnfcakeenmaaLnKept
namespace Go.Proofs.Ytfgmnfcakeenmaa.Ln
open Go.RowKit
set_option linter.unusedVariables false

/-- a script's steps, one by one -/
def flat (l : List (Nat × Nat)) : List Nat := l.flatMap fun x => List.replicate x.2 x.1
theorem flat_cons (x : Nat × Nat) (l : List (Nat × Nat)) : flat (x :: l) = List.replicate x.2 x.1 ++ flat l := rfl
theorem tot_cons (x : Nat × Nat) (l : List (Nat × Nat)) : tot (x :: l) = x.2 + tot l := by simp [tot]
theorem flat_append (l m : List (Nat × Nat)) : flat (l ++ m) = flat l ++ flat m := by simp [flat]
theorem flat_add (l : List (Nat × Nat)) (op n : Nat) : flat (add l op n) = flat l ++ List.replicate n op := by
  by_cases hn : n = 0
  · subst hn; rw [add_zero]; simp
  rcases List.eq_nil_or_concat l with rfl | ⟨l', ⟨o, k⟩, rfl⟩
  · simp [add, hn, flat]
  · rw [List.concat_eq_append]
    by_cases e : o = op
    · subst e
      rw [add_same l' o n k (by omega), flat_append, flat_append]
      simp [flat, List.replicate_append_replicate]
    · rw [add_other l' o op n k (by omega) e, flat_append]
      simp [flat]
theorem flat_pack : ∀ (s : List Nat) (l : List (Nat × Nat)), flat (pack l s) = flat l ++ s
  | [], l => by simp [pack]
  | x :: s, l => by
      rw [pack_cons, flat_pack s, flat_add]
      simp
theorem flat_scr {α : Type} [DecidableEq α] (a b : List α) : flat (scr a b) = steps a b := by
  unfold scr
  rw [flat_pack]
  simp [flat]

/-- what the next step says -/
theorem step_head {α : Type} [DecidableEq α] {p q : List α} {op : Nat} {rest : List Nat} (h : steps p q = op :: rest) :
    (op = 0 ∧ ∃ x p' q', p = x :: p' ∧ q = x :: q' ∧ rest = steps p' q' ∧ lcs p q = lcs p' q' + 1) ∨
    (op = 1 ∧ ∃ x p', p = x :: p' ∧ rest = steps p' q ∧ lcs p' q = lcs p q ∧ (q = [] ∨ ∃ y q', q = y :: q' ∧ x ≠ y)) ∨
    (op = 2 ∧ ∃ y q', q = y :: q' ∧ rest = steps p q' ∧ lcs p q' = lcs p q ∧ (p = [] ∨ ∃ x p', p = x :: p' ∧ x ≠ y ∧ lcs p' q < lcs p q)) := by
  cases p with
  | nil =>
    cases q with
    | nil => rw [steps_nil_left] at h; simp at h
    | cons y q =>
      rw [steps_nil_left] at h
      simp [List.replicate_succ] at h
      refine .inr (.inr ⟨h.1.symm, y, q, rfl, by rw [steps_nil_left]; exact h.2.symm, by rw [lcs_nil_left, lcs_nil_left], .inl rfl⟩)
  | cons x p =>
    cases q with
    | nil =>
      rw [steps_nil_right] at h
      simp [List.replicate_succ] at h
      refine .inr (.inl ⟨h.1.symm, x, p, rfl, by rw [steps_nil_right]; exact h.2.symm, by rw [lcs_nil_right, lcs_nil_right], .inl rfl⟩)
    | cons y q =>
      rw [steps_cons] at h
      by_cases e : x = y
      · subst e
        rw [if_pos rfl] at h
        simp at h
        exact .inl ⟨h.1.symm, x, p, q, rfl, rfl, h.2.symm, by rw [lcs_cons, if_pos rfl]⟩
      · rw [if_neg e] at h
        have hl : lcs (x :: p) (y :: q) = max (lcs p (y :: q)) (lcs (x :: p) q) := by rw [lcs_cons, if_neg e]
        by_cases g : lcs (x :: p) q ≤ lcs p (y :: q)
        · rw [if_pos g] at h
          simp at h
          exact .inr (.inl ⟨h.1.symm, x, p, rfl, h.2.symm, by rw [hl]; omega, .inr ⟨y, q, rfl, e⟩⟩)
        · rw [if_neg g] at h
          simp at h
          exact .inr (.inr ⟨h.1.symm, y, q, rfl, h.2.symm, by rw [hl]; omega, .inr ⟨x, p, rfl, e, by rw [hl]; omega⟩⟩)

theorem drop_cons {α : Type} {l : List α} {k : Nat} {x : α} {t : List α} (h : l.drop k = x :: t) : k < l.length ∧ l.drop (k + 1) = t ∧ l[k]? = some x := by
  have hk : k < l.length := by
    rcases Nat.lt_or_ge k l.length with h1 | h1
    · exact h1
    · rw [List.drop_eq_nil_of_le h1] at h; simp at h
  rw [List.drop_eq_getElem_cons hk] at h
  obtain ⟨h1, h2⟩ := List.cons.inj h
  exact ⟨hk, h2, by rw [List.getElem?_eq_getElem hk, h1]⟩
theorem steps_pos {α : Type} [DecidableEq α] : ∀ a b : List α, 0 < a.length + b.length → 0 < (steps a b).length
  | [], b, h => by rw [steps_nil_left]; simpa using h
  | x :: a, [], h => by rw [steps_nil_right]; simp
  | x :: a, y :: b, h => by
      rw [steps_cons]
      split
      · simp
      · split <;> simp
theorem drop_nil_ge {α : Type} {l : List α} {k : Nat} (h : l.drop k = []) : l.length ≤ k := by simpa using h

set_option maxHeartbeats 400000 in
theorem most_any (a : Option Addr) (la ca : Nat) (sa : List ByteArray) (b : Option Addr) (lb cb : Nat) (sb : List ByteArray) (w : World) (h1 : Rd w w.heap.size a la ca (sv sa)) (h2 : Rd w w.heap.size b lb cb (sv sb))
    (m1 : ∀ s ∈ sa, s.size ≤ maxLen) (m2 : ∀ s ∈ sb, s.size ≤ maxLen) (l1 : la ≤ 4000) (l2 : lb ≤ 4000) :
    Calls Try.prog 25 #[.slice a la ca, .slice b lb cb] w fun e w' => e = .returned (.int .i64 ((lcs sa sb : Nat) : Int)) ∧ Below w.heap.size w w' := by
  have HD := Lib.hid (diff_any a la ca sa b lb cb sb w h1 h2 m1 m2 l1 l2)
  have hsl : tot (scr sa sb) ≤ 8000 := by
    have h3 := scr_len sa sb
    have h4 : sa.length = la := by have := h1.hlen; simpa [sv] using this
    have h5 : sb.length = lb := by have := h2.hlen; simpa [sv] using this
    omega
  clear h1 h2 m1 m2
  go_enter Try.func25, Try.ntmps25
  go_wp2_with fail
  refine HD.out.mono ?_
  rintro e w2 ⟨v, rfl, ho, ht, hb⟩
  obtain ⟨A6, N6, C6, rfl⟩ := own_slice ho
  obtain rfl := own_N ho
  have HKE := Lib.hid (kept_any _ A6 C6 _ w2 ho (by omega) (by omega))
  have HB := Lib.hid hb
  clear ho ht hb hsl
  go_wp2_with fail
  refine HKE.out.mono ?_
  rintro e w3 ⟨rfl, rfl⟩
  go_wp2
  go_ret
  exact ⟨ret_int (by rw [kc_scr]), HB.out⟩
end Go.Proofs.Ytfgmnfcakeenmaa.Ln
