/- Names out of parts: plain. -/
import Derived.Test.YtnognfhcddmikaaNmFits3
namespace Go.Proofs.Ytnognfhcddmikaa.Nm
set_option linter.unusedVariables false

def T (l : List (List UInt8)) : List UInt8 := l.flatMap (47 :: ·)
/-- parts, a slash between -/
def J : List (List UInt8) → List UInt8
  | [] => []
  | x :: l => x ++ T l

theorem J_snoc (l : List (List UInt8)) (x : List UInt8) : J (l ++ [x]) = if l = [] then x else J l ++ 47 :: x := by
  cases l with
  | nil => simp [J, T]
  | cons y l => simp [J, T]

theorem ck_app (r : List UInt8) : ∀ (x : List UInt8) (a : Int), ck a (x ++ 47 :: r) = (ck a x && ck 47 r)
  | [], a => by show (st a (v 47) && ck (v 47) r) = _; rfl
  | c :: x, a => by
      show (st a (v c) && ck (v c) (x ++ 47 :: r)) = (st a (v c) && ck (v c) x && ck 47 r)
      rw [ck_app r x (v c), Bool.and_assoc]

theorem ck_T : ∀ (l : List (List UInt8)) (x : List UInt8), ck 47 (x ++ T l) = (ck 47 x && l.all (ck 47))
  | [], x => by simp [T]
  | y :: l, x => by
      have e : x ++ T (y :: l) = x ++ 47 :: (y ++ T l) := by simp [T]
      rw [e, ck_app, ck_T l y]
      simp

theorem ck_J (l : List (List UInt8)) (h : l ≠ []) : ck 47 (J l) = l.all (ck 47) := by
  cases l with
  | nil => exact absurd rfl h
  | cons x l => show ck 47 (x ++ T l) = _; rw [ck_T]; rfl

theorem len_J : ∀ (l : List (List UInt8)) (x : List UInt8), x ∈ l → x.length ≤ (J l).length
  | [], x, h => by simp at h
  | y :: l, x, h => by
      rcases List.mem_cons.1 h with rfl | h
      · simp [J]
      · simp only [J, List.length_append]
        have : x.length ≤ (T l).length := by
          unfold T
          have := List.sublist_flatten_of_mem (List.mem_map_of_mem (f := fun y : List UInt8 => (47 : UInt8) :: y) h)
          have := this.length_le
          simp only [List.length_cons] at this
          rw [List.flatMap_def]
          omega
        omega

def ns (x : List UInt8) : Bool := x.all (fun c => v c != 47)
def good (l : List (List UInt8)) : Bool := l.all (fun x => ns x && nm x)

theorem parts (l : List (List UInt8)) (h : l ≠ []) (hs : ∀ x ∈ l, ns x = true) : nm (J l) = (good l && decide ((J l).length ≤ 60)) := by
  unfold nm good
  rw [ck_J l h, Bool.and_comm]
  by_cases h60 : (J l).length ≤ 60
  · rw [decide_eq_true h60, Bool.and_true, Bool.and_true]
    rw [Bool.eq_iff_iff, List.all_eq_true, List.all_eq_true]
    refine ⟨fun H x hx => ?_, fun H x hx => ?_⟩
    · rw [hs x hx, Bool.true_and]
      unfold nm
      rw [H x hx, decide_eq_true (Nat.le_trans (len_J l x hx) h60)]
      rfl
    · have := H x hx
      rw [hs x hx, Bool.true_and] at this
      unfold nm at this
      rw [Bool.and_eq_true] at this
      exact this.2
  · rw [decide_eq_false h60, Bool.and_false, Bool.and_false]

theorem ns_snoc (x : List UInt8) (k : Nat) (h : k < x.length) : ns (x.take (k + 1)) = (ns (x.take k) && (v x[k] != 47)) := by
  unfold ns
  rw [List.take_succ_eq_append_getElem h, List.all_append]
  simp

theorem good_snoc (l : List (List UInt8)) (x : List UInt8) : good (l ++ [x]) = (good l && ns x && nm x) := by
  unfold good
  rw [List.all_append]
  simp [Bool.and_assoc]

theorem take_snoc_dl (ss : List ByteArray) (k : Nat) (h : k < ss.length) : (dl ss).take (k + 1) = (dl ss).take k ++ [(ss.getD k ByteArray.empty).data.toList] := by
  unfold dl
  rw [List.take_succ_eq_append_getElem (by simpa using h)]
  simp [h]

theorem any_ns (l : List (List UInt8)) (h : l.any (fun x => !ns x) = false) : ∀ x ∈ l, ns x = true := by
  intro x hx
  have := List.any_eq_false.1 h x hx
  simpa using this
end Go.Proofs.Ytnognfhcddmikaa.Nm
