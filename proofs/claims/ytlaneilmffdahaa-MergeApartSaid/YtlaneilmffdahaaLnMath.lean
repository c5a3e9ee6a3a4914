/- Longest common rows of lines, and the first of the shortest scripts. -/
namespace Go.Proofs.Ytlaneilmffdahaa.Ln
set_option linter.unusedVariables false
variable {α β : Type} [DecidableEq α] [DecidableEq β]
/-- how many can be kept -/
def lcs : List α → List α → Nat
  | [], _ => 0
  | _ :: _, [] => 0
  | x :: a, y :: b => if x = y then lcs a b + 1 else max (lcs a (y :: b)) (lcs (x :: a) b)
termination_by a b => a.length + b.length
theorem lcs_nil_left (b : List α) : lcs [] b = 0 := by rw [lcs]
theorem lcs_nil_right (a : List α) : lcs a [] = 0 := by cases a <;> rw [lcs]
theorem lcs_cons (x y : α) (a b : List α) : lcs (x :: a) (y :: b) = if x = y then lcs a b + 1 else max (lcs a (y :: b)) (lcs (x :: a) b) := by rw [lcs]
theorem lcs_comm : ∀ a b : List α, lcs a b = lcs b a
  | [], b => by rw [lcs_nil_left, lcs_nil_right]
  | x :: a, [] => by rw [lcs_nil_left, lcs_nil_right]
  | x :: a, y :: b => by
      rw [lcs_cons, lcs_cons]
      by_cases h : x = y
      · rw [if_pos h, if_pos h.symm, lcs_comm a b]
      · rw [if_neg h, if_neg (fun e => h e.symm), lcs_comm a (y :: b), lcs_comm (x :: a) b, Nat.max_comm]
termination_by a b => a.length + b.length
/-- one line ahead helps by one at most, and does no harm -/
theorem lcs_bounds : ∀ (n : Nat) (a b : List α), a.length + b.length ≤ n → (∀ x, lcs a b ≤ lcs (x :: a) b ∧ lcs (x :: a) b ≤ lcs a b + 1) := by
  intro n
  induction n with
  | zero =>
    intro a b h x
    have ha : a = [] := List.eq_nil_of_length_eq_zero (by omega)
    have hb : b = [] := List.eq_nil_of_length_eq_zero (by omega)
    subst ha; subst hb
    rw [lcs_nil_right, lcs_nil_right]; omega
  | succ n ih =>
    intro a b h x
    cases b with
    | nil => rw [lcs_nil_right, lcs_nil_right]; omega
    | cons y b =>
      simp only [List.length_cons] at h
      rw [lcs_cons]
      have r1 := (ih b a (by omega) y)
      rw [lcs_comm b a, lcs_comm (y :: b) a] at r1
      by_cases e : x = y
      · rw [if_pos e]; omega
      · rw [if_neg e]
        have r2 := ih a b (by omega) x
        omega
theorem lcs_left_le (x : α) (a b : List α) : lcs a b ≤ lcs (x :: a) b := (lcs_bounds _ a b (Nat.le_refl _) x).1
theorem lcs_left_succ (x : α) (a b : List α) : lcs (x :: a) b ≤ lcs a b + 1 := (lcs_bounds _ a b (Nat.le_refl _) x).2
theorem lcs_right_le (y : α) (a b : List α) : lcs a b ≤ lcs a (y :: b) := by rw [lcs_comm a b, lcs_comm a (y :: b)]; exact lcs_left_le y b a
theorem lcs_right_succ (y : α) (a b : List α) : lcs a (y :: b) ≤ lcs a b + 1 := by rw [lcs_comm a b, lcs_comm a (y :: b)]; exact lcs_left_succ y b a
theorem lcs_le_left : ∀ a b : List α, lcs a b ≤ a.length
  | [], b => by rw [lcs_nil_left]; exact Nat.zero_le _
  | x :: a, b => by
      have := lcs_left_succ x a b
      have := lcs_le_left a b
      simp only [List.length_cons]; omega
theorem lcs_le_right (a b : List α) : lcs a b ≤ b.length := by rw [lcs_comm]; exact lcs_le_left b a
theorem lcs_self : ∀ a : List α, lcs a a = a.length
  | [] => by rw [lcs_nil_left]; rfl
  | x :: a => by rw [lcs_cons, if_pos rfl, lcs_self a]; rfl
theorem lcs_append_right (a : List α) : ∀ p b : List α, lcs a b ≤ lcs a (p ++ b)
  | [], b => Nat.le_refl _
  | y :: p, b => Nat.le_trans (lcs_append_right a p b) (lcs_right_le y a (p ++ b))
theorem lcs_suffix {a b : List α} (h : a <:+ b) : lcs a b = a.length := by
  obtain ⟨p, rfl⟩ := h
  have h1 := lcs_append_right a p a
  rw [lcs_self] at h1
  have h2 := lcs_le_left a (p ++ a)
  omega
/-- a common end is kept whole -/
theorem lcs_end : ∀ (a b s : List α), lcs (a ++ s) (b ++ s) = lcs a b + s.length
  | [], b, s => by rw [List.nil_append, lcs_suffix (List.suffix_append b s), lcs_nil_left]; omega
  | x :: a, [], s => by
      rw [List.nil_append, lcs_comm, lcs_suffix (List.suffix_append (x :: a) s), lcs_nil_right]; omega
  | x :: a, y :: b, s => by
      have h1 := lcs_end a b s
      have h2 := lcs_end a (y :: b) s
      have h3 := lcs_end (x :: a) b s
      simp only [List.cons_append] at h1 h2 h3 ⊢
      rw [lcs_cons, lcs_cons, h1, h2, h3]
      split <;> omega
termination_by a b => a.length + b.length
/-- where one side is an end of the other: the longer one loses its line -/
theorem more_end {x y : α} {p q : List α} (hne : x ≠ y) (h : (x :: p) <:+ (y :: q) ∨ (y :: q) <:+ (x :: p)) :
    (lcs (x :: p) q ≤ lcs p (y :: q)) ↔ (y :: q).length < (x :: p).length := by
  rcases h with h | h
  · have h' : (x :: p) <:+ q := by
      rcases List.suffix_cons_iff.1 h with h | h
      · simp only [List.cons.injEq] at h; exact absurd h.1 hne
      · exact h
    have h1 := lcs_suffix h'
    have h2 := lcs_le_left p (y :: q)
    have h3 := h'.length_le
    simp only [List.length_cons] at *
    omega
  · have h' : (y :: q) <:+ p := by
      rcases List.suffix_cons_iff.1 h with h | h
      · simp only [List.cons.injEq] at h; exact absurd h.1.symm hne
      · exact h
    have h1 := lcs_suffix h'
    rw [lcs_comm] at h1
    have h2 := lcs_le_right (x :: p) q
    have h3 := h'.length_le
    simp only [List.length_cons] at *
    omega
/-- the steps of the first of the scripts that keep most: 0 keeps, 1 deletes, 2 inserts -/
def steps : List α → List α → List Nat
  | [], b => List.replicate b.length 2
  | x :: a, [] => List.replicate (x :: a).length 1
  | x :: a, y :: b => if x = y then 0 :: steps a b else if lcs (x :: a) b ≤ lcs a (y :: b) then 1 :: steps a (y :: b) else 2 :: steps (x :: a) b
termination_by a b => a.length + b.length
theorem steps_nil_left (b : List α) : steps [] b = List.replicate b.length 2 := by rw [steps]
theorem steps_nil_right (a : List α) : steps a [] = List.replicate a.length 1 := by
  cases a with
  | nil => rw [steps]; rfl
  | cons x a => rw [steps]
theorem steps_cons (x y : α) (a b : List α) : steps (x :: a) (y :: b) = if x = y then 0 :: steps a b else if lcs (x :: a) b ≤ lcs a (y :: b) then 1 :: steps a (y :: b) else 2 :: steps (x :: a) b := by rw [steps]
/-- a map that tells lines apart changes nothing -/
theorem lcs_map (f : α → β) : ∀ a b : List α, (∀ x ∈ a, ∀ y ∈ b, f x = f y → x = y) → lcs (a.map f) (b.map f) = lcs a b
  | [], b, _ => by simp [lcs_nil_left]
  | x :: a, [], _ => by simp [lcs_nil_right]
  | x :: a, y :: b, h => by
      simp only [List.map_cons]
      rw [lcs_cons, lcs_cons]
      have h1 := lcs_map f a b (fun u hu v hv => h u (List.mem_cons_of_mem _ hu) v (List.mem_cons_of_mem _ hv))
      have h2 := lcs_map f a (y :: b) (fun u hu v hv => h u (List.mem_cons_of_mem _ hu) v hv)
      have h3 := lcs_map f (x :: a) b (fun u hu v hv => h u hu v (List.mem_cons_of_mem _ hv))
      simp only [List.map_cons] at h2 h3
      by_cases e : x = y
      · rw [if_pos e, if_pos (by rw [e]), h1]
      · rw [if_neg e, if_neg (fun g => e (h x List.mem_cons_self y List.mem_cons_self g)), h2, h3]
termination_by a b => a.length + b.length
theorem steps_map (f : α → β) : ∀ a b : List α, (∀ x ∈ a, ∀ y ∈ b, f x = f y → x = y) → steps (a.map f) (b.map f) = steps a b
  | [], b, _ => by simp [steps_nil_left]
  | x :: a, [], _ => by simp [steps_nil_right]
  | x :: a, y :: b, h => by
      simp only [List.map_cons]
      rw [steps_cons, steps_cons]
      have ha : ∀ u ∈ a, ∀ v ∈ b, f u = f v → u = v := fun u hu v hv => h u (List.mem_cons_of_mem _ hu) v (List.mem_cons_of_mem _ hv)
      have hb : ∀ u ∈ a, ∀ v ∈ y :: b, f u = f v → u = v := fun u hu v hv => h u (List.mem_cons_of_mem _ hu) v hv
      have hc : ∀ u ∈ x :: a, ∀ v ∈ b, f u = f v → u = v := fun u hu v hv => h u hu v (List.mem_cons_of_mem _ hv)
      have h1 := steps_map f a b ha
      have h2 := steps_map f a (y :: b) hb
      have h3 := steps_map f (x :: a) b hc
      have l2 := lcs_map f a (y :: b) hb
      have l3 := lcs_map f (x :: a) b hc
      simp only [List.map_cons] at h2 h3 l2 l3
      rw [h1, h2, h3, l2, l3]
      by_cases e : x = y
      · rw [if_pos e, if_pos (by rw [e])]
      · rw [if_neg e, if_neg (fun g => e (h x List.mem_cons_self y List.mem_cons_self g))]
termination_by a b => a.length + b.length
/-- how many lines both begin with -/
def cpre : List α → List α → Nat
  | x :: a, y :: b => if x = y then cpre a b + 1 else 0
  | _, _ => 0
theorem cpre_le_left : ∀ a b : List α, cpre a b ≤ a.length
  | [], b => by simp [cpre]
  | x :: a, [] => by simp [cpre]
  | x :: a, y :: b => by
      unfold cpre
      have := cpre_le_left a b
      split <;> simp; omega
theorem cpre_le_right : ∀ a b : List α, cpre a b ≤ b.length
  | [], b => by simp [cpre]
  | x :: a, [] => by simp [cpre]
  | x :: a, y :: b => by
      unfold cpre
      have := cpre_le_right a b
      split <;> simp; omega
theorem steps_cpre : ∀ a b : List α, steps a b = List.replicate (cpre a b) 0 ++ steps (a.drop (cpre a b)) (b.drop (cpre a b))
  | [], b => by simp [cpre]
  | x :: a, [] => by simp [cpre]
  | x :: a, y :: b => by
      by_cases e : x = y
      · rw [steps_cons, if_pos e, show cpre (x :: a) (y :: b) = cpre a b + 1 from by simp [cpre, e], List.replicate_succ, List.drop_succ_cons, List.drop_succ_cons, List.cons_append, ← steps_cpre a b]
      · rw [show cpre (x :: a) (y :: b) = 0 from by simp [cpre, e]]; rfl
/-- n steps of one kind more behind a script -/
def add (l : List (Nat × Nat)) (op n : Nat) : List (Nat × Nat) :=
  if n = 0 then l else
  match l.getLast? with
  | some (o, m) => if o = op then l.dropLast ++ [(op, m + n)] else l ++ [(op, n)]
  | none => [(op, n)]
/-- a script out of steps -/
def pack (l : List (Nat × Nat)) (s : List Nat) : List (Nat × Nat) := s.foldl (fun l op => add l op 1) l
theorem add_zero (l : List (Nat × Nat)) (op : Nat) : add l op 0 = l := by simp [add]
theorem add_add (l : List (Nat × Nat)) (op n m : Nat) : add (add l op n) op m = add l op (n + m) := by
  by_cases hn : n = 0
  · subst hn; rw [add_zero, Nat.zero_add]
  by_cases hm : m = 0
  · subst hm; rw [add_zero, Nat.add_zero]
  rcases List.eq_nil_or_concat l with rfl | ⟨l', ⟨o, k⟩, rfl⟩
  · simp [add, hn, hm]
  · by_cases e : o = op
    · simp [add, hn, hm, e, Nat.add_assoc]
    · simp [add, hn, hm, e]
theorem pack_replicate (l : List (Nat × Nat)) (op : Nat) : ∀ n, pack l (List.replicate n op) = add l op n
  | 0 => by simp [pack, add_zero]
  | n + 1 => by
      rw [List.replicate_succ', pack, List.foldl_append]
      have := pack_replicate l op n
      rw [pack] at this
      rw [this]
      simp only [List.foldl_cons, List.foldl_nil]
      rw [add_add]
theorem pack_cons (l : List (Nat × Nat)) (op : Nat) (s : List Nat) : pack l (op :: s) = pack (add l op 1) s := rfl
theorem pack_append (l : List (Nat × Nat)) (s t : List Nat) : pack l (s ++ t) = pack (pack l s) t := by simp [pack, List.foldl_append]
/-- the script from a to b -/
def scr (a b : List α) : List (Nat × Nat) := pack [] (steps a b)
end Go.Proofs.Ytlaneilmffdahaa.Ln
