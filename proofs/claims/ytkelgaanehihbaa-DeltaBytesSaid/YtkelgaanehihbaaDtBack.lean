/- A delta applied to its base makes its target: of lists. -/
import Derived.Test.YtkelgaanehihbaaDtOpen
namespace Go.Proofs.Ytkelgaanehihbaa.Dt
open Go.RowKit
set_option linter.unusedVariables false

theorem num_nb (x : Int) (r : List Int) (h0 : 0 ≤ x) (h1 : x ≤ 4294967295) : num (nb x ++ r) = x := by
  simp only [num, nb, List.cons_append, List.nil_append, List.getD_cons_zero, List.getD_cons_succ]
  omega

theorem cp_take : ∀ a b : List Int, a.take (cp a b) = b.take (cp a b)
  | [], b => by simp [cp]
  | x :: a, [] => by simp [cp]
  | x :: a, y :: b => by
      unfold cp
      split
      · rename_i h
        subst h
        rw [List.take_succ_cons, List.take_succ_cons, cp_take a b]
      · simp

theorem cp_self : ∀ a : List Int, cp a a = a.length
  | [] => rfl
  | x :: a => by unfold cp; rw [if_pos rfl, cp_self a]; simp

theorem run_copy (z : List Int) (want : Int) (place n : Nat) (rest out : List Int) (hn : 0 < n) (hp : place + n ≤ z.length) (hz : z.length ≤ 4294967295) (hw : (out.length : Int) + n ≤ want) :
    run z want ((1 :: nb place ++ nb n ++ rest).length + 1) (1 :: nb place ++ nb n ++ rest) out = run z want (rest.length + 1) rest (out ++ (z.drop place).take n) := by
  have e1 : num ((1 :: nb (place : Int) ++ nb (n : Int) ++ rest).drop 1) = (place : Int) := by
    have := num_nb (place : Int) (nb (n : Int) ++ rest) (by omega) (by omega)
    simpa using this
  have e5 : num ((1 :: nb (place : Int) ++ nb (n : Int) ++ rest).drop 5) = (n : Int) := by
    have := num_nb (n : Int) rest (by omega) (by omega)
    simpa [nb] using this
  have e9 : (1 :: nb (place : Int) ++ nb (n : Int) ++ rest).drop 9 = rest := by simp [nb]
  have hl : (1 :: nb (place : Int) ++ nb (n : Int) ++ rest).length = rest.length + 9 := by simp [nb]
  have h0 : (1 :: nb (place : Int) ++ nb (n : Int) ++ rest).getD 0 0 = 1 := by simp
  generalize (1 :: nb (place : Int) ++ nb (n : Int) ++ rest) = zs at *
  have hs : step z zs = .ok ((z.drop place).take n, rest) := by
    unfold step
    rw [if_pos h0, if_neg (by omega), e1, e5, e9, if_neg (by omega), if_neg (by omega)]
    simp
  exact run_on z want zs out (by omega) hs (by rw [List.length_take, List.length_drop]; omega)

theorem run_give (z : List Int) (want : Int) (n : Nat) (lit rest out : List Int) (hn : 0 < n) (hp : lit.length = n) (hz : n ≤ 4294967295) (hw : (out.length : Int) + n ≤ want) :
    run z want ((2 :: nb n ++ lit ++ rest).length + 1) (2 :: nb n ++ lit ++ rest) out = run z want (rest.length + 1) rest (out ++ lit) := by
  have e1 : num ((2 :: nb (n : Int) ++ lit ++ rest).drop 1) = (n : Int) := by
    have := num_nb (n : Int) (lit ++ rest) (by omega) (by omega)
    simpa using this
  have e5 : (2 :: nb (n : Int) ++ lit ++ rest).drop 5 = lit ++ rest := by simp [nb]
  have hl : (2 :: nb (n : Int) ++ lit ++ rest).length = rest.length + n + 5 := by simp [nb]; omega
  have h0 : (2 :: nb (n : Int) ++ lit ++ rest).getD 0 0 = 2 := by simp
  have e6 : (2 :: nb (n : Int) ++ lit ++ rest).drop (5 + n) = rest := by
    rw [← List.drop_drop, e5, ← hp]; simp
  generalize (2 :: nb (n : Int) ++ lit ++ rest) = zs at *
  have hs : step z zs = .ok (lit, rest) := by
    unfold step
    rw [if_neg (by omega), if_pos h0, if_neg (by omega), e1, e5, if_neg (by omega), if_neg (by omega)]
    simp only [Int.toNat_natCast]
    rw [e6, ← hp]
    simp
  exact run_on z want zs out (by omega) hs (by omega)

theorem ends_same (z t : List Int) (p s : Nat) (h1 : s ≤ z.length - p) (h2 : s ≤ t.length - p) (h : (z.drop p).reverse.take s = (t.drop p).reverse.take s) (hp1 : p ≤ z.length) (hp2 : p ≤ t.length) :
    z.drop (z.length - s) = t.drop (t.length - s) := by
  rw [List.take_reverse, List.take_reverse] at h
  have h := List.reverse_inj.1 h
  rw [List.drop_drop, List.drop_drop, List.length_drop, List.length_drop] at h
  rw [show p + (z.length - p - s) = z.length - s from by omega, show p + (t.length - p - s) = t.length - s from by omega] at h
  exact h

/-- P603 -/
theorem ap_mk (z t : List Int) (hz : z.length ≤ 4294967295) (ht : t.length ≤ 4294967295) : ap z (mk z t) = (t, 0) := by
  have p1 := cp_le_left z t
  have p2 := cp_le_right z t
  have s1 := cp_le_left (z.drop (cp z t)).reverse (t.drop (cp z t)).reverse
  have s2 := cp_le_right (z.drop (cp z t)).reverse (t.drop (cp z t)).reverse
  have q1 := cp_take z t
  have q2 := cp_take (z.drop (cp z t)).reverse (t.drop (cp z t)).reverse
  unfold mk
  generalize cp z t = p at *
  generalize cp (z.drop p).reverse (t.drop p).reverse = s at *
  rw [List.length_reverse, List.length_drop] at s1 s2
  have q3 := ends_same z t p s s1 s2 q2 p1 p2
  clear q2
  unfold mkW ap
  generalize hm : t.length - s - p = m at *
  have eS : ((z.length : Int) - (s : Int)) = ((z.length - s : Nat) : Int) := by omega
  have eP : (nb (0 : Int)) = nb ((0 : Nat) : Int) := rfl
  rw [eS, eP]
  have hT : t = t.take p ++ ((t.drop p).take m ++ t.drop (t.length - s)) := by
    have h1 : t.drop (t.length - s) = (t.drop p).drop m := by rw [List.drop_drop]; congr 1; omega
    rw [h1, List.take_append_drop, List.take_append_drop]
  have g1 : (t.take p).length = p := by rw [List.length_take]; omega
  have g2 : ((t.drop p).take m).length = m := by rw [List.length_take, List.length_drop]; omega
  have g3 : (t.drop (t.length - s)).length = s := by rw [List.length_drop]; omega
  have gs : (z.drop (z.length - s)).take s = t.drop (t.length - s) := by rw [q3]; exact List.take_of_length_le (by omega)
  -- what is left when all that came before is done
  have fin : ∀ out : List Int, out.length = t.length → run z (t.length : Int) (([] : List Int).length + 1) [] out = (out, 0) := by
    intro out ho
    rw [run_stop z _ [] out rfl, if_neg (by omega)]
  have stS : ∀ out : List Int, out.length = p + m → run z (t.length : Int) ((if 0 < s then 1 :: nb ((z.length - s : Nat) : Int) ++ nb (s : Int) else []).length + 1) (if 0 < s then 1 :: nb ((z.length - s : Nat) : Int) ++ nb (s : Int) else []) out = (out ++ t.drop (t.length - s), 0) := by
    intro out ho
    by_cases h : 0 < s
    · rw [if_pos h]
      have := run_copy z (t.length : Int) (z.length - s) s [] out h (by omega) hz (by omega)
      rw [List.append_nil] at this
      rw [this, gs, fin _ (by rw [List.length_append]; omega)]
    · rw [if_neg h, fin _ (by omega)]
      have : t.drop (t.length - s) = [] := List.eq_nil_of_length_eq_zero (by omega)
      rw [this, List.append_nil]
  generalize (if 0 < s then 1 :: nb ((z.length - s : Nat) : Int) ++ nb (s : Int) else []) = S at *
  have stM : ∀ out : List Int, out.length = p → run z (t.length : Int) (((if 0 < m then 2 :: nb (m : Int) ++ (t.drop p).take m else []) ++ S).length + 1) ((if 0 < m then 2 :: nb (m : Int) ++ (t.drop p).take m else []) ++ S) out = (out ++ ((t.drop p).take m ++ t.drop (t.length - s)), 0) := by
    intro out ho
    by_cases h : 0 < m
    · rw [if_pos h]
      rw [run_give z (t.length : Int) m _ S out h g2 (by omega) (by omega), stS _ (by rw [List.length_append]; omega), List.append_assoc]
    · rw [if_neg h, List.nil_append, stS _ (by omega)]
      have : (t.drop p).take m = [] := List.eq_nil_of_length_eq_zero (by omega)
      rw [this, List.nil_append]
  generalize (if 0 < m then 2 :: nb (m : Int) ++ (t.drop p).take m else []) = M at *
  have stP : run z (t.length : Int) (((if 0 < p then 1 :: nb ((0 : Nat) : Int) ++ nb (p : Int) else []) ++ (M ++ S)).length + 1) ((if 0 < p then 1 :: nb ((0 : Nat) : Int) ++ nb (p : Int) else []) ++ (M ++ S)) [] = (t, 0) := by
    by_cases h : 0 < p
    · rw [if_pos h]
      rw [run_copy z (t.length : Int) 0 p (M ++ S) [] h (by omega) hz (by simp; omega), List.drop_zero, q1, List.nil_append, stM _ g1, ← hT]
    · rw [if_neg h, List.nil_append, stM [] (by simp; omega)]
      have : t.take p = [] := List.eq_nil_of_length_eq_zero (by omega)
      rw [this] at hT
      rw [← hT]
  generalize (if 0 < p then 1 :: nb ((0 : Nat) : Int) ++ nb (p : Int) else []) = Q at *
  have eD : nb (z.length : Int) ++ nb (t.length : Int) ++ Q ++ M ++ S = nb (z.length : Int) ++ (nb (t.length : Int) ++ (Q ++ (M ++ S))) := by simp
  rw [eD]
  rw [if_neg (by simp [nb]), num_nb _ _ (by omega) (by omega), if_neg (by simp)]
  have e4 : (nb (z.length : Int) ++ (nb (t.length : Int) ++ (Q ++ (M ++ S)))).drop 4 = nb (t.length : Int) ++ (Q ++ (M ++ S)) := by simp [nb]
  have e8 : (nb (z.length : Int) ++ (nb (t.length : Int) ++ (Q ++ (M ++ S)))).drop 8 = Q ++ (M ++ S) := by simp [nb]
  rw [e4, e8, num_nb _ _ (by omega) (by omega)]
  rw [run_fuel z _ _ ((Q ++ (M ++ S)).length + 1) _ _ (by simp [nb]; omega) (by omega)]
  exact stP

theorem ap_other (z t y : List Int) (hz : z.length ≤ 4294967295) (hy : y.length ≠ z.length) : ap y (mk z t) = ([], 1) := by
  unfold ap mk mkW
  have : ∀ Q M S : List Int, nb (z.length : Int) ++ nb (t.length : Int) ++ Q ++ M ++ S = nb (z.length : Int) ++ (nb (t.length : Int) ++ (Q ++ (M ++ S))) := by intro Q M S; simp
  rw [this, if_neg (by simp [nb]), num_nb _ _ (by omega) (by omega), if_pos (by omega)]

theorem mk_same (z : List Int) (h : 0 < z.length) : (mk z z).length = 17 := by
  unfold mk
  rw [cp_self, List.drop_length]
  unfold mkW
  have : cp ([] : List Int).reverse ([] : List Int).reverse = 0 := rfl
  rw [this, if_pos h, if_neg (by omega), if_neg (by omega)]
  simp [nb]
end Go.Proofs.Ytkelgaanehihbaa.Dt
