/- Names that fit one by one fit in any order: plain. -/
import Derived.Test.YtnognfhcddmikaaNmFits3
namespace Go.Proofs.Ytnognfhcddmikaa.Nm
set_option linter.unusedVariables false

/-- the first k fit one by one -/
def FB (l : List (List UInt8)) : Nat → Bool
  | 0 => true
  | k + 1 => FB l k && (fits (l.getD k []) (l.take k) == 0)

def Rel (x y : List UInt8) : Prop := x ≠ y ∧ clash y x = false

theorem clash_comm (x y : List UInt8) : clash x y = clash y x := by unfold clash; exact Bool.or_comm _ _

theorem Rel_symm {x y : List UInt8} (h : Rel x y) : Rel y x := ⟨fun e => h.1 e.symm, by rw [clash_comm]; exact h.2⟩

theorem fits_ok (s : List UInt8) (ls : List (List UInt8)) : (fits s ls == 0) = true ↔ nm s = true ∧ ∀ o ∈ ls, Rel o s := by
  unfold fits
  cases hn : nm s
  · simp
  · simp only [Bool.true_eq_false, if_false, true_and]
    by_cases hm : s ∈ ls
    · simp only [hm, if_true]
      constructor
      · intro h; simp at h
      · intro h; exact absurd rfl (h s hm).1
    · simp only [hm, if_false]
      cases hc : ls.any (clash s)
      · simp only [Bool.false_eq_true, if_false, beq_self_eq_true, true_iff]
        intro o ho
        refine ⟨fun e => hm (e ▸ ho), ?_⟩
        have := List.any_eq_false.1 hc o ho
        simpa using this
      · simp only [if_true]
        constructor
        · intro h; simp at h
        · intro h
          obtain ⟨o, ho, hco⟩ := List.any_eq_true.1 hc
          have := (h o ho).2
          rw [hco] at this
          simp at this

theorem FB_iff (l : List (List UInt8)) : ∀ k, k ≤ l.length → (FB l k = true ↔ (∀ x ∈ l.take k, nm x = true) ∧ (l.take k).Pairwise Rel)
  | 0, _ => by simp [FB]
  | k + 1, h => by
      have ih := FB_iff l k (by omega)
      have hk : k < l.length := by omega
      have e : l.getD k [] = l[k] := by simp [hk]
      unfold FB
      rw [Bool.and_eq_true, ih, fits_ok, List.take_succ_eq_append_getElem hk, List.pairwise_append, e]
      constructor
      · rintro ⟨⟨h1, h2⟩, h3, h4⟩
        refine ⟨fun x hx => ?_, h2, by simp, fun a ha b hb => ?_⟩
        · rcases List.mem_append.1 hx with hx | hx
          · exact h1 x hx
          · simp at hx; rw [hx]; exact h3
        · simp at hb; rw [hb]; exact h4 a ha
      · rintro ⟨h1, h2, _, h4⟩
        exact ⟨⟨fun x hx => h1 x (List.mem_append_left _ hx), h2⟩, h1 _ (List.mem_append_right _ (List.mem_singleton.2 rfl)), fun o ho => h4 o ho _ (List.mem_singleton.2 rfl)⟩

theorem FB_perm {l m : List (List UInt8)} (h : l.Perm m) : FB l l.length = FB m m.length := by
  rw [Bool.eq_iff_iff, FB_iff l _ (Nat.le_refl _), FB_iff m _ (Nat.le_refl _), List.take_length, List.take_length]
  rw [h.pairwise_iff (fun h => Rel_symm h)]
  constructor
  · rintro ⟨h1, h2⟩; exact ⟨fun x hx => h1 x (h.mem_iff.2 hx), h2⟩
  · rintro ⟨h1, h2⟩; exact ⟨fun x hx => h1 x (h.mem_iff.1 hx), h2⟩

/-- turned by r -/
def rot {α : Type} (l : List α) (r : Nat) : List α := l.drop r ++ l.take r

theorem rot_perm {α : Type} (l : List α) (r : Nat) : (rot l r).Perm l := by
  unfold rot
  exact List.perm_append_comm.trans (by rw [List.take_append_drop])

theorem rot_get {α : Type} (l : List α) (r i : Nat) (hr : r < l.length) (hi : i < l.length) : (rot l r)[i]? = l[(i + r) % l.length]? := by
  unfold rot
  rcases Nat.lt_or_ge (i + r) l.length with h | h
  · rw [Nat.mod_eq_of_lt h, List.getElem?_append_left (by simp; omega), List.getElem?_drop, Nat.add_comm]
  · have e : (i + r) % l.length = i + r - l.length := by rw [Nat.mod_eq_sub_mod h, Nat.mod_eq_of_lt (by omega)]
    rw [e, List.getElem?_append_right (by simp; omega), List.length_drop, List.getElem?_take, if_pos (by omega)]
    congr 1
    omega
end Go.Proofs.Ytnognfhcddmikaa.Nm
