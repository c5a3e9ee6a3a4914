/- What chunks are rendered as, plainly. -/
import Derived.Test.YtlaneilmffdahaaMgLaws
import Derived.Test.YtlaneilmffdahaaLnJoinStr
namespace Go.Proofs.Ytlaneilmffdahaa.Mg
open Go.Proofs.Ytlaneilmffdahaa.Ln
set_option linter.unusedVariables false

theorem ints_append (a b : List ByteArray) : ints (a ++ b) = ints a ++ ints b := by simp [ints]
/-- lines, the last one ended -/
def endd (l : List ByteArray) : List Int := if ints l = [] ∨ (ints l).getLast? = some 10 then ints l else ints l ++ [10]
def mk (n : Nat) : List Int := List.replicate 7 (if n = 0 then 60 else if n = 1 then 124 else if n = 2 then 61 else 62) ++ [10]
def rendC (c : Ch) : List Int :=
  if c.k = 0 then ints c.b else if c.k = 1 ∨ c.k = 3 then ints c.o else if c.k = 2 then ints c.t else
  if c.k = 4 then mk 0 ++ endd c.o ++ mk 1 ++ endd c.b ++ mk 2 ++ endd c.t ++ mk 3 else []
def rend (l : List Ch) : List Int := l.flatMap rendC
theorem rend_append (l m : List Ch) : rend (l ++ m) = rend l ++ rend m := by simp [rend]
theorem rend_one (c : Ch) : rend [c] = rendC c := by simp [rend]
/-- no clash -/
def clean (l : List Ch) : Bool := l.all fun c => c.k != 4
theorem clean_append (l m : List Ch) : clean (l ++ m) = (clean l && clean m) := by simp [clean]

theorem kind_cases {c : Ch} (h : KindOk c) : (c.k = 0 ∧ c.b = c.o ∧ c.o = c.t) ∨ (c.k = 3 ∧ c.b ≠ c.o ∧ c.o = c.t) ∨ (c.k = 1 ∧ c.b = c.t ∧ c.b ≠ c.o ∧ c.o ≠ c.t) ∨ (c.k = 2 ∧ c.b = c.o ∧ c.b ≠ c.t ∧ c.o ≠ c.t) ∨ (c.k = 4 ∧ c.b ≠ c.o ∧ c.b ≠ c.t ∧ c.o ≠ c.t) := by
  have h := h.1
  unfold kindOf at h
  by_cases h1 : c.o = c.t
  · rw [if_pos h1] at h
    by_cases h2 : c.b = c.o
    · rw [if_pos h2] at h; exact .inl ⟨h, h2, h1⟩
    · rw [if_neg h2] at h; exact .inr (.inl ⟨h, h2, h1⟩)
  · rw [if_neg h1] at h
    by_cases h2 : c.b = c.t
    · rw [if_pos h2] at h; exact .inr (.inr (.inl ⟨h, h2, fun e => h1 (e.symm.trans h2), h1⟩))
    · rw [if_neg h2] at h
      by_cases h3 : c.b = c.o
      · rw [if_pos h3] at h; exact .inr (.inr (.inr (.inl ⟨h, h3, h2, h1⟩)))
      · rw [if_neg h3] at h; exact .inr (.inr (.inr (.inr ⟨h, h3, h2, h1⟩)))
theorem rend_side {l : List Ch} (f : Ch → List ByteArray) (h : ∀ c ∈ l, rendC c = ints (f c) ∧ c.k ≠ 4) : rend l = ints (l.flatMap f) ∧ clean l = true := by
  induction l with
  | nil => exact ⟨rfl, rfl⟩
  | cons c l ih =>
    obtain ⟨i1, i2⟩ := ih (fun d hd => h d (List.mem_cons_of_mem _ hd))
    obtain ⟨g1, g2⟩ := h c (List.mem_cons_self ..)
    refine ⟨?_, ?_⟩
    · show rendC c ++ rend l = _
      rw [i1, g1, List.flatMap_cons, ints_append]
    · show ((c.k != 4) && clean l) = true
      rw [i2]; simpa using g2
theorem rend_ours (base side : List ByteArray) : rend (chunks base side base) = ints side ∧ clean (chunks base side base) = true := by
  have h := rend_side (l := chunks base side base) (·.o) (fun c hc => by
    have hk := kind_cases (chunks_kind _ _ _ c hc)
    have ht := chunks_base base side c hc
    unfold rendC
    rcases hk with ⟨h, h1, h2⟩ | ⟨h, h1, h2⟩ | ⟨h, h1, h2, h3⟩ | ⟨h, h1, h2, h3⟩ | ⟨h, h1, h2, h3⟩
    · rw [h]; simp [h1]
    · rw [h]; simp
    · rw [h]; simp
    · exact absurd ht.symm h2
    · exact absurd ht.symm h2)
  rw [h.1]
  exact ⟨congrArg ints (chunks_lines base side base).2.1, h.2⟩
theorem rend_both (base side : List ByteArray) : rend (chunks base side side) = ints side ∧ clean (chunks base side side) = true := by
  have h := rend_side (l := chunks base side side) (·.o) (fun c hc => by
    have hk := kind_cases (chunks_kind _ _ _ c hc)
    have ht := chunks_both base side c hc
    unfold rendC
    rcases hk with ⟨h, h1, h2⟩ | ⟨h, h1, h2⟩ | ⟨h, h1, h2, h3⟩ | ⟨h, h1, h2, h3⟩ | ⟨h, h1, h2, h3⟩
    · rw [h]; simp [h1]
    · rw [h]; simp
    · exact absurd ht h3
    · exact absurd ht h3
    · exact absurd ht h3)
  rw [h.1]
  exact ⟨congrArg ints (chunks_lines base side side).2.1, h.2⟩
theorem clean_turn (l : List Ch) : clean (l.map turnC) = clean l := by
  have e : ∀ c : Ch, ((turnC c).k != 4) = (c.k != 4) := by
    intro c
    have : (turnC c).k = 4 ↔ c.k = 4 := by
      show turnK c.k = 4 ↔ _
      unfold turnK; split <;> try split
      all_goals omega
    rw [Bool.eq_iff_iff]; simp [this]
  unfold clean
  rw [List.all_map]
  congr 1
  funext c
  exact e c
theorem rend_turn {l : List Ch} (h : ∀ c ∈ l, KindOk c) (hc : clean l = true) : rend (l.map turnC) = rend l := by
  induction l with
  | nil => rfl
  | cons c l ih =>
    have hc' : (c.k != 4) = true ∧ clean l = true := by simpa [clean] using hc
    have i := ih (fun d hd => h d (List.mem_cons_of_mem _ hd)) hc'.2
    show rendC (turnC c) ++ rend (l.map turnC) = rendC c ++ rend l
    rw [i]
    congr 1
    have h4 : c.k ≠ 4 := by simpa using hc'.1
    have hk := kind_cases (h c (List.mem_cons_self ..))
    rcases hk with ⟨h, h1, h2⟩ | ⟨h, h1, h2⟩ | ⟨h, h1, h2, h3⟩ | ⟨h, h1, h2, h3⟩ | ⟨h, h1, h2, h3⟩
    · simp [rendC, turnC, turnK, h]
    · simp [rendC, turnC, turnK, h, h2]
    · simp [rendC, turnC, turnK, h]
    · simp [rendC, turnC, turnK, h]
    · exact absurd h h4
theorem rend_theirs (base side : List ByteArray) : rend (chunks base base side) = ints side ∧ clean (chunks base base side) = true := by
  obtain ⟨h1, h2⟩ := rend_ours base side
  rw [chunks_turn base side base, clean_turn]
  exact ⟨(rend_turn (chunks_kind _ _ _) h2).trans h1, h2⟩
end Go.Proofs.Ytlaneilmffdahaa.Mg
