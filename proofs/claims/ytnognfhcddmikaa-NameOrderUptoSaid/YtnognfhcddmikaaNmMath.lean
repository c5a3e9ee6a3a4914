/- What a name is, over lists of bytes: the program's way (two bytes beside one another) and the document's way (byte by byte) are the same. Plain: nothing of the program's text. -/
import Derived.KernelRfl
namespace Go.Proofs.Ytnognfhcddmikaa.Nm

def al (c : Int) : Bool := decide ((97 ≤ c ∧ c ≤ 122) ∨ (65 ≤ c ∧ c ≤ 90) ∨ (48 ≤ c ∧ c ≤ 57))

/-- may c stand behind a -/
def st (a c : Int) : Bool :=
  if c = 47 ∨ c = 46 then decide (a ≠ 46 ∧ a ≠ 47) else if c = 45 then decide (a ≠ 47) else if c = 95 then true else al c

def gd (c : Int) : Bool := decide ((97 ≤ c ∧ c ≤ 122) ∨ (65 ≤ c ∧ c ≤ 90) ∨ (48 ≤ c ∧ c ≤ 57) ∨ c = 46 ∨ c = 95 ∨ c = 45 ∨ c = 47)

/-- one byte of the document's way: p ahead of it, d behind it (47 at both ends), e: it is the last one -/
def okc (p c d : Int) (e : Bool) : Bool :=
  gd c && !decide (c = 47 ∧ (p = 47 ∨ e = true)) && !decide (p = 47 ∧ (c = 46 ∨ c = 45)) && !decide (d = 47 ∧ c = 46) && !decide (c = 46 ∧ p = 46)

def v (c : UInt8) : Int := (c.toNat : Int)

def ck : Int → List UInt8 → Bool
  | a, [] => st a 47
  | a, c :: l => st a (v c) && ck (v c) l

def hd : List UInt8 → Int
  | [] => 47
  | c :: _ => v c

def rk : Int → List UInt8 → Bool
  | _, [] => true
  | p, c :: l => okc p (v c) (hd l) l.isEmpty && rk (v c) l

theorem one_end (p c : Int) : (st p c && st c 47) = (!decide (p = 46 ∧ c = 47) && okc p c 47 true) := by
  rw [Bool.eq_iff_iff]
  simp only [st, okc, gd, al, Bool.and_eq_true, Bool.not_eq_true', decide_eq_true_eq, decide_eq_false_iff_not]
  by_cases h1 : c = 47
  · subst h1; simp
  by_cases h2 : c = 46
  · subst h2; simp
  by_cases h3 : c = 45
  · subst h3; simp
  by_cases h4 : c = 95
  · subst h4; simp
  simp [h1, h2, h3, h4]

theorem one_mid (p c d : Int) : (st p c && !decide (c = 46 ∧ d = 47)) = (!decide (p = 46 ∧ c = 47) && okc p c d false) := by
  rw [Bool.eq_iff_iff]
  simp only [st, okc, gd, al, Bool.and_eq_true, Bool.not_eq_true', decide_eq_true_eq, decide_eq_false_iff_not]
  by_cases h1 : c = 47
  · subst h1; simp
  by_cases h2 : c = 46
  · subst h2; simp; omega
  by_cases h3 : c = 45
  · subst h3; simp
  by_cases h4 : c = 95
  · subst h4; simp
  simp [h1, h2, h3, h4]

theorem ck_rk : ∀ (l : List UInt8) (p : Int), l ≠ [] → ck p l = (!decide (p = 46 ∧ hd l = 47) && rk p l)
  | [], _, h => absurd rfl h
  | [c], p, _ => by
      simp only [ck, rk, hd, List.isEmpty_nil, Bool.and_true]
      exact one_end p (v c)
  | c :: d :: l, p, _ => by
      have ih := ck_rk (d :: l) (v c) (by simp)
      have h1 := one_mid p (v c) (v d)
      show (st p (v c) && ck (v c) (d :: l)) = (!decide (p = 46 ∧ v c = 47) && (okc p (v c) (v d) false && rk (v c) (d :: l)))
      rw [ih, ← Bool.and_assoc, ← Bool.and_assoc, ← h1]
      rfl

/-- a name -/
def nm (l : List UInt8) : Bool := decide (l.length ≤ 60) && ck 47 l
def rnm (l : List UInt8) : Bool := decide (1 ≤ l.length ∧ l.length ≤ 60) && rk 47 l

theorem nm_rnm (l : List UInt8) : nm l = rnm l := by
  unfold nm rnm
  cases l with
  | nil => simp [ck, st]
  | cons c l =>
    rw [ck_rk (c :: l) 47 (by simp)]
    have e : (decide (1 ≤ (c :: l).length ∧ (c :: l).length ≤ 60)) = decide ((c :: l).length ≤ 60) := by
      simp
    rw [e]
    simp

/-- the errno -/
def eno (b : Bool) : Int := if b then 0 else 7

end Go.Proofs.Ytnognfhcddmikaa.Nm
