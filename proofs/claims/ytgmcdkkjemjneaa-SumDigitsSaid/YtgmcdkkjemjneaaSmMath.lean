/- SHA-256 by words, as plain functions. -/
import Derived.Test.YtgmcdkkjemjneaaSmWord
namespace Go.Proofs.Ytgmcdkkjemjneaa.Sm
open Go.RowKit

def ad (x y : Int) : Int := (x + y) % 4294967296
def an (x y : Int) : Int := bits .and .u32 x y
def ch (e f g : Int) : Int := xr (an e f) (an (xr IntKind.u32.max e) g)
def maj (a b c : Int) : Int := xr (xr (an a b) (an a c)) (an b c)

structure W8 where
  a : Int
  b : Int
  c : Int
  d : Int
  e : Int
  f : Int
  g : Int
  h : Int

def W8.at (s : W8) : Nat → Int
  | 0 => s.a | 1 => s.b | 2 => s.c | 3 => s.d | 4 => s.e | 5 => s.f | 6 => s.g | _ => s.h

/-- one round -/
def step (s : W8) (k w : Int) : W8 :=
  ⟨ad (ad (ad (ad (ad s.h (big s.e 6 11 25)) (ch s.e s.f s.g)) k) w) (ad (big s.a 2 13 22) (maj s.a s.b s.c)), s.a, s.b, s.c, ad s.d (ad (ad (ad (ad s.h (big s.e 6 11 25)) (ch s.e s.f s.g)) k) w), s.e, s.f, s.g⟩
def steps (kf wf : Nat → Int) : Nat → W8 → W8
  | 0, s => s
  | t + 1, s => step (steps kf wf t s) (kf t) (wf t)

theorem steps_congr {kf kg wf wg : Nat → Int} (n : Nat) (s : W8) (hk : ∀ t, t < n → kf t = kg t) (hw : ∀ t, t < n → wf t = wg t) : steps kf wf n s = steps kg wg n s := by
  induction n with
  | zero => rfl
  | succ n ih => rw [steps, steps, ih (fun t h => hk t (by omega)) (fun t h => hw t (by omega)), hk n (by omega), hw n (by omega)]

theorem ad_range (x y : Int) : 0 ≤ ad x y ∧ ad x y < 4294967296 := by unfold ad; omega

/-- all eight words in their range -/
def W8.ok (s : W8) : Prop := ∀ i, 0 ≤ s.at i ∧ s.at i < 4294967296

/-- both states, word by word -/
def mixin (s t : W8) : W8 := ⟨ad s.a t.a, ad s.b t.b, ad s.c t.c, ad s.d t.d, ad s.e t.e, ad s.f t.f, ad s.g t.g, ad s.h t.h⟩
theorem mixin_ok (s t : W8) : (mixin s t).ok := by
  intro i
  unfold mixin W8.at
  split <;> exact ad_range _ _

/-- the words of a block, and those behind them -/
def sched (m : Nat → Int) : Nat → Int
  | t => if h : t < 16 then m t else ad (ad (ad (small (sched m (t - 2)) 17 19 10) (sched m (t - 7))) (small (sched m (t - 15)) 7 18 3)) (sched m (t - 16))

theorem sched_low (m : Nat → Int) (t : Nat) (h : t < 16) : sched m t = m t := by
  rw [sched.eq_1, dif_pos h]
theorem sched_high (m : Nat → Int) (t : Nat) (h : 16 ≤ t) : sched m t = ad (ad (ad (small (sched m (t - 2)) 17 19 10) (sched m (t - 7))) (small (sched m (t - 15)) 7 18 3)) (sched m (t - 16)) := by
  rw [sched.eq_1, dif_neg (by omega)]

theorem word4_range (p q r s : Int) : 0 ≤ word4 p q r s ∧ word4 p q r s < 4294967296 := bits_range _ _ _

theorem sched_range (m : Nat → Int) (hm : ∀ t, 0 ≤ m t ∧ m t < 4294967296) (t : Nat) : 0 ≤ sched m t ∧ sched m t < 4294967296 := by
  by_cases h : t < 16
  · rw [sched_low m t h]; exact hm t
  · rw [sched_high m t (by omega)]; exact ad_range _ _

/-- a block: 64 bytes -/
def wordsOf (l : List Int) (t : Nat) : Int := word4 (l.getD (4 * t) 0) (l.getD (4 * t + 1) 0) (l.getD (4 * t + 2) 0) (l.getD (4 * t + 3) 0)
def block (kf : Nat → Int) (s : W8) (l : List Int) : W8 := mixin s (steps kf (sched (wordsOf l)) 64 s)
/-- as many blocks as are whole -/
def blocks (kf : Nat → Int) : Nat → W8 → List Int → W8
  | 0, s, _ => s
  | n + 1, s, l => blocks kf n (block kf s (l.take 64)) (l.drop 64)

end Go.Proofs.Ytgmcdkkjemjneaa.Sm
