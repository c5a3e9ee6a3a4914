/- take and number of a delta's steps, walked. -/
import Derived.Test.YtkelgaanehihbaaDtMake
namespace Go.Proofs.Ytkelgaanehihbaa.Dt
open Go.RowKit
set_option linter.unusedVariables false

/-- the steps that lie in block R: what is left, and whether it ended too early -/
structure St (w : World) (R : Nat) (a : Option Addr) (len cap : Nat) (zs : List Int) (c : Bool) : Prop where
  c0 : w.cell? ⟨R, 0, none⟩ = some (.slice a len cap)
  c1 : w.cell? ⟨R, 1, none⟩ = some (.bool c)
  f0 : w.frozen? ⟨R, 0, none⟩ = false
  f1 : w.frozen? ⟨R, 1, none⟩ = false
  sl : Sl w a len cap zs
  ne : ∀ b off, a = some ⟨b, off, none⟩ → 0 < len → b < R

def StE (w : World) (R : Nat) (zs : List Int) (c : Bool) : Prop := ∃ a len cap, St w R a len cap zs c

/-- bytes that stand ahead of block R -/
def SlE (w : World) (R : Nat) (zs : List Int) (v : Value) : Prop := ∃ a len cap, v = .slice a len cap ∧ Sl w a len cap zs ∧ (∀ b off, a = some ⟨b, off, none⟩ → 0 < len → b < R)

/-- a call that hands back bytes, and leaves the steps so -/
def TakeRet (R : Nat) (zs rest : List Int) (c : Bool) (w : World) (e : Ending) (w' : World) : Prop :=
  ∃ a len cap, e = .returned (.slice a len cap) ∧ Sl w' a len cap zs ∧ (∀ b off, a = some ⟨b, off, none⟩ → 0 < len → b < R) ∧ StE w' R rest c ∧ w.grownBy w' (some R)

theorem Sl.grown {w w' : World} {R : Nat} {a : Option Addr} {len cap : Nat} {zs : List Int} (h : Sl w a len cap zs) (hg : w.grownBy w' (some R)) (hlt : ∀ b off, a = some ⟨b, off, none⟩ → 0 < len → b < R) : Sl w' a len cap zs := by
  refine ⟨h.hlen, h.hcap, h.hreach, h.hnone, ?_, h.hbyte, h.hbig⟩
  intro i hi
  obtain ⟨b, off, ha, hc⟩ := h.hcell i hi
  refine ⟨b, off, ha, hg.cell hc ?_⟩
  have := hlt b off ha (by omega)
  simp; omega

theorem grown_set (w : World) (R j : Nat) (u : Value) (h : R < w.heap.size) : w.grownBy (w.setCell ⟨R, j, none⟩ u) (some R) :=
  ⟨rfl, rfl, rfl, by simp, fun k hk hne => Below.heap_setCell w ⟨R, j, none⟩ u k (by intro e; exact hne (by rw [e]))⟩

theorem grown_trans {w1 w2 w3 : World} {row : Option Nat} (h : w1.grownBy w2 row) (k : w2.grownBy w3 row) : w1.grownBy w3 row :=
  ⟨k.os.trans h.os, k.tape.trans h.tape, k.output.trans h.output, Nat.le_trans h.size k.size, fun i hi hne => (k.block i (Nat.lt_of_lt_of_le hi h.size) hne).trans (h.block i hi hne)⟩

theorem St.lt {w : World} {R : Nat} {a : Option Addr} {len cap : Nat} {zs : List Int} {c : Bool} (h : St w R a len cap zs c) : R < w.heap.size := block_lt_of_cell h.c0

theorem St.set0 {w : World} {R : Nat} {a : Option Addr} {len cap : Nat} {zs : List Int} {c : Bool} (h : St w R a len cap zs c) {A : Option Addr} {L C : Nat} {Z : List Int} (hs : Sl w A L C Z) (hne : ∀ b off, A = some ⟨b, off, none⟩ → 0 < L → b < R) :
    St (w.setCell ⟨R, 0, none⟩ (.slice A L C)) R A L C Z c := by
  refine ⟨World.cell?_setCell_same' w _ _ (by rw [h.c0]; rfl), ?_, by rw [World.frozen?_setCell]; exact h.f0, by rw [World.frozen?_setCell]; exact h.f1, hs.grown (grown_set w R 0 _ h.lt) hne, hne⟩
  rw [World.cell?_setCell_other w _ _ _ (by simp)]
  exact h.c1

theorem St.set1 {w : World} {R : Nat} {a : Option Addr} {len cap : Nat} {zs : List Int} {c : Bool} (h : St w R a len cap zs c) (c' : Bool) :
    St (w.setCell ⟨R, 1, none⟩ (.bool c')) R a len cap zs c' := by
  refine ⟨?_, World.cell?_setCell_same' w _ _ (by rw [h.c1]; rfl), by rw [World.frozen?_setCell]; exact h.f0, by rw [World.frozen?_setCell]; exact h.f1, h.sl.grown (grown_set w R 1 _ h.lt) h.ne, h.ne⟩
  rw [World.cell?_setCell_other w _ _ _ (by simp)]
  exact h.c0

theorem drop_ne {R : Nat} {a : Option Addr} {len cap k : Nat} (h : ∀ b off, a = some ⟨b, off, none⟩ → 0 < len → b < R) (hw : ∀ i, i < len → ∃ b off, a = some ⟨b, off, none⟩) (hc : len ≤ cap) :
    ∀ b off, (if cap = k then a else Option.map (fun x => x.add k) a) = some ⟨b, off, none⟩ → 0 < len - k → b < R := by
  intro b off he hl
  obtain ⟨b', off', rfl⟩ := hw k (by omega)
  rw [if_neg (by omega)] at he
  simp [Addr.add] at he
  have := h b' off' rfl (by omega)
  have hb : b' = b := by split at he <;> (simp at he; exact he.1)
  rw [← hb]
  exact this

set_option maxHeartbeats 400000 in
theorem take_ok (R : Nat) (a : Option Addr) (len cap : Nat) (zs : List Int) (c : Bool) (n : Int) (w : World) (h : St w R a len cap zs c) (h0 : 0 ≤ n) (hn : n ≤ len) :
    Calls Try.prog 21 #[.pointer (some ⟨R, 0, none⟩), .int .i64 n] w (TakeRet R (zs.take n.toNat) (zs.drop n.toNat) c w) := by
  obtain ⟨k, rfl⟩ := Int.eq_ofNat_of_zero_le h0
  have hk : k ≤ len := by omega
  have g1 := h.sl.hcap
  have g2 := h.sl.hreach
  have hc0 := h.c0
  have hc1 := h.c1
  have hf0 := h.f0
  have hf1 := h.f1
  have HH := Lib.hid h
  have HD := Lib.hid (h.sl.drop k hk)
  have HN := Lib.hid (drop_ne (k := k) h.ne (fun i hi => by obtain ⟨b, off, he, _⟩ := h.sl.hcell i hi; exact ⟨b, off, he⟩) g1)
  rw [Int.toNat_natCast]
  clear h h0 hn
  by_cases hcap : cap = k
  · rw [if_pos hcap] at HD HN
    subst hcap
    obtain rfl : len = cap := by omega
    go_enter Try.func21, Try.ntmps21
    go_wp2
    go_ret
    have hS := HH.out.set0 HD.out HN.out
    have hg := grown_set w R 0 (.slice a (len - len) (len - len)) HH.out.lt
    rw [Nat.sub_self] at hS hg
    exact ⟨_, _, _, rfl, ((HH.out.sl.take len hk).grown hg (fun b off he hl => HH.out.ne b off he (by omega))) |> fun x => ⟨x.hlen, Nat.le_refl _, g2, fun hn => by have := HH.out.sl.hnone hn; omega, x.hcell, x.hbyte, x.hbig⟩, fun b off he hl => HH.out.ne b off he (by omega), ⟨_, _, _, hS⟩, hg⟩
  · rw [if_neg hcap] at HD HN
    go_enter Try.func21, Try.ntmps21
    go_wp2
    go_ret
    have hS := HH.out.set0 HD.out HN.out
    have hg := grown_set w R 0 (.slice (Option.map (fun x => x.add k) a) (len - k) (cap - k)) HH.out.lt
    exact ⟨_, _, _, rfl, ((HH.out.sl.take k hk).grown hg (fun b off he hl => HH.out.ne b off he (by omega))) |> fun x => ⟨x.hlen, Nat.le_refl _, by omega, fun hn => by have := HH.out.sl.hnone hn; omega, x.hcell, x.hbyte, x.hbig⟩, fun b off he hl => HH.out.ne b off he (by omega), ⟨_, _, _, hS⟩, hg⟩

set_option maxHeartbeats 400000 in
theorem take_cut (R : Nat) (a : Option Addr) (len cap : Nat) (zs : List Int) (c : Bool) (n : Int) (w : World) (h : St w R a len cap zs c) (hn : len < n) :
    Calls Try.prog 21 #[.pointer (some ⟨R, 0, none⟩), .int .i64 n] w (TakeRet R [] zs true w) := by
  have g1 := h.sl.hcap
  have g2 := h.sl.hreach
  have hc0 := h.c0
  have hc1 := h.c1
  have hf0 := h.f0
  have hf1 := h.f1
  have HH := Lib.hid h
  clear h
  go_enter Try.func21, Try.ntmps21
  go_wp2
  go_ret
  have h1 := HH.out.set1 true
  have h2 := h1.set0 h1.sl h1.ne
  have hg := grown_trans (grown_set w R 1 (.bool true) HH.out.lt) (grown_set _ R 0 (.slice a len cap) h1.lt)
  exact ⟨_, _, _, rfl, ⟨rfl, Nat.le_refl _, by omega, fun _ => rfl, fun i hi => absurd hi (by omega), fun i hi => absurd hi (by omega), by omega⟩, fun b off he hl => absurd hl (by omega), ⟨_, _, _, h2⟩, hg⟩

theorem wrap_small (n : Nat) (h : n < 9223372036854775808) : IntKind.i64.wrap (n : Int) = (n : Int) := by
  have e : (n : Int) % 2 ^ 64 = n := Int.emod_eq_of_lt (by omega) (by omega)
  simp only [IntKind.wrap, IntKind.bits, IntKind.signed, e]
  rw [if_neg]
  simp
  omega

theorem or_i64 (x y : Int) (hx : 0 ≤ x) (hx2 : x ≤ 4294967296) (hy : 0 ≤ y) (hy2 : y ≤ 255) : bits .or .i64 (x * 256) y = x * 256 + y := by
  obtain ⟨a, rfl⟩ := Int.eq_ofNat_of_zero_le hx
  obtain ⟨b, rfl⟩ := Int.eq_ofNat_of_zero_le hy
  have e : ((a : Int) * 256) = ((a * 256 : Nat) : Int) := by simp
  rw [e]
  show IntKind.i64.wrap ((BitVec.ofInt 64 ((a * 256 : Nat) : Int) ||| BitVec.ofInt 64 (b : Int)).toNat : Int) = _
  have h1 : (BitVec.ofInt 64 ((a * 256 : Nat) : Int)).toNat = a * 256 := by
    rw [BitVec.ofInt_natCast, BitVec.toNat_ofNat]; exact Nat.mod_eq_of_lt (by omega)
  have h2 : (BitVec.ofInt 64 (b : Int)).toNat = b := by
    rw [BitVec.ofInt_natCast, BitVec.toNat_ofNat]; exact Nat.mod_eq_of_lt (by omega)
  have h3 : a * 256 ||| b = a * 256 + b := by
    have := Nat.two_pow_add_eq_or_of_lt (i := 8) (b := b) (by omega) a
    rw [Nat.mul_comm a 256]
    exact this.symm
  rw [BitVec.toNat_or, h1, h2, h3, wrap_small _ (by omega)]
  simp

/-- four bytes as a number -/
def num (z : List Int) : Int := ((z.getD 0 0 * 256 + z.getD 1 0) * 256 + z.getD 2 0) * 256 + z.getD 3 0

def NumRet (R : Nat) (x : Int) (rest : List Int) (c : Bool) (w : World) (e : Ending) (w' : World) : Prop :=
  e = .returned (.int .i64 x) ∧ StE w' R rest c ∧ w.grownBy w' (some R)

set_option maxHeartbeats 400000 in
theorem number_cut (R : Nat) (zs : List Int) (c : Bool) (w : World) (h : StE w R zs c) (hn : zs.length < 4) :
    Calls Try.prog 13 #[.pointer (some ⟨R, 0, none⟩)] w (NumRet R 0 zs true w) := by
  obtain ⟨a, len, cap, h⟩ := h
  have hl := h.sl.hlen
  have HT := Lib.hid (take_cut R a len cap zs c 4 w h (by omega))
  clear h hl
  go_enter Try.func13, Try.ntmps13
  go_wp2_with fail
  refine HT.out.mono ?_
  rintro e w1 ⟨a1, l1, c1, rfl, hs, hne, hst, hg⟩
  obtain rfl : l1 = 0 := hs.hlen.symm
  have HST := Lib.hid hst
  have HG := Lib.hid hg
  clear hs hne hst hg HT
  go_wp2
  go_loop [3, 9] (fun x i => x = .int .i64 0 ∧ i = .int .i64 0) (fun _ _ => 0)
  case atStart => exact ⟨rfl, rfl⟩
  case round =>
    obtain ⟨rfl, rfl⟩ := hrel
    go_wp2
    go_ret
    exact ⟨rfl, HST.out, HG.out⟩

set_option maxHeartbeats 400000 in
theorem number_ok (R : Nat) (zs : List Int) (c : Bool) (w : World) (h : StE w R zs c) (hn : 4 ≤ zs.length) :
    Calls Try.prog 13 #[.pointer (some ⟨R, 0, none⟩)] w (NumRet R (num zs) (zs.drop 4) c w) := by
  obtain ⟨a, len, cap, h⟩ := h
  have hl := h.sl.hlen
  have HT := Lib.hid (take_ok R a len cap zs c 4 w h (by omega) (by omega))
  clear h hl
  go_enter Try.func13, Try.ntmps13
  go_wp2_with fail
  refine HT.out.mono ?_
  rintro e w1 ⟨a1, l1, c1, rfl, hs, hne, hst, hg⟩
  obtain rfl : l1 = 4 := by rw [← hs.hlen]; simp; omega
  obtain ⟨b0, o0, rfl, h0⟩ := hs.hcell 0 (by omega)
  have cell : ∀ i, i < 4 → w1.cell? ⟨b0, o0 + i, none⟩ = some (.int .u8 (zs.getD i 0)) ∧ 0 ≤ zs.getD i 0 ∧ zs.getD i 0 ≤ 255 := by
    intro i hi
    obtain ⟨b, o, he, hc⟩ := hs.hcell i hi
    simp only [Option.some.injEq, Addr.mk.injEq, and_true] at he
    obtain ⟨rfl, rfl⟩ := he
    have hb := hs.hbyte i hi
    have e : (zs.take (4 : Int).toNat).getD i 0 = zs.getD i 0 := by simp [List.getD, hi]
    rw [e] at hc hb
    exact ⟨hc, hb⟩
  obtain ⟨q0, l0, m0⟩ := cell 0 (by omega)
  obtain ⟨q1, l1, m1⟩ := cell 1 (by omega)
  obtain ⟨q2, l2, m2⟩ := cell 2 (by omega)
  obtain ⟨q3, l3, m3⟩ := cell 3 (by omega)
  have HX : Hid (num zs = ((zs.getD 0 0 * 256 + zs.getD 1 0) * 256 + zs.getD 2 0) * 256 + zs.getD 3 0) := Lib.hid rfl
  generalize zs.getD 0 0 = z0 at *
  generalize zs.getD 1 0 = z1 at *
  generalize zs.getD 2 0 = z2 at *
  generalize zs.getD 3 0 = z3 at *
  have HST := Lib.hid hst
  have HG := Lib.hid hg
  have HO0 := Lib.hid (show bits .or .i64 0 z0 = z0 from by have := or_i64 0 z0 (by omega) (by omega) l0 m0; simpa using this)
  have HO1 := Lib.hid (or_i64 z0 z1 (by omega) (by omega) l1 m1)
  have HO2 := Lib.hid (or_i64 (z0 * 256 + z1) z2 (by omega) (by omega) l2 m2)
  have HO3 := Lib.hid (or_i64 ((z0 * 256 + z1) * 256 + z2) z3 (by omega) (by omega) l3 m3)
  clear hs hne hst hg HT cell h0
  simp only [Nat.add_zero] at q0
  go_wp2
  go_loop [3, 9] (fun x i => (i = .int .i64 0 ∧ x = .int .i64 0) ∨ (i = .int .i64 1 ∧ x = .int .i64 z0) ∨ (i = .int .i64 2 ∧ x = .int .i64 (z0 * 256 + z1)) ∨ (i = .int .i64 3 ∧ x = .int .i64 ((z0 * 256 + z1) * 256 + z2)) ∨ (i = .int .i64 4 ∧ x = .int .i64 (((z0 * 256 + z1) * 256 + z2) * 256 + z3))) (fun _ i => 4 - (intOf i).toNat)
  case atStart => exact .inl ⟨rfl, rfl⟩
  case round =>
    rcases hrel with ⟨rfl, rfl⟩ | ⟨rfl, rfl⟩ | ⟨rfl, rfl⟩ | ⟨rfl, rfl⟩ | ⟨rfl, rfl⟩
    · go_wp2
      go_round
      case rel => exact .inr (.inl ⟨rfl, by rw [HO0.out]⟩)
      case measure => simp [intOf]
    · go_wp2
      go_round
      case rel => exact .inr (.inr (.inl ⟨rfl, by rw [HO1.out]⟩))
      case measure => simp [intOf]
    · go_wp2
      go_round
      case rel => exact .inr (.inr (.inr (.inl ⟨rfl, by rw [HO2.out]⟩)))
      case measure => simp [intOf]
    · go_wp2
      go_round
      case rel => exact .inr (.inr (.inr (.inr ⟨rfl, by rw [HO3.out]⟩)))
      case measure => simp [intOf]
    · go_wp2
      go_ret
      exact ⟨ret_int HX.out.symm, HST.out, HG.out⟩
end Go.Proofs.Ytkelgaanehihbaa.Dt
