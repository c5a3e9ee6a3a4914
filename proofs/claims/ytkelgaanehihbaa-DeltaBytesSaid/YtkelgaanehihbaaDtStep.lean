/- One step of a delta, walked. -/
import Derived.Test.YtkelgaanehihbaaDtTake
namespace Go.Proofs.Ytkelgaanehihbaa.Dt
open Go.RowKit
set_option linter.unusedVariables false

/-- one step: why it may not be, or its bytes and what is left -/
def step (base zs : List Int) : Except Int (List Int × List Int) :=
  if zs.getD 0 0 = 1 then
    if zs.length < 9 then .error 14
    else if (base.length : Int) < num (zs.drop 1) ∨ (base.length : Int) - num (zs.drop 1) < num (zs.drop 5) then .error 16
    else if num (zs.drop 5) = 0 then .error 16
    else .ok ((base.drop (num (zs.drop 1)).toNat).take (num (zs.drop 5)).toNat, zs.drop 9)
  else if zs.getD 0 0 = 2 then
    if zs.length < 5 then .error 14
    else if ((zs.length - 5 : Nat) : Int) < num (zs.drop 1) then .error 14
    else if num (zs.drop 1) = 0 then .error 16
    else .ok ((zs.drop 5).take (num (zs.drop 1)).toNat, zs.drop (5 + (num (zs.drop 1)).toNat))
  else .error 16

def StepErr (R : Nat) (er : Int) (w : World) (e : Ending) (w' : World) : Prop :=
  e = .returned (.tuple #[.slice none 0 0, .int .i64 er]) ∧ w.grownBy w' (some R)

def StepOk (R : Nat) (p rest : List Int) (w : World) (e : Ending) (w' : World) : Prop :=
  ∃ a len cap, e = .returned (.tuple #[.slice a len cap, .int .i64 0]) ∧ Sl w' a len cap p ∧ (∀ b off, a = some ⟨b, off, none⟩ → 0 < len → b < R) ∧ StE w' R rest false ∧ w.grownBy w' (some R)

def StepRet (R : Nat) (r : Except Int (List Int × List Int)) (w : World) (e : Ending) (w' : World) : Prop :=
  match r with
  | .error er => StepErr R er w e w'
  | .ok (p, rest) => StepOk R p rest w e w'

theorem num_bd (z : List Int) (h : ∀ i, i < z.length → 0 ≤ z.getD i 0 ∧ z.getD i 0 ≤ 255) : 0 ≤ num z ∧ num z ≤ 4294967295 := by
  have g : ∀ i, 0 ≤ z.getD i 0 ∧ z.getD i 0 ≤ 255 := by
    intro i
    rcases Nat.lt_or_ge i z.length with hi | hi
    · exact h i hi
    · have : z.getD i 0 = 0 := by simp [List.getD, hi]
      omega
  have := g 0; have := g 1; have := g 2; have := g 3
  unfold num
  omega

theorem drop_bd {z : List Int} (h : ∀ i, i < z.length → 0 ≤ z.getD i 0 ∧ z.getD i 0 ≤ 255) (k : Nat) : ∀ i, i < (z.drop k).length → 0 ≤ (z.drop k).getD i 0 ∧ (z.drop k).getD i 0 ≤ 255 := by
  intro i hi
  have := h (k + i) (by simp at hi; omega)
  simpa [List.getD] using this

set_option maxHeartbeats 1000000 in
theorem step_1 (R : Nat) (ab : Option Addr) (lb cb : Nat) (base : List Int) (zs : List Int) (w : World) (hs : StE w R zs false) (hb : Sl w ab lb cb base) (hbn : ∀ b off, ab = some ⟨b, off, none⟩ → 0 < lb → b < R) (hp : 0 < zs.length) (h1 : zs.getD 0 0 = 1) (h2 : zs.length < 5) :
    Calls Try.prog 14 #[.pointer (some ⟨R, 0, none⟩), .slice ab lb cb] w (StepRet R (step base zs) w) := by
  have HR : Hid (step base zs = .error 14) := Lib.hid (by unfold step; rw [if_pos h1, if_pos (by omega)])
  rw [HR.out]
  show Calls _ _ _ _ (StepErr R 14 w)
  obtain ⟨a, len, cap, h⟩ := hs
  have hl := h.sl.hlen
  have hbd := h.sl.hbyte
  rw [← hl] at hbd
  have hn1 := num_bd _ (drop_bd hbd 1)
  have hn5 := num_bd _ (drop_bd hbd 5)
  have hbl := hb.hlen
  have hbc := hb.hcap
  have hbr := hb.hreach
  have HB := Lib.hid hb
  have HBN := Lib.hid hbn
  have HT := Lib.hid (take_ok R a len cap zs false 1 w h (by omega) (by omega))
  clear h hb hbn hbd
  rw [hl] at hp
  generalize hN1 : num (zs.drop 1) = n1 at *
  generalize hN5 : num (zs.drop 5) = n5 at *
  have HN1 := Lib.hid hN1
  have HN5 := Lib.hid hN5
  clear hN1 hN5
  go_enter Try.func14, Try.ntmps14
  go_wp2_with fail
  refine HT.out.mono ?_
  rintro e w1 ⟨a1, l1, c1, rfl, hs, hne, hst, hg⟩
  obtain rfl : l1 = 1 := by rw [← hs.hlen]; simp; omega
  obtain ⟨b0, o0, rfl, q0⟩ := hs.hcell 0 (by omega)
  have e0 : (zs.take (1 : Int).toNat).getD 0 0 = zs.getD 0 0 := by simp [List.getD]
  rw [e0] at q0
  generalize zs.getD 0 0 = z0 at *
  have HST1 := Lib.hid hst
  have HG1 := Lib.hid hg
  have t1 : (1 : Int).toNat = 1 := rfl
  rw [t1] at HST1
  clear hs hne hst hg HT e0 t1
  simp only [Nat.add_zero] at q0
  have hq1 : (z0 == 1) = true := by simp [h1]
  have HZ := Lib.hid h1
  clear h1
  go_wp2_with fail
  refine (number_cut R _ _ _ HST1.out (by simp only [List.length_drop]; omega)).mono ?_
  rintro e w2 ⟨rfl, hst, hg⟩
  have HST2 := Lib.hid hst
  have HG2 := Lib.hid (grown_trans HG1.out hg)
  clear hst hg
  go_wp2_with fail
  refine (number_cut R _ _ _ HST2.out (by simp only [List.length_drop]; omega)).mono ?_
  rintro e w3 ⟨rfl, hst, hg⟩
  have HST3 := Lib.hid hst
  have HG3 := Lib.hid (grown_trans HG2.out hg)
  clear hst hg
  obtain ⟨ak, lk, ck, hk⟩ := HST3.out
  have hcut := hk.c1
  clear hk
  go_wp2
  go_ret2
  exact ⟨rfl, HG3.out⟩

set_option maxHeartbeats 1000000 in
theorem step_2 (R : Nat) (ab : Option Addr) (lb cb : Nat) (base : List Int) (zs : List Int) (w : World) (hs : StE w R zs false) (hb : Sl w ab lb cb base) (hbn : ∀ b off, ab = some ⟨b, off, none⟩ → 0 < lb → b < R) (hp : 0 < zs.length) (h1 : zs.getD 0 0 = 1) (h2 : 5 ≤ zs.length) (h3 : zs.length < 9) :
    Calls Try.prog 14 #[.pointer (some ⟨R, 0, none⟩), .slice ab lb cb] w (StepRet R (step base zs) w) := by
  have HR : Hid (step base zs = .error 14) := Lib.hid (by unfold step; rw [if_pos h1, if_pos (by omega)])
  rw [HR.out]
  show Calls _ _ _ _ (StepErr R 14 w)
  obtain ⟨a, len, cap, h⟩ := hs
  have hl := h.sl.hlen
  have hbd := h.sl.hbyte
  rw [← hl] at hbd
  have hn1 := num_bd _ (drop_bd hbd 1)
  have hn5 := num_bd _ (drop_bd hbd 5)
  have hbl := hb.hlen
  have hbc := hb.hcap
  have hbr := hb.hreach
  have HB := Lib.hid hb
  have HBN := Lib.hid hbn
  have HT := Lib.hid (take_ok R a len cap zs false 1 w h (by omega) (by omega))
  clear h hb hbn hbd
  rw [hl] at hp
  generalize hN1 : num (zs.drop 1) = n1 at *
  generalize hN5 : num (zs.drop 5) = n5 at *
  have HN1 := Lib.hid hN1
  have HN5 := Lib.hid hN5
  clear hN1 hN5
  go_enter Try.func14, Try.ntmps14
  go_wp2_with fail
  refine HT.out.mono ?_
  rintro e w1 ⟨a1, l1, c1, rfl, hs, hne, hst, hg⟩
  obtain rfl : l1 = 1 := by rw [← hs.hlen]; simp; omega
  obtain ⟨b0, o0, rfl, q0⟩ := hs.hcell 0 (by omega)
  have e0 : (zs.take (1 : Int).toNat).getD 0 0 = zs.getD 0 0 := by simp [List.getD]
  rw [e0] at q0
  generalize zs.getD 0 0 = z0 at *
  have HST1 := Lib.hid hst
  have HG1 := Lib.hid hg
  have t1 : (1 : Int).toNat = 1 := rfl
  rw [t1] at HST1
  clear hs hne hst hg HT e0 t1
  simp only [Nat.add_zero] at q0
  have hq1 : (z0 == 1) = true := by simp [h1]
  have HZ := Lib.hid h1
  clear h1
  go_wp2_with fail
  refine (number_ok R _ _ _ HST1.out (by simp only [List.length_drop]; omega)).mono ?_
  rintro e w2 ⟨rfl, hst, hg⟩
  have HST2 := Lib.hid hst
  have HG2 := Lib.hid (grown_trans HG1.out hg)
  clear hst hg
  rw [HN1.out]
  go_wp2_with fail
  refine (number_cut R _ _ _ HST2.out (by simp only [List.length_drop]; omega)).mono ?_
  rintro e w3 ⟨rfl, hst, hg⟩
  have HST3 := Lib.hid hst
  have HG3 := Lib.hid (grown_trans HG2.out hg)
  clear hst hg
  obtain ⟨ak, lk, ck, hk⟩ := HST3.out
  have hcut := hk.c1
  clear hk
  go_wp2
  go_ret2
  exact ⟨rfl, HG3.out⟩

set_option maxHeartbeats 1000000 in
theorem step_3 (R : Nat) (ab : Option Addr) (lb cb : Nat) (base : List Int) (zs : List Int) (w : World) (hs : StE w R zs false) (hb : Sl w ab lb cb base) (hbn : ∀ b off, ab = some ⟨b, off, none⟩ → 0 < lb → b < R) (hp : 0 < zs.length) (h1 : zs.getD 0 0 = 1) (h2 : 9 ≤ zs.length) (h3 : (base.length : Int) < num (zs.drop 1)) :
    Calls Try.prog 14 #[.pointer (some ⟨R, 0, none⟩), .slice ab lb cb] w (StepRet R (step base zs) w) := by
  have HR : Hid (step base zs = .error 16) := Lib.hid (by unfold step; rw [if_pos h1, if_neg (by omega), if_pos (Or.inl h3)])
  rw [HR.out]
  show Calls _ _ _ _ (StepErr R 16 w)
  obtain ⟨a, len, cap, h⟩ := hs
  have hl := h.sl.hlen
  have hbd := h.sl.hbyte
  rw [← hl] at hbd
  have hn1 := num_bd _ (drop_bd hbd 1)
  have hn5 := num_bd _ (drop_bd hbd 5)
  have hbl := hb.hlen
  have hbc := hb.hcap
  have hbr := hb.hreach
  have HB := Lib.hid hb
  have HBN := Lib.hid hbn
  have HT := Lib.hid (take_ok R a len cap zs false 1 w h (by omega) (by omega))
  clear h hb hbn hbd
  rw [hl] at hp
  generalize hN1 : num (zs.drop 1) = n1 at *
  generalize hN5 : num (zs.drop 5) = n5 at *
  have HN1 := Lib.hid hN1
  have HN5 := Lib.hid hN5
  clear hN1 hN5
  go_enter Try.func14, Try.ntmps14
  go_wp2_with fail
  refine HT.out.mono ?_
  rintro e w1 ⟨a1, l1, c1, rfl, hs, hne, hst, hg⟩
  obtain rfl : l1 = 1 := by rw [← hs.hlen]; simp; omega
  obtain ⟨b0, o0, rfl, q0⟩ := hs.hcell 0 (by omega)
  have e0 : (zs.take (1 : Int).toNat).getD 0 0 = zs.getD 0 0 := by simp [List.getD]
  rw [e0] at q0
  generalize zs.getD 0 0 = z0 at *
  have HST1 := Lib.hid hst
  have HG1 := Lib.hid hg
  have t1 : (1 : Int).toNat = 1 := rfl
  rw [t1] at HST1
  clear hs hne hst hg HT e0 t1
  simp only [Nat.add_zero] at q0
  have hq1 : (z0 == 1) = true := by simp [h1]
  have HZ := Lib.hid h1
  clear h1
  go_wp2_with fail
  refine (number_ok R _ _ _ HST1.out (by simp only [List.length_drop]; omega)).mono ?_
  rintro e w2 ⟨rfl, hst, hg⟩
  have HST2 := Lib.hid hst
  have HG2 := Lib.hid (grown_trans HG1.out hg)
  clear hst hg
  rw [HN1.out]
  go_wp2_with fail
  refine (number_ok R _ _ _ HST2.out (by simp only [List.length_drop]; omega)).mono ?_
  rintro e w3 ⟨rfl, hst, hg⟩
  have HST3 := Lib.hid hst
  have HG3 := Lib.hid (grown_trans HG2.out hg)
  clear hst hg
  rw [show List.drop 4 (List.drop 4 (List.drop 1 zs)) = zs.drop 9 from by rw [List.drop_drop, List.drop_drop]] at HST3
  have e5 : List.drop 4 (List.drop 1 zs) = zs.drop 5 := by rw [List.drop_drop]
  rw [e5, HN5.out]
  clear e5
  obtain ⟨ak, lk, ck, hk⟩ := HST3.out
  have hcut := hk.c1
  clear hk
  rw [hbl] at h3
  go_wp2
  go_ret2
  exact ⟨rfl, HG3.out⟩

set_option maxHeartbeats 1000000 in
theorem step_4 (R : Nat) (ab : Option Addr) (lb cb : Nat) (base : List Int) (zs : List Int) (w : World) (hs : StE w R zs false) (hb : Sl w ab lb cb base) (hbn : ∀ b off, ab = some ⟨b, off, none⟩ → 0 < lb → b < R) (hp : 0 < zs.length) (h1 : zs.getD 0 0 = 1) (h2 : 9 ≤ zs.length) (h3 : ¬ (base.length : Int) < num (zs.drop 1)) (h4 : (base.length : Int) - num (zs.drop 1) < num (zs.drop 5)) :
    Calls Try.prog 14 #[.pointer (some ⟨R, 0, none⟩), .slice ab lb cb] w (StepRet R (step base zs) w) := by
  have HR : Hid (step base zs = .error 16) := Lib.hid (by unfold step; rw [if_pos h1, if_neg (by omega), if_pos (Or.inr h4)])
  rw [HR.out]
  show Calls _ _ _ _ (StepErr R 16 w)
  obtain ⟨a, len, cap, h⟩ := hs
  have hl := h.sl.hlen
  have hbd := h.sl.hbyte
  rw [← hl] at hbd
  have hn1 := num_bd _ (drop_bd hbd 1)
  have hn5 := num_bd _ (drop_bd hbd 5)
  have hbl := hb.hlen
  have hbc := hb.hcap
  have hbr := hb.hreach
  have HB := Lib.hid hb
  have HBN := Lib.hid hbn
  have HT := Lib.hid (take_ok R a len cap zs false 1 w h (by omega) (by omega))
  clear h hb hbn hbd
  rw [hl] at hp
  generalize hN1 : num (zs.drop 1) = n1 at *
  generalize hN5 : num (zs.drop 5) = n5 at *
  have HN1 := Lib.hid hN1
  have HN5 := Lib.hid hN5
  clear hN1 hN5
  go_enter Try.func14, Try.ntmps14
  go_wp2_with fail
  refine HT.out.mono ?_
  rintro e w1 ⟨a1, l1, c1, rfl, hs, hne, hst, hg⟩
  obtain rfl : l1 = 1 := by rw [← hs.hlen]; simp; omega
  obtain ⟨b0, o0, rfl, q0⟩ := hs.hcell 0 (by omega)
  have e0 : (zs.take (1 : Int).toNat).getD 0 0 = zs.getD 0 0 := by simp [List.getD]
  rw [e0] at q0
  generalize zs.getD 0 0 = z0 at *
  have HST1 := Lib.hid hst
  have HG1 := Lib.hid hg
  have t1 : (1 : Int).toNat = 1 := rfl
  rw [t1] at HST1
  clear hs hne hst hg HT e0 t1
  simp only [Nat.add_zero] at q0
  have hq1 : (z0 == 1) = true := by simp [h1]
  have HZ := Lib.hid h1
  clear h1
  go_wp2_with fail
  refine (number_ok R _ _ _ HST1.out (by simp only [List.length_drop]; omega)).mono ?_
  rintro e w2 ⟨rfl, hst, hg⟩
  have HST2 := Lib.hid hst
  have HG2 := Lib.hid (grown_trans HG1.out hg)
  clear hst hg
  rw [HN1.out]
  go_wp2_with fail
  refine (number_ok R _ _ _ HST2.out (by simp only [List.length_drop]; omega)).mono ?_
  rintro e w3 ⟨rfl, hst, hg⟩
  have HST3 := Lib.hid hst
  have HG3 := Lib.hid (grown_trans HG2.out hg)
  clear hst hg
  rw [show List.drop 4 (List.drop 4 (List.drop 1 zs)) = zs.drop 9 from by rw [List.drop_drop, List.drop_drop]] at HST3
  have e5 : List.drop 4 (List.drop 1 zs) = zs.drop 5 := by rw [List.drop_drop]
  rw [e5, HN5.out]
  clear e5
  obtain ⟨ak, lk, ck, hk⟩ := HST3.out
  have hcut := hk.c1
  clear hk
  rw [hbl] at h3 h4
  go_wp2
  go_ret2
  exact ⟨rfl, HG3.out⟩

set_option maxHeartbeats 1000000 in
theorem step_5 (R : Nat) (ab : Option Addr) (lb cb : Nat) (base : List Int) (zs : List Int) (w : World) (hs : StE w R zs false) (hb : Sl w ab lb cb base) (hbn : ∀ b off, ab = some ⟨b, off, none⟩ → 0 < lb → b < R) (hp : 0 < zs.length) (h1 : zs.getD 0 0 = 1) (h2 : 9 ≤ zs.length) (h3 : ¬ (base.length : Int) < num (zs.drop 1)) (h4 : ¬ (base.length : Int) - num (zs.drop 1) < num (zs.drop 5)) (h5 : num (zs.drop 5) = 0) :
    Calls Try.prog 14 #[.pointer (some ⟨R, 0, none⟩), .slice ab lb cb] w (StepRet R (step base zs) w) := by
  have HR : Hid (step base zs = .error 16) := Lib.hid (by unfold step; rw [if_pos h1, if_neg (by omega), if_neg (by omega), if_pos h5])
  rw [HR.out]
  show Calls _ _ _ _ (StepErr R 16 w)
  obtain ⟨a, len, cap, h⟩ := hs
  have hl := h.sl.hlen
  have hbd := h.sl.hbyte
  rw [← hl] at hbd
  have hn1 := num_bd _ (drop_bd hbd 1)
  have hn5 := num_bd _ (drop_bd hbd 5)
  have hbl := hb.hlen
  have hbc := hb.hcap
  have hbr := hb.hreach
  have HB := Lib.hid hb
  have HBN := Lib.hid hbn
  have HT := Lib.hid (take_ok R a len cap zs false 1 w h (by omega) (by omega))
  clear h hb hbn hbd
  rw [hl] at hp
  generalize hN1 : num (zs.drop 1) = n1 at *
  generalize hN5 : num (zs.drop 5) = n5 at *
  have HN1 := Lib.hid hN1
  have HN5 := Lib.hid hN5
  clear hN1 hN5
  go_enter Try.func14, Try.ntmps14
  go_wp2_with fail
  refine HT.out.mono ?_
  rintro e w1 ⟨a1, l1, c1, rfl, hs, hne, hst, hg⟩
  obtain rfl : l1 = 1 := by rw [← hs.hlen]; simp; omega
  obtain ⟨b0, o0, rfl, q0⟩ := hs.hcell 0 (by omega)
  have e0 : (zs.take (1 : Int).toNat).getD 0 0 = zs.getD 0 0 := by simp [List.getD]
  rw [e0] at q0
  generalize zs.getD 0 0 = z0 at *
  have HST1 := Lib.hid hst
  have HG1 := Lib.hid hg
  have t1 : (1 : Int).toNat = 1 := rfl
  rw [t1] at HST1
  clear hs hne hst hg HT e0 t1
  simp only [Nat.add_zero] at q0
  have hq1 : (z0 == 1) = true := by simp [h1]
  have HZ := Lib.hid h1
  clear h1
  go_wp2_with fail
  refine (number_ok R _ _ _ HST1.out (by simp only [List.length_drop]; omega)).mono ?_
  rintro e w2 ⟨rfl, hst, hg⟩
  have HST2 := Lib.hid hst
  have HG2 := Lib.hid (grown_trans HG1.out hg)
  clear hst hg
  rw [HN1.out]
  go_wp2_with fail
  refine (number_ok R _ _ _ HST2.out (by simp only [List.length_drop]; omega)).mono ?_
  rintro e w3 ⟨rfl, hst, hg⟩
  have HST3 := Lib.hid hst
  have HG3 := Lib.hid (grown_trans HG2.out hg)
  clear hst hg
  rw [show List.drop 4 (List.drop 4 (List.drop 1 zs)) = zs.drop 9 from by rw [List.drop_drop, List.drop_drop]] at HST3
  have e5 : List.drop 4 (List.drop 1 zs) = zs.drop 5 := by rw [List.drop_drop]
  rw [e5, HN5.out]
  clear e5
  obtain ⟨ak, lk, ck, hk⟩ := HST3.out
  have hcut := hk.c1
  clear hk
  subst h5
  rw [hbl] at h3 h4
  obtain ⟨k1, rfl⟩ := Int.eq_ofNat_of_zero_le hn1.1
  have hk1 : k1 ≤ lb := by omega
  go_wp2
  go_ret2
  exact ⟨rfl, HG3.out⟩

set_option maxHeartbeats 1000000 in
theorem step_6 (R : Nat) (ab : Option Addr) (lb cb : Nat) (base : List Int) (zs : List Int) (w : World) (hs : StE w R zs false) (hb : Sl w ab lb cb base) (hbn : ∀ b off, ab = some ⟨b, off, none⟩ → 0 < lb → b < R) (hp : 0 < zs.length) (h1 : zs.getD 0 0 = 1) (h2 : 9 ≤ zs.length) (h3 : ¬ (base.length : Int) < num (zs.drop 1)) (h4 : ¬ (base.length : Int) - num (zs.drop 1) < num (zs.drop 5)) (h5 : ¬ num (zs.drop 5) = 0) :
    Calls Try.prog 14 #[.pointer (some ⟨R, 0, none⟩), .slice ab lb cb] w (StepRet R (step base zs) w) := by
  have HR : Hid (step base zs = .ok ((base.drop (num (zs.drop 1)).toNat).take (num (zs.drop 5)).toNat, zs.drop 9)) := Lib.hid (by unfold step; rw [if_pos h1, if_neg (by omega), if_neg (by omega), if_neg h5])
  rw [HR.out]
  show Calls _ _ _ _ (StepOk R ((base.drop (num (zs.drop 1)).toNat).take (num (zs.drop 5)).toNat) (zs.drop 9) w)
  obtain ⟨a, len, cap, h⟩ := hs
  have hl := h.sl.hlen
  have hbd := h.sl.hbyte
  rw [← hl] at hbd
  have hn1 := num_bd _ (drop_bd hbd 1)
  have hn5 := num_bd _ (drop_bd hbd 5)
  have hbl := hb.hlen
  have hbc := hb.hcap
  have hbr := hb.hreach
  have HB := Lib.hid hb
  have HBN := Lib.hid hbn
  have HT := Lib.hid (take_ok R a len cap zs false 1 w h (by omega) (by omega))
  clear h hb hbn hbd
  rw [hl] at hp
  generalize hN1 : num (zs.drop 1) = n1 at *
  generalize hN5 : num (zs.drop 5) = n5 at *
  have HN1 := Lib.hid hN1
  have HN5 := Lib.hid hN5
  clear hN1 hN5
  go_enter Try.func14, Try.ntmps14
  go_wp2_with fail
  refine HT.out.mono ?_
  rintro e w1 ⟨a1, l1, c1, rfl, hs, hne, hst, hg⟩
  obtain rfl : l1 = 1 := by rw [← hs.hlen]; simp; omega
  obtain ⟨b0, o0, rfl, q0⟩ := hs.hcell 0 (by omega)
  have e0 : (zs.take (1 : Int).toNat).getD 0 0 = zs.getD 0 0 := by simp [List.getD]
  rw [e0] at q0
  generalize zs.getD 0 0 = z0 at *
  have HST1 := Lib.hid hst
  have HG1 := Lib.hid hg
  have t1 : (1 : Int).toNat = 1 := rfl
  rw [t1] at HST1
  clear hs hne hst hg HT e0 t1
  simp only [Nat.add_zero] at q0
  have hq1 : (z0 == 1) = true := by simp [h1]
  have HZ := Lib.hid h1
  clear h1
  go_wp2_with fail
  refine (number_ok R _ _ _ HST1.out (by simp only [List.length_drop]; omega)).mono ?_
  rintro e w2 ⟨rfl, hst, hg⟩
  have HST2 := Lib.hid hst
  have HG2 := Lib.hid (grown_trans HG1.out hg)
  clear hst hg
  rw [HN1.out]
  go_wp2_with fail
  refine (number_ok R _ _ _ HST2.out (by simp only [List.length_drop]; omega)).mono ?_
  rintro e w3 ⟨rfl, hst, hg⟩
  have HST3 := Lib.hid hst
  have HG3 := Lib.hid (grown_trans HG2.out hg)
  clear hst hg
  rw [show List.drop 4 (List.drop 4 (List.drop 1 zs)) = zs.drop 9 from by rw [List.drop_drop, List.drop_drop]] at HST3
  have e5 : List.drop 4 (List.drop 1 zs) = zs.drop 5 := by rw [List.drop_drop]
  rw [e5, HN5.out]
  clear e5
  obtain ⟨ak, lk, ck, hk⟩ := HST3.out
  have hcut := hk.c1
  clear hk
  rw [hbl] at h3 h4
  obtain ⟨k1, rfl⟩ := Int.eq_ofNat_of_zero_le hn1.1
  obtain ⟨k5, rfl⟩ := Int.eq_ofNat_of_zero_le hn5.1
  have g1 : k1 ≤ lb := by omega
  have g5 : k5 ≤ lb - k1 := by omega
  have g6 : 0 < k5 := by omega
  have HD := Lib.hid ((HB.out.drop k1 g1).take k5 g5)
  have hcap : ¬ cb = k1 := by omega
  rw [if_neg hcap] at HD
  go_wp2
  go_ret2
  have hne : ∀ b off, Option.map (fun x => Addr.add x k1) ab = some ⟨b, off, none⟩ → 0 < k5 → b < R := by
    have := drop_ne (k := k1) HBN.out (fun i hi => by obtain ⟨b, off, he, _⟩ := HB.out.hcell i hi; exact ⟨b, off, he⟩) hbc
    rw [if_neg hcap] at this
    exact fun b off he hl => this b off he (by omega)
  have hx := HD.out.grown HG3.out hne
  rw [show k1 + k5 - k1 = k5 from by omega]
  exact ⟨_, _, _, rfl, ⟨hx.hlen, Nat.le_refl _, by omega, fun hn => by have := hx.hnone hn; omega, hx.hcell, hx.hbyte, hx.hbig⟩, hne, HST3.out, HG3.out⟩

set_option maxHeartbeats 1000000 in
theorem step_7 (R : Nat) (ab : Option Addr) (lb cb : Nat) (base : List Int) (zs : List Int) (w : World) (hs : StE w R zs false) (hb : Sl w ab lb cb base) (hbn : ∀ b off, ab = some ⟨b, off, none⟩ → 0 < lb → b < R) (hp : 0 < zs.length) (h1 : zs.getD 0 0 = 2) (h2 : zs.length < 5) :
    Calls Try.prog 14 #[.pointer (some ⟨R, 0, none⟩), .slice ab lb cb] w (StepRet R (step base zs) w) := by
  have HR : Hid (step base zs = .error 14) := Lib.hid (by unfold step; rw [if_neg (by rw [h1]; decide), if_pos h1, if_pos h2])
  rw [HR.out]
  show Calls _ _ _ _ (StepErr R 14 w)
  obtain ⟨a, len, cap, h⟩ := hs
  have hl := h.sl.hlen
  have hbd := h.sl.hbyte
  rw [← hl] at hbd
  have hn1 := num_bd _ (drop_bd hbd 1)
  have hn5 := num_bd _ (drop_bd hbd 5)
  have hbl := hb.hlen
  have hbc := hb.hcap
  have hbr := hb.hreach
  have HB := Lib.hid hb
  have HBN := Lib.hid hbn
  have HT := Lib.hid (take_ok R a len cap zs false 1 w h (by omega) (by omega))
  clear h hb hbn hbd
  rw [hl] at hp
  generalize hN1 : num (zs.drop 1) = n1 at *
  generalize hN5 : num (zs.drop 5) = n5 at *
  have HN1 := Lib.hid hN1
  have HN5 := Lib.hid hN5
  clear hN1 hN5
  go_enter Try.func14, Try.ntmps14
  go_wp2_with fail
  refine HT.out.mono ?_
  rintro e w1 ⟨a1, l1, c1, rfl, hs, hne, hst, hg⟩
  obtain rfl : l1 = 1 := by rw [← hs.hlen]; simp; omega
  obtain ⟨b0, o0, rfl, q0⟩ := hs.hcell 0 (by omega)
  have e0 : (zs.take (1 : Int).toNat).getD 0 0 = zs.getD 0 0 := by simp [List.getD]
  rw [e0] at q0
  generalize zs.getD 0 0 = z0 at *
  have HST1 := Lib.hid hst
  have HG1 := Lib.hid hg
  have t1 : (1 : Int).toNat = 1 := rfl
  rw [t1] at HST1
  clear hs hne hst hg HT e0 t1
  simp only [Nat.add_zero] at q0
  have hq1 : (z0 == 1) = false := by simp [h1]
  have hq2 : (z0 == 2) = true := by simp [h1]
  have HZ := Lib.hid h1
  clear h1
  go_wp2_with fail
  refine (number_cut R _ _ _ HST1.out (by simp only [List.length_drop]; omega)).mono ?_
  rintro e w2 ⟨rfl, hst, hg⟩
  have HST2 := Lib.hid hst
  have HG2 := Lib.hid (grown_trans HG1.out hg)
  clear hst hg
  obtain ⟨ax, lx, cx, hx⟩ := HST2.out
  go_wp2_with fail
  refine (take_ok R _ _ _ _ _ _ _ hx (by omega) (by omega)).mono ?_
  rintro e w3 ⟨a3, l3, c3, rfl, hs, hne, hst, hg⟩
  obtain rfl : l3 = 0 := by rw [← hs.hlen]; rfl
  have HST3 := Lib.hid hst
  have HG3 := Lib.hid (grown_trans HG2.out hg)
  clear hst hg hs hne hx
  obtain ⟨ak, lk, ck, hk⟩ := HST3.out
  have hcut := hk.c1
  clear hk
  go_wp2
  go_ret2
  exact ⟨rfl, HG3.out⟩

set_option maxHeartbeats 1000000 in
theorem step_8 (R : Nat) (ab : Option Addr) (lb cb : Nat) (base : List Int) (zs : List Int) (w : World) (hs : StE w R zs false) (hb : Sl w ab lb cb base) (hbn : ∀ b off, ab = some ⟨b, off, none⟩ → 0 < lb → b < R) (hp : 0 < zs.length) (h1 : zs.getD 0 0 = 2) (h2 : 5 ≤ zs.length) (h3 : ((zs.length - 5 : Nat) : Int) < num (zs.drop 1)) :
    Calls Try.prog 14 #[.pointer (some ⟨R, 0, none⟩), .slice ab lb cb] w (StepRet R (step base zs) w) := by
  have HR : Hid (step base zs = .error 14) := Lib.hid (by unfold step; rw [if_neg (by rw [h1]; decide), if_pos h1, if_neg (by omega), if_pos h3])
  rw [HR.out]
  show Calls _ _ _ _ (StepErr R 14 w)
  obtain ⟨a, len, cap, h⟩ := hs
  have hl := h.sl.hlen
  have hbd := h.sl.hbyte
  rw [← hl] at hbd
  have hn1 := num_bd _ (drop_bd hbd 1)
  have hn5 := num_bd _ (drop_bd hbd 5)
  have hbl := hb.hlen
  have hbc := hb.hcap
  have hbr := hb.hreach
  have HB := Lib.hid hb
  have HBN := Lib.hid hbn
  have HT := Lib.hid (take_ok R a len cap zs false 1 w h (by omega) (by omega))
  clear h hb hbn hbd
  rw [hl] at hp
  generalize hN1 : num (zs.drop 1) = n1 at *
  generalize hN5 : num (zs.drop 5) = n5 at *
  have HN1 := Lib.hid hN1
  have HN5 := Lib.hid hN5
  clear hN1 hN5
  go_enter Try.func14, Try.ntmps14
  go_wp2_with fail
  refine HT.out.mono ?_
  rintro e w1 ⟨a1, l1, c1, rfl, hs, hne, hst, hg⟩
  obtain rfl : l1 = 1 := by rw [← hs.hlen]; simp; omega
  obtain ⟨b0, o0, rfl, q0⟩ := hs.hcell 0 (by omega)
  have e0 : (zs.take (1 : Int).toNat).getD 0 0 = zs.getD 0 0 := by simp [List.getD]
  rw [e0] at q0
  generalize zs.getD 0 0 = z0 at *
  have HST1 := Lib.hid hst
  have HG1 := Lib.hid hg
  have t1 : (1 : Int).toNat = 1 := rfl
  rw [t1] at HST1
  clear hs hne hst hg HT e0 t1
  simp only [Nat.add_zero] at q0
  have hq1 : (z0 == 1) = false := by simp [h1]
  have hq2 : (z0 == 2) = true := by simp [h1]
  have HZ := Lib.hid h1
  clear h1
  go_wp2_with fail
  refine (number_ok R _ _ _ HST1.out (by simp only [List.length_drop]; omega)).mono ?_
  rintro e w2 ⟨rfl, hst, hg⟩
  have HST2 := Lib.hid hst
  have HG2 := Lib.hid (grown_trans HG1.out hg)
  clear hst hg
  rw [HN1.out]
  rw [show List.drop 4 (List.drop 1 zs) = zs.drop 5 from by rw [List.drop_drop]] at HST2
  obtain ⟨ax, lx, cx, hx⟩ := HST2.out
  have hlx := hx.sl.hlen
  rw [List.length_drop] at hlx
  go_wp2_with fail
  refine (take_cut R _ _ _ _ _ _ _ hx (by omega)).mono ?_
  rintro e w3 ⟨a3, l3, c3, rfl, hs, hne, hst, hg⟩
  obtain rfl : l3 = 0 := by rw [← hs.hlen]; rfl
  have HST3 := Lib.hid hst
  have HG3 := Lib.hid (grown_trans HG2.out hg)
  clear hst hg hs hne hx
  obtain ⟨ak, lk, ck, hk⟩ := HST3.out
  have hcut := hk.c1
  clear hk
  go_wp2
  go_ret2
  exact ⟨rfl, HG3.out⟩

set_option maxHeartbeats 1000000 in
theorem step_9 (R : Nat) (ab : Option Addr) (lb cb : Nat) (base : List Int) (zs : List Int) (w : World) (hs : StE w R zs false) (hb : Sl w ab lb cb base) (hbn : ∀ b off, ab = some ⟨b, off, none⟩ → 0 < lb → b < R) (hp : 0 < zs.length) (h1 : zs.getD 0 0 = 2) (h2 : 5 ≤ zs.length) (h3 : ¬ ((zs.length - 5 : Nat) : Int) < num (zs.drop 1)) (h4 : num (zs.drop 1) = 0) :
    Calls Try.prog 14 #[.pointer (some ⟨R, 0, none⟩), .slice ab lb cb] w (StepRet R (step base zs) w) := by
  have HR : Hid (step base zs = .error 16) := Lib.hid (by unfold step; rw [if_neg (by rw [h1]; decide), if_pos h1, if_neg (by omega), if_neg h3, if_pos h4])
  rw [HR.out]
  show Calls _ _ _ _ (StepErr R 16 w)
  obtain ⟨a, len, cap, h⟩ := hs
  have hl := h.sl.hlen
  have hbd := h.sl.hbyte
  rw [← hl] at hbd
  have hn1 := num_bd _ (drop_bd hbd 1)
  have hn5 := num_bd _ (drop_bd hbd 5)
  have hbl := hb.hlen
  have hbc := hb.hcap
  have hbr := hb.hreach
  have HB := Lib.hid hb
  have HBN := Lib.hid hbn
  have HT := Lib.hid (take_ok R a len cap zs false 1 w h (by omega) (by omega))
  clear h hb hbn hbd
  rw [hl] at hp
  generalize hN1 : num (zs.drop 1) = n1 at *
  generalize hN5 : num (zs.drop 5) = n5 at *
  have HN1 := Lib.hid hN1
  have HN5 := Lib.hid hN5
  clear hN1 hN5
  go_enter Try.func14, Try.ntmps14
  go_wp2_with fail
  refine HT.out.mono ?_
  rintro e w1 ⟨a1, l1, c1, rfl, hs, hne, hst, hg⟩
  obtain rfl : l1 = 1 := by rw [← hs.hlen]; simp; omega
  obtain ⟨b0, o0, rfl, q0⟩ := hs.hcell 0 (by omega)
  have e0 : (zs.take (1 : Int).toNat).getD 0 0 = zs.getD 0 0 := by simp [List.getD]
  rw [e0] at q0
  generalize zs.getD 0 0 = z0 at *
  have HST1 := Lib.hid hst
  have HG1 := Lib.hid hg
  have t1 : (1 : Int).toNat = 1 := rfl
  rw [t1] at HST1
  clear hs hne hst hg HT e0 t1
  simp only [Nat.add_zero] at q0
  have hq1 : (z0 == 1) = false := by simp [h1]
  have hq2 : (z0 == 2) = true := by simp [h1]
  have HZ := Lib.hid h1
  clear h1
  go_wp2_with fail
  refine (number_ok R _ _ _ HST1.out (by simp only [List.length_drop]; omega)).mono ?_
  rintro e w2 ⟨rfl, hst, hg⟩
  have HST2 := Lib.hid hst
  have HG2 := Lib.hid (grown_trans HG1.out hg)
  clear hst hg
  rw [HN1.out]
  rw [show List.drop 4 (List.drop 1 zs) = zs.drop 5 from by rw [List.drop_drop]] at HST2
  obtain ⟨ax, lx, cx, hx⟩ := HST2.out
  have hlx := hx.sl.hlen
  rw [List.length_drop] at hlx
  go_wp2_with fail
  subst h4
  refine (take_ok R _ _ _ _ _ _ _ hx (by omega) (by omega)).mono ?_
  rintro e w3 ⟨a3, l3, c3, rfl, hs, hne, hst, hg⟩
  obtain rfl : l3 = 0 := by rw [← hs.hlen]; rfl
  have HST3 := Lib.hid hst
  have HG3 := Lib.hid (grown_trans HG2.out hg)
  clear hst hg hs hne hx
  obtain ⟨ak, lk, ck, hk⟩ := HST3.out
  have hcut := hk.c1
  clear hk
  go_wp2
  go_ret2
  exact ⟨rfl, HG3.out⟩

set_option maxHeartbeats 1000000 in
theorem step_10 (R : Nat) (ab : Option Addr) (lb cb : Nat) (base : List Int) (zs : List Int) (w : World) (hs : StE w R zs false) (hb : Sl w ab lb cb base) (hbn : ∀ b off, ab = some ⟨b, off, none⟩ → 0 < lb → b < R) (hp : 0 < zs.length) (h1 : zs.getD 0 0 = 2) (h2 : 5 ≤ zs.length) (h3 : ¬ ((zs.length - 5 : Nat) : Int) < num (zs.drop 1)) (h4 : ¬ num (zs.drop 1) = 0) :
    Calls Try.prog 14 #[.pointer (some ⟨R, 0, none⟩), .slice ab lb cb] w (StepRet R (step base zs) w) := by
  have HR : Hid (step base zs = .ok ((zs.drop 5).take (num (zs.drop 1)).toNat, zs.drop (5 + (num (zs.drop 1)).toNat))) := Lib.hid (by unfold step; rw [if_neg (by rw [h1]; decide), if_pos h1, if_neg (by omega), if_neg h3, if_neg h4])
  rw [HR.out]
  show Calls _ _ _ _ (StepOk R ((zs.drop 5).take (num (zs.drop 1)).toNat) (zs.drop (5 + (num (zs.drop 1)).toNat)) w)
  obtain ⟨a, len, cap, h⟩ := hs
  have hl := h.sl.hlen
  have hbd := h.sl.hbyte
  rw [← hl] at hbd
  have hn1 := num_bd _ (drop_bd hbd 1)
  have hn5 := num_bd _ (drop_bd hbd 5)
  have hbl := hb.hlen
  have hbc := hb.hcap
  have hbr := hb.hreach
  have HB := Lib.hid hb
  have HBN := Lib.hid hbn
  have HT := Lib.hid (take_ok R a len cap zs false 1 w h (by omega) (by omega))
  clear h hb hbn hbd
  rw [hl] at hp
  generalize hN1 : num (zs.drop 1) = n1 at *
  generalize hN5 : num (zs.drop 5) = n5 at *
  have HN1 := Lib.hid hN1
  have HN5 := Lib.hid hN5
  clear hN1 hN5
  go_enter Try.func14, Try.ntmps14
  go_wp2_with fail
  refine HT.out.mono ?_
  rintro e w1 ⟨a1, l1, c1, rfl, hs, hne, hst, hg⟩
  obtain rfl : l1 = 1 := by rw [← hs.hlen]; simp; omega
  obtain ⟨b0, o0, rfl, q0⟩ := hs.hcell 0 (by omega)
  have e0 : (zs.take (1 : Int).toNat).getD 0 0 = zs.getD 0 0 := by simp [List.getD]
  rw [e0] at q0
  generalize zs.getD 0 0 = z0 at *
  have HST1 := Lib.hid hst
  have HG1 := Lib.hid hg
  have t1 : (1 : Int).toNat = 1 := rfl
  rw [t1] at HST1
  clear hs hne hst hg HT e0 t1
  simp only [Nat.add_zero] at q0
  have hq1 : (z0 == 1) = false := by simp [h1]
  have hq2 : (z0 == 2) = true := by simp [h1]
  have HZ := Lib.hid h1
  clear h1
  go_wp2_with fail
  refine (number_ok R _ _ _ HST1.out (by simp only [List.length_drop]; omega)).mono ?_
  rintro e w2 ⟨rfl, hst, hg⟩
  have HST2 := Lib.hid hst
  have HG2 := Lib.hid (grown_trans HG1.out hg)
  clear hst hg
  rw [HN1.out]
  rw [show List.drop 4 (List.drop 1 zs) = zs.drop 5 from by rw [List.drop_drop]] at HST2
  obtain ⟨ax, lx, cx, hx⟩ := HST2.out
  have hlx := hx.sl.hlen
  rw [List.length_drop] at hlx
  go_wp2_with fail
  obtain ⟨k1, rfl⟩ := Int.eq_ofNat_of_zero_le hn1.1
  refine (take_ok R _ _ _ _ _ _ _ hx (by omega) (by omega)).mono ?_
  rintro e w3 ⟨a3, l3, c3, rfl, hs, hne, hst, hg⟩
  rw [Int.toNat_natCast] at hs hst
  obtain rfl : l3 = k1 := by rw [← hs.hlen, List.length_take, List.length_drop]; omega
  rw [List.drop_drop] at hst
  have HST3 := Lib.hid hst
  have HG3 := Lib.hid (grown_trans HG2.out hg)
  have HSL := Lib.hid hs
  have HNE := Lib.hid hne
  clear hst hg hs hne hx
  obtain ⟨ak, lk, ck, hk⟩ := HST3.out
  have hcut := hk.c1
  clear hk
  have g6 : 0 < l3 := by omega
  have g7 : l3 ≤ 140737488355328 := by omega
  go_wp2
  go_ret2
  exact ⟨_, _, _, rfl, HSL.out, HNE.out, HST3.out, HG3.out⟩

set_option maxHeartbeats 1000000 in
theorem step_11 (R : Nat) (ab : Option Addr) (lb cb : Nat) (base : List Int) (zs : List Int) (w : World) (hs : StE w R zs false) (hb : Sl w ab lb cb base) (hbn : ∀ b off, ab = some ⟨b, off, none⟩ → 0 < lb → b < R) (hp : 0 < zs.length) (h1 : ¬ zs.getD 0 0 = 1) (h2 : ¬ zs.getD 0 0 = 2) :
    Calls Try.prog 14 #[.pointer (some ⟨R, 0, none⟩), .slice ab lb cb] w (StepRet R (step base zs) w) := by
  have HR : Hid (step base zs = .error 16) := Lib.hid (by unfold step; rw [if_neg h1, if_neg h2])
  rw [HR.out]
  show Calls _ _ _ _ (StepErr R 16 w)
  obtain ⟨a, len, cap, h⟩ := hs
  have hl := h.sl.hlen
  have hbd := h.sl.hbyte
  rw [← hl] at hbd
  have hn1 := num_bd _ (drop_bd hbd 1)
  have hn5 := num_bd _ (drop_bd hbd 5)
  have hbl := hb.hlen
  have hbc := hb.hcap
  have hbr := hb.hreach
  have HB := Lib.hid hb
  have HBN := Lib.hid hbn
  have HT := Lib.hid (take_ok R a len cap zs false 1 w h (by omega) (by omega))
  clear h hb hbn hbd
  rw [hl] at hp
  generalize hN1 : num (zs.drop 1) = n1 at *
  generalize hN5 : num (zs.drop 5) = n5 at *
  have HN1 := Lib.hid hN1
  have HN5 := Lib.hid hN5
  clear hN1 hN5
  go_enter Try.func14, Try.ntmps14
  go_wp2_with fail
  refine HT.out.mono ?_
  rintro e w1 ⟨a1, l1, c1, rfl, hs, hne, hst, hg⟩
  obtain rfl : l1 = 1 := by rw [← hs.hlen]; simp; omega
  obtain ⟨b0, o0, rfl, q0⟩ := hs.hcell 0 (by omega)
  have e0 : (zs.take (1 : Int).toNat).getD 0 0 = zs.getD 0 0 := by simp [List.getD]
  rw [e0] at q0
  generalize zs.getD 0 0 = z0 at *
  have HST1 := Lib.hid hst
  have HG1 := Lib.hid hg
  have t1 : (1 : Int).toNat = 1 := rfl
  rw [t1] at HST1
  clear hs hne hst hg HT e0 t1
  simp only [Nat.add_zero] at q0
  have hq1 : (z0 == 1) = false := by simp [h1]
  have hq2 : (z0 == 2) = false := by simp [h2]
  clear h1 h2
  obtain ⟨ak, lk, ck, hk⟩ := HST1.out
  have hcut := hk.c1
  clear hk
  go_wp2
  go_ret2
  exact ⟨rfl, HG1.out⟩

theorem step_any (R : Nat) (ab : Option Addr) (lb cb : Nat) (base : List Int) (zs : List Int) (w : World) (hs : StE w R zs false) (hb : Sl w ab lb cb base) (hbn : ∀ b off, ab = some ⟨b, off, none⟩ → 0 < lb → b < R) (hp : 0 < zs.length) :
    Calls Try.prog 14 #[.pointer (some ⟨R, 0, none⟩), .slice ab lb cb] w (StepRet R (step base zs) w) := by
  by_cases h1 : zs.getD 0 0 = 1
  · by_cases h2 : zs.length < 5
    · exact step_1 R ab lb cb base zs w hs hb hbn hp h1 h2
    by_cases h3 : zs.length < 9
    · exact step_2 R ab lb cb base zs w hs hb hbn hp h1 (by omega) h3
    by_cases h4 : (base.length : Int) < num (zs.drop 1)
    · exact step_3 R ab lb cb base zs w hs hb hbn hp h1 (by omega) h4
    by_cases h5 : (base.length : Int) - num (zs.drop 1) < num (zs.drop 5)
    · exact step_4 R ab lb cb base zs w hs hb hbn hp h1 (by omega) h4 h5
    by_cases h6 : num (zs.drop 5) = 0
    · exact step_5 R ab lb cb base zs w hs hb hbn hp h1 (by omega) h4 h5 h6
    · exact step_6 R ab lb cb base zs w hs hb hbn hp h1 (by omega) h4 h5 h6
  by_cases h2 : zs.getD 0 0 = 2
  · by_cases h3 : zs.length < 5
    · exact step_7 R ab lb cb base zs w hs hb hbn hp h2 h3
    by_cases h4 : ((zs.length - 5 : Nat) : Int) < num (zs.drop 1)
    · exact step_8 R ab lb cb base zs w hs hb hbn hp h2 (by omega) h4
    by_cases h5 : num (zs.drop 1) = 0
    · exact step_9 R ab lb cb base zs w hs hb hbn hp h2 (by omega) h4 h5
    · exact step_10 R ab lb cb base zs w hs hb hbn hp h2 (by omega) h4 h5
  · exact step_11 R ab lb cb base zs w hs hb hbn hp h1 h2
end Go.Proofs.Ytkelgaanehihbaa.Dt
